import PyProof.Rows.All
import Wide.All
import OpenK.AllK
import Wide.FinOn
import HandS.ForMost
import HandS.ForExc
import HandS.Wide
import HandS.Walk
import HandS.Strs
import HandS.TupAny
import HandS.IsInst
import HandS.Deep
import HandS.NoneIn
import KE.KRevSl
import HandS.SortInts
import HandS.SetFor
import HandS.WordsDict
import HandS.Ends
import PyProof.ReprRoads
import HandS.Style
import PySem.Challenge.RW_handkept_k25_rules_of_any_value
set_option Elab.async false
set_option linter.all false
set_option maxRecDepth 100000
/-! R1: readings by data. A value D without addresses; a store of cells (what may still change); m: what an expression does to slots and store; iE m, iS m: readings that say so. -/
namespace Rf
open PySem L2

inductive D where
  | non | bl (b : Bool) | int (i : Int) | str (x : Str)
  | tup (xs : List D) | lst (xs : List D) | fro (xs : List D)
  | dk (kvs : List (Key × D)) | dt (kvs : List (List Key × D))
  | ins (c : Str) (fs : List (Str × D))
  | loc (n : Nat)
  | ty (n : String) | cl (c : Str) | sti (ns : List Int)
deriving Inhabited
abbrev Sto := List D
abbrev Rho := List (Option D)
/-- an exception: its class, its attributes -/
structure Exn where
  cls : Str
  fs : List (Str × D)
inductive Res (α : Type) where
  | stuck | ok (a : α) (S : Sto) | err (x : Exn) (S : Sto)
abbrev M := Rho → Sto → Res D
def Res.bnd {α β : Type} (r : Res α) (k : α → Sto → Res β) : Res β := match r with
  | .stuck => .stuck
  | .ok a S => k a S
  | .err x S => .err x S
inductive Out where
  | stuck | nx (ρ : Rho) (S : Sto) | rt (d : D) (S : Sto) | bk (ρ : Rho) (S : Sto) | ct (ρ : Rho) (S : Sto) | err (x : Exn) (S : Sto)
abbrev MS := Rho → Sto → Out
def Res.out {α : Type} (r : Res α) (k : α → Sto → Out) : Out := match r with
  | .stuck => .stuck
  | .ok a S => k a S
  | .err x S => .err x S

/-! ### what stands where -/
/-- the text's facts: the written part, the classes by name -/
structure Yt where
  K : PySem.W.Frag
  w : World
  cls : Str → Option Addr
mutual
inductive Rp (Y : Yt) (as : List Addr) (F : Hp) : D → V → Prop
  | non : Rp Y as F .non .non
  | bl (b : Bool) : Rp Y as F (.bl b) (.bl b)
  | int (i : Int) : Rp Y as F (.int i) (.int i)
  | str (x : Str) : Rp Y as F (.str x) (.str x)
  | tup {a : Addr} {vs : List V} {ds : List D} : SqT Y.K F a vs → Rps Y as F ds vs → Rp Y as F (.tup ds) (.ref a)
  | lst {a : Addr} {vs : List V} {ds : List D} : F a = some (.lst vs) → Rps Y as F ds vs → Rp Y as F (.lst ds) (.ref a)
  | fro {a : Addr} {vs : List V} {ds : List D} : SqL Y.K F a vs → Rps Y as F ds vs → Rp Y as F (.fro ds) (.ref a)
  | dk {a : Addr} {ws : List (Key × V)} {kvs : List (Key × D)} {vs : List V} : F a = some (.dK ws) → ws.map (·.1) = kvs.map (·.1) → vs = ws.map (·.2) → Rps Y as F (kvs.map (·.2)) vs → Rp Y as F (.dk kvs) (.ref a)
  | dt {a : Addr} {ws : List (List Key × V)} {kvs : List (List Key × D)} {vs : List V} : F a = some (.dT ws) → ws.map (·.1) = kvs.map (·.1) → vs = ws.map (·.2) → Rps Y as F (kvs.map (·.2)) vs → Rp Y as F (.dt kvs) (.ref a)
  | ins {a C dx : Addr} {c : Str} {ws : List (Str × V)} {fs : List (Str × D)} {vs : List V} : Y.cls c = some C → F a = some (.ins C dx ws) → ws.map (·.1) = fs.map (·.1) → vs = ws.map (·.2) → Rps Y as F (fs.map (·.2)) vs → Rp Y as F (.ins c fs) (.ref a)
  | loc {n : Nat} {a : Addr} : as[n]? = some a → Rp Y as F (.loc n) (.ref a)
  | ty (n : String) : Rp Y as F (.ty n) (.ty n)
  | cl {c : Str} {C : Addr} : Y.cls c = some C → Rp Y as F (.cl c) (.ref C)
  | sti {a : Addr} {ns : List Int} {n : Nat} : F a = some (SetO Y.w a (fun j => decide (j ∈ ns)) n) → n ≤ ns.length → Rp Y as F (.sti ns) (.ref a)
inductive Rps (Y : Yt) (as : List Addr) (F : Hp) : List D → List V → Prop
  | nil : Rps Y as F [] []
  | cons {d : D} {v : V} {ds : List D} {vs : List V} : Rp Y as F d v → Rps Y as F ds vs → Rps Y as F (d :: ds) (v :: vs)
end
/-- the world goes on: F is what values lean on, as are the cells; all else that is tracked stays; what F gets is new, or was a cell -/
structure Xt (H F : Hp) (as : List Addr) (H' F' : Hp) (as' : List Addr) : Prop where
  pre : ∀ (n : Nat) (a : Addr), as[n]? = some a → as'[n]? = some a
  ex : ∀ a o, F a = some o → F' a = some o
  st : ∀ a o, a ∉ as → H a = some o → a ∉ as' ∧ H' a = some o
  gr : ∀ a o, F' a = some o → F a = some o ∨ H a = none ∨ a ∈ as
theorem Xt.refl (H F : Hp) (as : List Addr) : Xt H F as H F as := ⟨fun _ _ h => h, fun _ _ h => h, fun _ _ h1 h2 => ⟨h1, h2⟩, fun _ _ h => .inl h⟩
theorem Xt.trans {as bs cs : List Addr} {H H1 H2 F F1 F2 : Hp} (a : Xt H F as H1 F1 bs) (b : Xt H1 F1 bs H2 F2 cs) : Xt H F as H2 F2 cs := by
  refine ⟨fun n x h => b.pre n x (a.pre n x h), fun x o h => b.ex x o (a.ex x o h), fun x o h1 h2 => ?_, fun x o h => ?_⟩
  · obtain ⟨h3, h4⟩ := a.st x o h1 h2
    exact b.st x o h3 h4
  · have two : ∀ o, x ∉ as → H x = some o → x ∉ bs ∧ H1 x = some o := fun o h1 h2 => a.st x o h1 h2
    rcases b.gr x o h with h1 | h1 | h1
    · exact a.gr x o h1
    · by_cases hx : x ∈ as
      · exact .inr (.inr hx)
      · cases hh : H x with
        | none => exact .inr (.inl rfl)
        | some u =>
          have q := (two u hx hh).2
          rw [h1] at q
          cases q
    · by_cases hx : x ∈ as
      · exact .inr (.inr hx)
      · cases hh : H x with
        | none => exact .inr (.inl rfl)
        | some u => exact absurd h1 (two u hx hh).1
theorem rd_ex {F F' : Hp} (e : ∀ a o, F a = some o → F' a = some o) {a : Addr} {u : HO} (h : Rd F a u) : Rd F' a u := by
  rcases h with h | ⟨o, h⟩
  · exact .inl (e a _ h)
  · exact .inr ⟨o, e a _ h⟩
theorem sqt_ex {K : PySem.W.Frag} {F F' : Hp} (e : ∀ a o, F a = some o → F' a = some o) {a : Addr} {xs : List V} (h : SqT K F a xs) : SqT K F' a xs := h.imp (rd_ex e) id
theorem sql_ex {K : PySem.W.Frag} {F F' : Hp} (e : ∀ a o, F a = some o → F' a = some o) {a : Addr} {xs : List V} (h : SqL K F a xs) : SqL K F' a xs := h.imp (rd_ex e) id
mutual
theorem Rp.mo {Y : Yt} {as as' : List Addr} {F F' : Hp} (p : ∀ (n : Nat) (a : Addr), as[n]? = some a → as'[n]? = some a) (e : ∀ a o, F a = some o → F' a = some o) : ∀ {d : D} {v : V}, Rp Y as F d v → Rp Y as' F' d v
  | _, _, .non => .non
  | _, _, .bl b => .bl b
  | _, _, .int i => .int i
  | _, _, .str x => .str x
  | _, _, .tup h r => .tup (sqt_ex e h) (Rps.mo p e r)
  | _, _, .lst h r => .lst (e _ _ h) (Rps.mo p e r)
  | _, _, .fro h r => .fro (sql_ex e h) (Rps.mo p e r)
  | _, _, .dk h k z r => .dk (e _ _ h) k z (Rps.mo p e r)
  | _, _, .dt h k z r => .dt (e _ _ h) k z (Rps.mo p e r)
  | _, _, .ins c h k z r => .ins c (e _ _ h) k z (Rps.mo p e r)
  | _, _, .loc h => .loc (p _ _ h)
  | _, _, .ty n => .ty n
  | _, _, .cl h => .cl h
  | _, _, .sti h k => .sti (e _ _ h) k
theorem Rps.mo {Y : Yt} {as as' : List Addr} {F F' : Hp} (p : ∀ (n : Nat) (a : Addr), as[n]? = some a → as'[n]? = some a) (e : ∀ a o, F a = some o → F' a = some o) : ∀ {ds : List D} {vs : List V}, Rps Y as F ds vs → Rps Y as' F' ds vs
  | _, _, .nil => .nil
  | _, _, .cons h r => .cons (Rp.mo p e h) (Rps.mo p e r)
end
theorem Rps.length {Y : Yt} {as : List Addr} {F : Hp} : ∀ {ds : List D} {vs : List V}, Rps Y as F ds vs → ds.length = vs.length
  | _, _, .nil => rfl
  | _, _, .cons _ r => by rw [List.length_cons, List.length_cons, r.length]
theorem Rps.get {Y : Yt} {as : List Addr} {F : Hp} : ∀ {ds : List D} {vs : List V} {i : Nat} {d : D}, Rps Y as F ds vs → ds[i]? = some d → ∃ v, vs[i]? = some v ∧ Rp Y as F d v
  | _, _, _, _, .nil, e => by simp at e
  | _, _, 0, _, .cons h _, e => by simp at e; subst e; exact ⟨_, rfl, h⟩
  | _, _, i + 1, d, .cons _ r, e => by
    obtain ⟨v, h1, h2⟩ := Rps.get (i := i) (d := d) r (by simpa using e)
    exact ⟨v, by simpa using h1, h2⟩
theorem Rps.getV {Y : Yt} {as : List Addr} {F : Hp} {ds : List D} {vs : List V} {i : Nat} {v : V} (r : Rps Y as F ds vs) (e : vs[i]? = some v) : ∃ d, ds[i]? = some d ∧ Rp Y as F d v := by
  have hi : i < ds.length := by rw [r.length]; exact (List.getElem?_eq_some_iff.mp e).1
  obtain ⟨w, h1, h2⟩ := r.get (List.getElem?_eq_getElem hi)
  rw [e] at h1
  cases h1
  exact ⟨_, List.getElem?_eq_getElem hi, h2⟩
theorem Rps.app {Y : Yt} {as : List Addr} {F : Hp} : ∀ {ds es : List D} {vs ws : List V}, Rps Y as F ds vs → Rps Y as F es ws → Rps Y as F (ds ++ es) (vs ++ ws)
  | _, _, _, _, .nil, s => s
  | _, _, _, _, .cons h r, s => .cons h (Rps.app r s)
theorem Rps.set {Y : Yt} {as : List Addr} {F : Hp} {d : D} {v : V} (h : Rp Y as F d v) : ∀ {ds : List D} {vs : List V} (i : Nat), Rps Y as F ds vs → Rps Y as F (ds.set i d) (vs.set i v)
  | _, _, _, .nil => .nil
  | _, _, 0, .cons _ r => .cons h r
  | _, _, i + 1, .cons q r => .cons q (Rps.set h i r)
theorem Rps.take {Y : Yt} {as : List Addr} {F : Hp} : ∀ {ds : List D} {vs : List V} (n : Nat), Rps Y as F ds vs → Rps Y as F (ds.take n) (vs.take n)
  | _, _, 0, _ => by simp; exact .nil
  | _, _, _ + 1, .nil => .nil
  | _, _, n + 1, .cons h r => .cons h (Rps.take n r)
theorem Rps.drop {Y : Yt} {as : List Addr} {F : Hp} : ∀ {ds : List D} {vs : List V} (n : Nat), Rps Y as F ds vs → Rps Y as F (ds.drop n) (vs.drop n)
  | _, _, 0, r => r
  | _, _, _ + 1, .nil => .nil
  | _, _, n + 1, .cons _ r => Rps.drop n r
/-- what stands in a cell -/
def ObAt (Y : Yt) (as : List Addr) (F H : Hp) (a : Addr) : D → Prop
  | .lst ds => ∃ vs, H a = some (.lst vs) ∧ Rps Y as F ds vs
  | .dk kvs => ∃ ws, H a = some (.dK ws) ∧ ws.map (·.1) = kvs.map (·.1) ∧ Rps Y as F (kvs.map (·.2)) (ws.map (·.2))
  | .dt kvs => ∃ ws, H a = some (.dT ws) ∧ ws.map (·.1) = kvs.map (·.1) ∧ Rps Y as F (kvs.map (·.2)) (ws.map (·.2))
  | .ins c fs => ∃ C dx ws, Y.cls c = some C ∧ H a = some (.ins C dx ws) ∧ ws.map (·.1) = fs.map (·.1) ∧ Rps Y as F (fs.map (·.2)) (ws.map (·.2))
  | _ => False
structure StR (Y : Yt) (H F : Hp) (as : List Addr) (S : Sto) : Prop where
  sub : ∀ a o, F a = some o → a ∉ as ∧ H a = some o
  len : as.length = S.length
  nd : as.Nodup
  ob : ∀ (n : Nat) (a : Addr) (d : D), as[n]? = some a → S[n]? = some d → ObAt Y as F H a d
structure FrR (Y : Yt) (as : List Addr) (F : Hp) (ρ : Rho) (σ : L2.St) : Prop where
  len : ρ.length = σ.length
  at_ : ∀ (i : Nat) (d : D), ρ[i]? = some (some d) → ∃ v, σ[i]? = some (some v) ∧ Rp Y as F d v
theorem FrR.mo {Y : Yt} {as as' : List Addr} {H F H' F' : Hp} {ρ : Rho} {σ : L2.St} (f : FrR Y as F ρ σ) (x : Xt H F as H' F' as') : FrR Y as' F' ρ σ := ⟨f.len, fun i d h => by
  obtain ⟨v, e, r⟩ := f.at_ i d h
  exact ⟨v, e, r.mo x.pre x.ex⟩⟩
theorem FrR.set {Y : Yt} {as : List Addr} {F : Hp} {ρ : Rho} {σ : L2.St} {d : D} {v : V} {i : Nat} (f : FrR Y as F ρ σ) (r : Rp Y as F d v) : FrR Y as F (ρ.set i (some d)) (σ.set i (some v)) := by
  refine ⟨by simp [f.len], fun j e h => ?_⟩
  by_cases hj : i = j
  · subst hj
    rw [List.getElem?_set_self'] at h ⊢
    cases h1 : ρ[i]? with
    | none => rw [h1] at h; simp at h
    | some q =>
      rw [h1] at h
      simp at h
      subst h
      have hi : i < σ.length := by rw [← f.len]; exact (List.getElem?_eq_some_iff.mp h1).1
      refine ⟨v, ?_, r⟩
      rw [List.getElem?_eq_getElem hi]
      rfl
  · rw [List.getElem?_set_ne hj] at h ⊢
    exact f.at_ j e h
/-- an exception as it stands -/
def ExR (Y : Yt) (as : List Addr) (F : Hp) (x : Exn) (cls : Value) (dx : Option Addr) (H : Hp) : Prop :=
  ∃ C, Y.cls x.cls = some C ∧ cls = .ref C ∧ match x.fs with
    | [] => dx = none
    | fs => ∃ d ws, dx = some d ∧ H d = some (.xd ws) ∧ ws.map (·.1) = fs.map (·.1) ∧ Rps Y as F (fs.map (·.2)) (ws.map (·.2))

/-! ### what follows -/
section
variable (Y : Yt) (E : XK)
abbrev Rl (α β : Type) := List Addr → Hp → α → β → Prop
def After {α β : Type} (rl : Rl α β) (as : List Addr) (F H : Hp) (r : Res α) (Q : β → Hp → Prop) : Prop := match r with
  | .stuck => False
  | .ok d S' => ∀ as' F' H' v, Xt H F as H' F' as' → StR Y H' F' as' S' → rl as' F' d v → Q v H'
  | .err x S' => ∀ as' F' H' cls dx, Xt H F as H' F' as' → StR Y H' F' as' S' → ExR Y as' F' x cls dx H' → E cls dx H'
def AfterS (as : List Addr) (F H : Hp) (o : Out) (Dn : Ends) : Prop := match o with
  | .stuck => False
  | .nx ρ S' => ∀ as' F' H' σ', Xt H F as H' F' as' → StR Y H' F' as' S' → FrR Y as' F' ρ σ' → Dn.nx σ' H'
  | .bk ρ S' => ∀ as' F' H' σ', Xt H F as H' F' as' → StR Y H' F' as' S' → FrR Y as' F' ρ σ' → Dn.bk σ' H'
  | .ct ρ S' => ∀ as' F' H' σ', Xt H F as H' F' as' → StR Y H' F' as' S' → FrR Y as' F' ρ σ' → Dn.ct σ' H'
  | .rt d S' => ∀ as' F' H' v, Xt H F as H' F' as' → StR Y H' F' as' S' → Rp Y as' F' d v → Dn.rt v H'
  | .err x S' => ∀ as' F' H' cls dx, Xt H F as H' F' as' → StR Y H' F' as' S' → ExR Y as' F' x cls dx H' → E cls dx H'
/-- a state held by slots and store -/
structure At (σ : L2.St) (H F : Hp) (as : List Addr) (ρ : Rho) (S : Sto) : Prop where
  st : StR Y H F as S
  fr : FrR Y as F ρ σ
def iE (m : M) : TE := fun σ H Q => ∃ F as ρ S, At Y σ H F as ρ S ∧ After Y E (Rp Y) as F H (m ρ S) Q
def iA (m : Rho → Sto → Res (List D)) : TA := fun σ H Q => ∃ F as ρ S, At Y σ H F as ρ S ∧ After Y E (Rps Y) as F H (m ρ S) Q
def iT (m : Rho → Sto → Res Bool) : TT := fun σ H Q => ∃ F as ρ S, At Y σ H F as ρ S ∧ After Y E (fun _ _ a b => a = b) as F H (m ρ S) Q
def iS (m : MS) : TS := fun Dn σ H => ∃ F as ρ S, At Y σ H F as ρ S ∧ AfterS Y E as F H (m ρ S) Dn
end
section
variable {Y : Yt} {E : XK} {α β γ δ : Type} {rl : Rl α β} {as : List Addr} {F H : Hp}
theorem At.mo {σ : L2.St} {ρ : Rho} {S S' : Sto} {as' : List Addr} {F' H' : Hp} (a : At Y σ H F as ρ S) (x : Xt H F as H' F' as') (s : StR Y H' F' as' S') : At Y σ H' F' as' ρ S' := ⟨s, a.fr.mo x⟩
theorem After.imp {r : Res α} {Q Q' : β → Hp → Prop} (h : After Y E rl as F H r Q) (k : ∀ v H', Q v H' → Q' v H') : After Y E rl as F H r Q' := by
  cases r with
  | stuck => exact h
  | ok d S' => exact fun as' F' H' v x s q => k v H' (h as' F' H' v x s q)
  | err x S' => exact h
theorem After.weak {r : Res α} {Q : β → Hp → Prop} {as1 : List Addr} {F1 H1 : Hp} (x : Xt H F as H1 F1 as1) (h : After Y E rl as F H r Q) : After Y E rl as1 F1 H1 r Q := by
  cases r with
  | stuck => exact h
  | ok d S' => exact fun as' F' H' v x' s q => h as' F' H' v (x.trans x') s q
  | err y S' => exact fun as' F' H' c d x' s q => h as' F' H' c d (x.trans x') s q
theorem AfterS.weak {o : Out} {Dn : Ends} {as1 : List Addr} {F1 H1 : Hp} (x : Xt H F as H1 F1 as1) (h : AfterS Y E as F H o Dn) : AfterS Y E as1 F1 H1 o Dn := by
  cases o with
  | stuck => exact h
  | nx ρ S' => exact fun as' F' H' σ' x' s q => h as' F' H' σ' (x.trans x') s q
  | bk ρ S' => exact fun as' F' H' σ' x' s q => h as' F' H' σ' (x.trans x') s q
  | ct ρ S' => exact fun as' F' H' σ' x' s q => h as' F' H' σ' (x.trans x') s q
  | rt d S' => exact fun as' F' H' v x' s q => h as' F' H' v (x.trans x') s q
  | err y S' => exact fun as' F' H' c d x' s q => h as' F' H' c d (x.trans x') s q
/-- one thing, then the next -/
theorem After.bnd {rl' : Rl γ δ} {r : Res α} {k : α → Sto → Res γ} {Q : δ → Hp → Prop} (h : After Y E rl' as F H (r.bnd k) Q) :
    After Y E rl as F H r fun v H1 => ∃ d S1 F1 as1, Xt H F as H1 F1 as1 ∧ StR Y H1 F1 as1 S1 ∧ rl as1 F1 d v ∧ After Y E rl' as1 F1 H1 (k d S1) Q := by
  cases r with
  | stuck => exact h
  | ok d S' => exact fun as' F' H' v x s q => ⟨d, S', F', as', x, s, q, After.weak x h⟩
  | err x S' => exact h
theorem After.out {r : Res α} {k : α → Sto → Out} {Dn : Ends} (h : AfterS Y E as F H (r.out k) Dn) :
    After Y E rl as F H r fun v H1 => ∃ d S1 F1 as1, Xt H F as H1 F1 as1 ∧ StR Y H1 F1 as1 S1 ∧ rl as1 F1 d v ∧ AfterS Y E as1 F1 H1 (k d S1) Dn := by
  cases r with
  | stuck => exact h
  | ok d S' => exact fun as' F' H' v x s q => ⟨d, S', F', as', x, s, q, AfterS.weak x h⟩
  | err x S' => exact h
/-- at once -/
theorem After.now {a : α} {S : Sto} {v : β} {Q : β → Hp → Prop} (h : After Y E rl as F H (.ok a S) Q) (s : StR Y H F as S) (r : rl as F a v) : Q v H := h as F H v (Xt.refl _ _ _) s r
end
theorem PE_imp {X : Cx} {e : Expr} {t t' : TE} (h : PE X e t) (k : ∀ σ H Q, t' σ H Q → t σ H Q) : PE X e t' := ⟨fun pins s σ H Q I q => h.run pins s σ H Q I (k σ H Q q)⟩
theorem PT_imp {X : Cx} {e : Expr} {t t' : TT} (h : PT X e t) (k : ∀ σ H Q, t' σ H Q → t σ H Q) : PT X e t' := ⟨fun pins s σ H Q I q => h.run pins s σ H Q I (k σ H Q q)⟩
theorem PA_imp {X : Cx} {e : List Expr} {t t' : TA} (h : PA X e t) (k : ∀ σ H Q, t' σ H Q → t σ H Q) : PA X e t' := ⟨fun pos pins s σ H Q I q => h.run pos pins s σ H Q I (k σ H Q q)⟩
theorem PS_imp {X : Cx} {e : Stmt} {t t' : TS} (h : PS X e t) (k : ∀ D σ H, t' D σ H → t D σ H) : PS X e t' := ⟨fun pins s σ H D I q => h.run pins s σ H D I (k D σ H q)⟩
theorem PSs_imp {X : Cx} {e : List Stmt} {t t' : TS} (h : PSs X e t) (k : ∀ D σ H, t' D σ H → t D σ H) : PSs X e t' := ⟨fun pins s σ H D I q => h.run pins s σ H D I (k D σ H q)⟩

/-! ### expressions -/
section
variable {X : Cx} {Y : Yt} {E : XK} {pos : Pos} {a b e : Expr} {es : List Expr} {ma mb m : M}
def mV (i : Nat) : M := fun ρ S => match ρ[i]? with
  | some (some d) => .ok d S
  | _ => .stuck
def mC (d : D) : M := fun _ S => .ok d S
theorem i_var {i : Nat} (h : PE X e (tVar i)) : PE X e (iE Y E (mV i)) := PE_imp h fun σ H Q ⟨F, as, ρ, S, t, q⟩ => by
  unfold mV at q
  split at q
  · rename_i d hd
    obtain ⟨v, e1, r⟩ := t.fr.at_ i d hd
    exact ⟨v, e1, q.now t.st r⟩
  · exact q.elim
theorem i_c {v : V} {d : D} (h : PE X e (tC v)) (r : ∀ as F, Rp Y as F d v) : PE X e (iE Y E (mC d)) := PE_imp h fun σ H Q ⟨F, as, ρ, S, t, q⟩ => q.now t.st (r _ _)
theorem i_int {i j} : PE X (.Constant (.int i) j pos) (iE Y E (mC (.int i))) := i_c pe_int fun _ _ => .int i
theorem i_bl {c j} : PE X (.Constant (.bool c) j pos) (iE Y E (mC (.bl c))) := i_c pe_bl fun _ _ => .bl c
theorem i_non {j} : PE X (.Constant .none j pos) (iE Y E (mC .non)) := i_c pe_non fun _ _ => .non
theorem i_str {x j} : PE X (.Constant (.str x) j pos) (iE Y E (mC (.str x))) := i_c pe_str fun _ _ => .str x
/-- arguments -/
def mNil : Rho → Sto → Res (List D) := fun _ S => .ok [] S
def mCons (m : M) (r : Rho → Sto → Res (List D)) : Rho → Sto → Res (List D) := fun ρ S => (m ρ S).bnd fun d S1 => (r ρ S1).bnd fun ds S2 => .ok (d :: ds) S2
variable {mr : Rho → Sto → Res (List D)}
theorem ia_nil : PA X [] (iA Y E mNil) := PA_imp pa_nil fun σ H Q ⟨F, as, ρ, S, t, q⟩ => q.now t.st .nil
theorem ia_cons (ha : PE X e (iE Y E m)) (hr : PA X es (iA Y E mr)) (hs : starEach (e :: es) X.env = (false, eval e X.env) :: starEach es X.env := by rfl) : PA X (e :: es) (iA Y E (mCons m mr)) :=
  PA_imp (pa_cons ha hr hs) fun σ H Q ⟨F, as, ρ, S, t, q⟩ => ⟨F, as, ρ, S, t, (After.bnd q).imp fun v H1 ⟨d, S1, F1, as1, x1, s1, r1, q1⟩ =>
    ⟨F1, as1, ρ, S1, t.mo x1 s1, (After.bnd q1).imp fun vs H2 ⟨ds, S2, F2, as2, x2, s2, r2, q2⟩ => q2.now s2 (.cons (r1.mo x2.pre x2.ex) r2)⟩⟩
/-- an operation on two values -/
abbrev F2 := D → D → Sto → Res D
def rD2 (Y : Yt) (E : XK) (f : F2) : R2 := fun x y H Q => ∃ F as S dx dy, StR Y H F as S ∧ Rp Y as F dx x ∧ Rp Y as F dy y ∧ After Y E (Rp Y) as F H (f dx dy S) Q
def mOp (f : F2) (ma mb : M) : M := fun ρ S => (ma ρ S).bnd fun x S1 => (mb ρ S1).bnd fun y S2 => f x y S2
theorem top_of {f : F2} {σ : L2.St} {H : Hp} {Q : VK} (h : iE Y E (mOp f ma mb) σ H Q) : tOp (rD2 Y E f) (iE Y E ma) (iE Y E mb) σ H Q := by
  obtain ⟨F, as, ρ, S, t, q⟩ := h
  exact ⟨F, as, ρ, S, t, (After.bnd q).imp fun v H1 ⟨d, S1, F1, as1, x1, s1, r1, q1⟩ =>
    ⟨F1, as1, ρ, S1, t.mo x1 s1, (After.bnd q1).imp fun w H2 ⟨d2, S2, F2, as2, x2, s2, r2, q2⟩ => ⟨F2, as2, S2, d, d2, s2, r1.mo x2.pre x2.ex, r2, q2⟩⟩⟩
theorem i_op {op : Operator} {f : F2} (ho : OpR X (binaryOp op) (rD2 Y E f)) (ha : PE X a (iE Y E ma)) (hb : PE X b (iE Y E mb)) : PE X (.BinOp a op b pos) (iE Y E (mOp f ma mb)) := PE_imp (pe_op ho ha hb) fun _ _ _ h => top_of h
theorem i_cmp {op : CmpOp} {f : F2} (ho : OpR X (compareOp op) (rD2 Y E f)) (ha : PE X a (iE Y E ma)) (hb : PE X b (iE Y E mb)) (hm : behindInMarks op b = false) : PE X (.Compare a [op] [b] pos) (iE Y E (mOp f ma mb)) := PE_imp (pe_cmpR ho ha hb hm) fun _ _ _ h => top_of h
theorem i_ix {f : F2} (ho : IxR X (rD2 Y E f)) (ha : PE X a (iE Y E ma)) (hb : PE X b (iE Y E mb)) (hs : PlainIx b) : PE X (.Subscript a b pos) (iE Y E (mOp f ma mb)) := PE_imp (pe_ix ho ha hb hs) fun _ _ _ h => top_of h
end
end Rf

set_option Elab.async false
set_option linter.all false
set_option maxRecDepth 100000
/-! R2: new objects, cells, displays, tests, statements. -/
namespace Rf
open PySem L2
section
variable {Y : Yt} {E : XK} {as : List Addr} {S : Sto} {H F : Hp}
theorem ob_some {a : Addr} {d : D} (h : ObAt Y as F H a d) : ∃ o, H a = some o := by
  cases d with
  | lst ds => obtain ⟨vs, e, _⟩ := h; exact ⟨_, e⟩
  | dk ds => obtain ⟨vs, e, _⟩ := h; exact ⟨_, e⟩
  | dt ds => obtain ⟨vs, e, _⟩ := h; exact ⟨_, e⟩
  | ins c fs => obtain ⟨C, dx, ws, _, e, _⟩ := h; exact ⟨_, e⟩
  | _ => exact h.elim
theorem ob_mo {F' H' : Hp} {as' : List Addr} {a : Addr} {d : D} (p : ∀ (n : Nat) (a : Addr), as[n]? = some a → as'[n]? = some a) (e : ∀ a o, F a = some o → F' a = some o) (k : H' a = H a) (h : ObAt Y as F H a d) : ObAt Y as' F' H' a d := by
  cases d with
  | lst ds => obtain ⟨vs, e1, r⟩ := h; exact ⟨vs, by rw [k]; exact e1, r.mo p e⟩
  | dk ds => obtain ⟨vs, e1, z, r⟩ := h; exact ⟨vs, by rw [k]; exact e1, z, r.mo p e⟩
  | dt ds => obtain ⟨vs, e1, z, r⟩ := h; exact ⟨vs, by rw [k]; exact e1, z, r.mo p e⟩
  | ins c fs => obtain ⟨C, dx, ws, c1, e1, z, r⟩ := h; exact ⟨C, dx, ws, c1, by rw [k]; exact e1, z, r.mo p e⟩
  | _ => exact h.elim
theorem StR.mem (s : StR Y H F as S) {a : Addr} (h : a ∈ as) : ∃ o, H a = some o := by
  obtain ⟨n, hn, e⟩ := List.getElem_of_mem h
  have hs : n < S.length := by rw [← s.len]; exact hn
  exact ob_some (s.ob n a S[n] (by rw [List.getElem?_eq_getElem hn, e]) (List.getElem?_eq_getElem hs))
theorem StR.fresh (s : StR Y H F as S) {p : Addr} (h : H p = none) : p ∉ as := fun z => by
  obtain ⟨o, e⟩ := s.mem z
  rw [h] at e
  cases e
theorem StR.freshF (s : StR Y H F as S) {p : Addr} (h : H p = none) : F p = none := by
  cases e : F p with
  | none => rfl
  | some o =>
    have := (s.sub p o e).2
    rw [h] at this
    cases this
/-- a new object that nobody will change -/
theorem Xt.new (s : StR Y H F as S) {p : Addr} {o : HO} (h : H p = none) : Xt H F as (upd H p o) (upd F p o) as := by
  have hF := s.freshF h
  refine ⟨fun _ _ z => z, fun a u e => ?_, fun a u h1 h2 => ⟨h1, ?_⟩, fun a u e => ?_⟩
  · rw [upd_ne (ne_of_none e hF)]; exact e
  · rw [upd_ne (ne_of_none h2 h)]; exact h2
  · by_cases z : a = p
    · subst z; exact .inr (.inl h)
    · rw [upd_ne z] at e; exact .inl e
theorem StR.new (s : StR Y H F as S) {p : Addr} {o : HO} (h : H p = none) : StR Y (upd H p o) (upd F p o) as S := by
  refine ⟨fun a u e => ?_, s.len, s.nd, fun n a d e1 e2 => ?_⟩
  · by_cases z : a = p
    · subst z
      rw [upd_same] at e ⊢
      exact ⟨s.fresh h, e⟩
    · rw [upd_ne z] at e ⊢
      exact s.sub a u e
  · have q := s.ob n a d e1 e2
    obtain ⟨u, hu⟩ := ob_some q
    exact ob_mo (fun _ _ z => z) (Xt.new s h).ex (upd_ne (ne_of_none hu h)) q
/-- a new object that is left aside -/
theorem Xt.side (s : StR Y H F as S) {p : Addr} {o : HO} (h : H p = none) : Xt H F as (upd H p o) F as := ⟨fun _ _ z => z, fun _ _ e => e, fun a u h1 h2 => ⟨h1, by rw [upd_ne (ne_of_none h2 h)]; exact h2⟩, fun _ _ e => .inl e⟩
theorem StR.side (s : StR Y H F as S) {p : Addr} {o : HO} (h : p ∉ as) (hF : F p = none) : StR Y (upd H p o) F as S := by
  refine ⟨fun a u e => ?_, s.len, s.nd, fun n a d e1 e2 => ?_⟩
  · obtain ⟨h1, h2⟩ := s.sub a u e
    exact ⟨h1, by rw [upd_ne (ne_of_none e hF)]; exact h2⟩
  · have q := s.ob n a d e1 e2
    refine ob_mo (fun _ _ z => z) (fun _ _ z => z) (upd_ne fun z => ?_) q
    subst z
    exact h (List.mem_of_getElem? e1)
/-- what stands aside is taken in -/
theorem Xt.take {p : Addr} {o : HO} {H0 F0 : Hp} {as0 : List Addr} (x : Xt H0 F0 as0 H F as) (hF : F p = none) (h0 : H0 p = none) : Xt H0 F0 as0 H (upd F p o) as := ⟨x.pre, fun a u e => by
  rw [upd_ne (ne_of_none (x.ex a u e) hF)]; exact x.ex a u e, x.st, fun a u e => by
  by_cases z : a = p
  · subst z; exact .inr (.inl h0)
  · rw [upd_ne z] at e; exact x.gr a u e⟩
theorem StR.take (s : StR Y H F as S) {p : Addr} {o : HO} (h : H p = some o) (hp : p ∉ as) (hF : F p = none) : StR Y H (upd F p o) as S := by
  refine ⟨fun a u e => ?_, s.len, s.nd, fun n a d e1 e2 => ob_mo (fun _ _ z => z) (fun b u e => ?_) rfl (s.ob n a d e1 e2)⟩
  · by_cases z : a = p
    · subst z
      rw [upd_same] at e
      cases e
      exact ⟨hp, h⟩
    · rw [upd_ne z] at e
      exact s.sub a u e
  · rw [upd_ne (ne_of_none e hF)]; exact e
/-- a new cell -/
theorem Xt.cell (s : StR Y H F as S) {p : Addr} {o : HO} (h : H p = none) : Xt H F as (upd H p o) F (as ++ [p]) := ⟨fun n a z => by
  have hn := (List.getElem?_eq_some_iff.mp z).1
  rw [List.getElem?_append_left hn]
  exact z, fun _ _ e => e, fun a u h1 h2 => by
    have ne := ne_of_none h2 h
    refine ⟨fun z => ?_, by rw [upd_ne ne]; exact h2⟩
    rcases List.mem_append.mp z with z | z
    · exact h1 z
    · exact ne (List.mem_singleton.mp z), fun _ _ e => .inl e⟩
theorem StR.cell (s : StR Y H F as S) {p : Addr} {o : HO} {d : D} (h : H p = none) (q : ObAt Y (as ++ [p]) F (upd H p o) p d) : StR Y (upd H p o) F (as ++ [p]) (S ++ [d]) := by
  have x := Xt.cell (o := o) s h
  refine ⟨fun a u e => ?_, by simp [s.len], ?_, fun n a e h1 h2 => ?_⟩
  · obtain ⟨h1, h2⟩ := s.sub a u e
    exact x.st a u h1 h2
  · rw [List.nodup_append]
    refine ⟨s.nd, by simp, fun a ha b hb z => ?_⟩
    rw [List.mem_singleton] at hb
    subst hb
    subst z
    exact s.fresh h ha
  · by_cases hn : n < as.length
    · rw [List.getElem?_append_left hn] at h1
      rw [List.getElem?_append_left (by rw [← s.len]; exact hn)] at h2
      have q1 := s.ob n a e h1 h2
      obtain ⟨u, hu⟩ := ob_some q1
      exact ob_mo x.pre x.ex (upd_ne (ne_of_none hu h)) q1
    · have hl : n = as.length := by
        have := (List.getElem?_eq_some_iff.mp h1).1
        simp at this
        omega
      subst hl
      rw [List.getElem?_append_right (Nat.le_refl _)] at h1
      rw [s.len, List.getElem?_append_right (Nat.le_refl _)] at h2
      simp at h1 h2
      subst h1
      subst h2
      exact q
/-- a cell is written -/
theorem Xt.write {a : Addr} {o : HO} (h : a ∈ as) : Xt H F as (upd H a o) F as := ⟨fun _ _ z => z, fun _ _ e => e, fun b u h1 h2 => ⟨h1, by rw [upd_ne (fun z => h1 (by rw [z]; exact h) : b ≠ a)]; exact h2⟩, fun _ _ e => .inl e⟩
theorem StR.write (s : StR Y H F as S) {n : Nat} {a : Addr} {o : HO} {d : D} (h : as[n]? = some a) (q : ObAt Y as F (upd H a o) a d) : StR Y (upd H a o) F as (S.set n d) := by
  have hm : a ∈ as := List.mem_of_getElem? h
  have hn := (List.getElem?_eq_some_iff.mp h).1
  refine ⟨fun b u e => ?_, by simp [s.len], s.nd, fun j b e h1 h2 => ?_⟩
  · obtain ⟨h1, h2⟩ := s.sub b u e
    exact ⟨h1, by rw [upd_ne (fun z => h1 (by rw [z]; exact hm) : b ≠ a)]; exact h2⟩
  by_cases hj : n = j
  · subst hj
    rw [h] at h1
    cases h1
    rw [List.getElem?_set_self (by rw [← s.len]; exact hn)] at h2
    cases h2
    exact q
  · rw [List.getElem?_set_ne hj] at h2
    have q1 := s.ob j b e h1 h2
    refine ob_mo (fun _ _ z => z) (fun _ _ z => z) (upd_ne fun z => ?_) q1
    subst z
    obtain ⟨hj', ej⟩ := List.getElem?_eq_some_iff.mp h1
    obtain ⟨_, en⟩ := List.getElem?_eq_some_iff.mp h
    exact hj ((List.getElem_inj s.nd).mp (en.trans ej.symm))
theorem StR.at_ (s : StR Y H F as S) {n : Nat} {d : D} (h : S[n]? = some d) : ∃ a, as[n]? = some a ∧ ObAt Y as F H a d := by
  have hn : n < as.length := by rw [s.len]; exact (List.getElem?_eq_some_iff.mp h).1
  exact ⟨_, List.getElem?_eq_getElem hn, s.ob n _ d (List.getElem?_eq_getElem hn) h⟩
end
theorem big {n : Nat} (h : n ≤ 1000000) : n ≤ sizeLine := by rw [sizeLine_eq]; omega

/-! ### displays -/
section
variable {X : Cx} {Y : Yt} {E : XK} {pos : Pos} {a b e : Expr} {es : List Expr} {ma mb m : M} {mr : Rho → Sto → Res (List D)}
def few (n : Nat) : Bool := decide (n ≤ 1000000)
theorem few_line {n : Nat} (h : few n = true) : n ≤ sizeLine := big (of_decide_eq_true h)
def mTup (mr : Rho → Sto → Res (List D)) : M := fun ρ S => (mr ρ S).bnd fun ds S1 => if few ds.length = true then .ok (.tup ds) S1 else .stuck
/-- a list that nobody changes -/
def mLst (mr : Rho → Sto → Res (List D)) : M := fun ρ S => (mr ρ S).bnd fun ds S1 => if few ds.length = true then .ok (.lst ds) S1 else .stuck
/-- a list that may be changed: a cell -/
def mLstC (mr : Rho → Sto → Res (List D)) : M := fun ρ S => (mr ρ S).bnd fun ds S1 => if few ds.length = true then .ok (.loc S1.length) (S1 ++ [.lst ds]) else .stuck
/-- an answer that is a new tuple | a new list | a new list in a cell -/
theorem new_tup {as : List Addr} {S : Sto} {H F : Hp} {ds : List D} {vs : List V} {Q : VK} (s : StR Y H F as S) (r : Rps Y as F ds vs) (q : After Y E (Rp Y) as F H (if few ds.length = true then .ok (.tup ds) S else .stuck) Q) : vs.length ≤ sizeLine ∧ ∀ p, H p = none → Q (.ref p) (upd H p (.tup vs)) := by
  split at q
  · rename_i h
    refine ⟨by rw [← r.length]; exact few_line h, fun p hp => ?_⟩
    have x := Xt.new (o := .tup vs) s hp
    exact q as _ _ _ x (s.new hp) (.tup (.inl (.inl upd_same)) (r.mo x.pre x.ex))
  · exact q.elim
theorem new_lst {as : List Addr} {S : Sto} {H F : Hp} {ds : List D} {vs : List V} {Q : VK} (s : StR Y H F as S) (r : Rps Y as F ds vs) (q : After Y E (Rp Y) as F H (if few ds.length = true then .ok (.lst ds) S else .stuck) Q) : vs.length ≤ sizeLine ∧ ∀ p, H p = none → Q (.ref p) (upd H p (.lst vs)) := by
  split at q
  · rename_i h
    refine ⟨by rw [← r.length]; exact few_line h, fun p hp => ?_⟩
    have x := Xt.new (o := .lst vs) s hp
    exact q as _ _ _ x (s.new hp) (.lst upd_same (r.mo x.pre x.ex))
  · exact q.elim
theorem new_lstC {as : List Addr} {S : Sto} {H F : Hp} {ds : List D} {vs : List V} {Q : VK} (s : StR Y H F as S) (r : Rps Y as F ds vs) (q : After Y E (Rp Y) as F H (if few ds.length = true then .ok (.loc S.length) (S ++ [.lst ds]) else .stuck) Q) : vs.length ≤ sizeLine ∧ ∀ p, H p = none → Q (.ref p) (upd H p (.lst vs)) := by
  split at q
  · rename_i h
    refine ⟨by rw [← r.length]; exact few_line h, fun p hp => ?_⟩
    have x := Xt.cell (o := .lst vs) s hp
    have e : (as ++ [p])[S.length]? = some p := by rw [← s.len]; simp
    exact q (as ++ [p]) _ _ _ x (s.cell hp ⟨vs, upd_same, r.mo x.pre (fun _ _ z => z)⟩) (.loc e)
  · exact q.elim
theorem i_tup {x1} (h : PA X es (iA Y E mr)) : PE X (.Tuple es x1 pos) (iE Y E (mTup mr)) := PE_imp (pe_tup h) fun σ H Q ⟨F, as, ρ, S, t, q⟩ =>
  ⟨F, as, ρ, S, t, (After.bnd q).imp fun vs H1 ⟨ds, S1, F1, as1, x1, s1, r1, q1⟩ => new_tup s1 r1 q1⟩
theorem i_lst (h : PA X es (iA Y E mr)) : PE X (.List es pos) (iE Y E (mLst mr)) := PE_imp (pe_lst h) fun σ H Q ⟨F, as, ρ, S, t, q⟩ =>
  ⟨F, as, ρ, S, t, (After.bnd q).imp fun vs H1 ⟨ds, S1, F1, as1, x1, s1, r1, q1⟩ => new_lst s1 r1 q1⟩
theorem i_lstC (h : PA X es (iA Y E mr)) : PE X (.List es pos) (iE Y E (mLstC mr)) := PE_imp (pe_lst h) fun σ H Q ⟨F, as, ρ, S, t, q⟩ =>
  ⟨F, as, ρ, S, t, (After.bnd q).imp fun vs H1 ⟨ds, S1, F1, as1, x1, s1, r1, q1⟩ => new_lstC s1 r1 q1⟩

/-! ### built-ins and methods, by values -/
abbrev FA := List D → Sto → Res D
def rDA (Y : Yt) (E : XK) (f : FA) : List V → Hp → VK → Prop := fun vs H Q => ∃ F as S ds, StR Y H F as S ∧ Rps Y as F ds vs ∧ After Y E (Rp Y) as F H (f ds S) Q
def mA (f : FA) (mr : Rho → Sto → Res (List D)) : M := fun ρ S => (mr ρ S).bnd f
theorem tcb_of {f : FA} {σ : L2.St} {H : Hp} {Q : VK} (h : iE Y E (mA f mr) σ H Q) : tCB (rDA Y E f) (iA Y E mr) σ H Q := by
  obtain ⟨F, as, ρ, S, t, q⟩ := h
  exact ⟨F, as, ρ, S, t, (After.bnd q).imp fun vs H1 ⟨ds, S1, F1, as1, x1, s1, r1, q1⟩ => ⟨F1, as1, S1, ds, s1, r1, q1⟩⟩
theorem i_callB {x : Str} {p : Pos} {id : String} {f : FA} (hc : CallR X (.builtin id) (rDA Y E f)) (hg : Gl X x) (hm : X.mg x = none) (hv : bootBuiltins x = some (.builtin id)) (ha : PA X (e :: es) (iA Y E mr)) (hn : x ≠ "__name__" := by decide) (hdb : (x == ("__debug__" : Str)) = false := by decide)
    (he : starEach (e :: es) X.env = (false, eval e X.env) :: starEach es X.env := by rfl) (hpl : (backTo pos (starEach es X.env)).any (·.1) = false := by rfl) : PE X (.Call (.Name x p) (e :: es) [] pos) (iE Y E (mA f mr)) :=
  PE_imp (pe_callB hc hg hm hv ha hn hdb he hpl) fun _ _ _ h => tcb_of h
theorem i_callTy {x : Str} {p : Pos} {T : String} {f : FA} (hc : CallR X (.type T) (rDA Y E f)) (hg : Gl X x) (hm : X.mg x = none) (hv : bootBuiltins x = some (.type T)) (ha : PA X (e :: es) (iA Y E mr)) (hn : x ≠ "__name__" := by decide) (hdb : (x == ("__debug__" : Str)) = false := by decide)
    (he : starEach (e :: es) X.env = (false, eval e X.env) :: starEach es X.env := by rfl) (hpl : (backTo pos (starEach es X.env)).any (·.1) = false := by rfl) : PE X (.Call (.Name x p) (e :: es) [] pos) (iE Y E (mA f mr)) :=
  PE_imp (pe_callTy hc hg hm hv ha hn hdb he hpl) fun _ _ _ h => tcb_of h

/-! ### tests -/
abbrev MT := Rho → Sto → Res Bool
variable {ta tb : MT} {rest : List Expr}
def mB (m : M) : MT := fun ρ S => (m ρ S).bnd fun d S1 => match d with
  | .bl c => .ok c S1
  | _ => .stuck
theorem b_of {m : M} {σ : L2.St} {H : Hp} {Q : Bool → Hp → Prop} (h : iT Y E (mB m) σ H Q) : iE Y E m σ H fun x H1 => ∃ c, x = .bl c ∧ Q c H1 := by
  obtain ⟨F, as, ρ, S, t, q⟩ := h
  refine ⟨F, as, ρ, S, t, (After.bnd q).imp fun v H1 ⟨d, S1, F1, as1, x1, s1, r1, q1⟩ => ?_⟩
  cases r1 with
  | bl c => exact ⟨c, rfl, q1.now s1 rfl⟩
  | _ => exact q1.elim
theorem it_cmp {op : CmpOp} {f : F2} (ho : OpR X (compareOp op) (rD2 Y E f)) (ha : PE X a (iE Y E ma)) (hb : PE X b (iE Y E mb)) (hm : behindInMarks op b = false) : PT X (.Compare a [op] [b] pos) (iT Y E (mB (mOp f ma mb))) :=
  PT_imp (pt_cmpR ho ha hb hm) fun σ H Q h => top_of (b_of h)
theorem it_val (h : PE X e (iE Y E m)) (he : ∀ whole, isTrue e X.env whole = (do let v ← whole; standAt e.pos; holding [v] (truthy v)) := by intro _; rfl) : PT X e (iT Y E (mB m)) := PT_imp (pt_val h he) fun σ H Q h => b_of h
def mAnd (ta tb : MT) : MT := fun ρ S => (ta ρ S).bnd fun c S1 => if c = true then tb ρ S1 else .ok false S1
def mOr (ta tb : MT) : MT := fun ρ S => (ta ρ S).bnd fun c S1 => if c = true then .ok true S1 else tb ρ S1
def mNot (ta : MT) : MT := fun ρ S => (ta ρ S).bnd fun c S1 => .ok (!c) S1
theorem PW_imp {X : Cx} {e : Expr} {t t' : TT} (h : PW X e t) (k : ∀ σ H Q, t' σ H Q → t σ H Q) : PW X e t' := ⟨fun wh pins s σ H Q I q => h.run wh pins s σ H Q I (k σ H Q q)⟩
theorem iw_and (ha : PT X a (iT Y E ta)) (hb : PW X (.BoolOp .And (b :: rest) pos) (iT Y E tb)) : PW X (.BoolOp .And (a :: b :: rest) pos) (iT Y E (mAnd ta tb)) := PW_imp (pw_and ha hb) fun σ H Q ⟨F, as, ρ, S, t, q⟩ =>
  ⟨F, as, ρ, S, t, (After.bnd q).imp fun c H1 ⟨d, S1, F1, as1, x1, s1, r1, q1⟩ => by
    cases r1
    cases c with
    | true => exact ⟨F1, as1, ρ, S1, t.mo x1 s1, q1⟩
    | false => exact q1.now s1 rfl⟩
theorem iw_or (ha : PT X a (iT Y E ta)) (hb : PW X (.BoolOp .Or (b :: rest) pos) (iT Y E tb)) : PW X (.BoolOp .Or (a :: b :: rest) pos) (iT Y E (mOr ta tb)) := PW_imp (pw_or ha hb) fun σ H Q ⟨F, as, ρ, S, t, q⟩ =>
  ⟨F, as, ρ, S, t, (After.bnd q).imp fun c H1 ⟨d, S1, F1, as1, x1, s1, r1, q1⟩ => by
    cases r1
    cases c with
    | false => exact ⟨F1, as1, ρ, S1, t.mo x1 s1, q1⟩
    | true => exact q1.now s1 rfl⟩
theorem iw_and1 (ha : PT X a (iT Y E ta)) : PW X (.BoolOp .And [a] pos) (iT Y E ta) := pw_and1 ha
theorem iw_or1 (ha : PT X a (iT Y E ta)) : PW X (.BoolOp .Or [a] pos) (iT Y E ta) := pw_or1 ha
theorem it_not (ha : PT X a (iT Y E ta)) : PT X (.UnaryOp .Not a pos) (iT Y E (mNot ta)) := PT_imp (pt_not ha) fun σ H Q ⟨F, as, ρ, S, t, q⟩ =>
  ⟨F, as, ρ, S, t, (After.bnd q).imp fun c H1 ⟨d, S1, F1, as1, x1, s1, r1, q1⟩ => by
    cases r1
    exact q1.now s1 rfl⟩
/-- and, or, not of bools as values -/
def mAndV (ma mb : M) : M := fun ρ S => (ma ρ S).bnd fun d S1 => match d with
  | .bl c => if c = true then mb ρ S1 else .ok (.bl false) S1
  | _ => .stuck
def mOrV (ma mb : M) : M := fun ρ S => (ma ρ S).bnd fun d S1 => match d with
  | .bl c => if c = true then .ok (.bl true) S1 else mb ρ S1
  | _ => .stuck
def mNotV (ma : M) : M := fun ρ S => (ma ρ S).bnd fun d S1 => match d with
  | .bl c => .ok (.bl (!c)) S1
  | _ => .stuck
theorem i_one {op} (h : PE X a (iE Y E m)) : PE X (.BoolOp op [a] pos) (iE Y E m) := pe_one h
theorem i_and (ha : PE X a (iE Y E ma)) (hb : PE X (.BoolOp .And (b :: rest) pos) (iE Y E mb)) : PE X (.BoolOp .And (a :: b :: rest) pos) (iE Y E (mAndV ma mb)) := PE_imp (pe_and ha hb) fun σ H Q ⟨F, as, ρ, S, t, q⟩ =>
  ⟨F, as, ρ, S, t, (After.bnd q).imp fun v H1 ⟨d, S1, F1, as1, x1, s1, r1, q1⟩ => by
    cases r1 with
    | bl c =>
      refine ⟨c, rfl, ?_⟩
      cases c with
      | true => exact ⟨F1, as1, ρ, S1, t.mo x1 s1, q1⟩
      | false => exact q1.now s1 (.bl false)
    | _ => exact q1.elim⟩
theorem i_or (ha : PE X a (iE Y E ma)) (hb : PE X (.BoolOp .Or (b :: rest) pos) (iE Y E mb)) : PE X (.BoolOp .Or (a :: b :: rest) pos) (iE Y E (mOrV ma mb)) := PE_imp (pe_or ha hb) fun σ H Q ⟨F, as, ρ, S, t, q⟩ =>
  ⟨F, as, ρ, S, t, (After.bnd q).imp fun v H1 ⟨d, S1, F1, as1, x1, s1, r1, q1⟩ => by
    cases r1 with
    | bl c =>
      refine ⟨c, rfl, ?_⟩
      cases c with
      | false => exact ⟨F1, as1, ρ, S1, t.mo x1 s1, q1⟩
      | true => exact q1.now s1 (.bl true)
    | _ => exact q1.elim⟩
theorem i_not (ha : PE X a (iE Y E m)) : PE X (.UnaryOp .Not a pos) (iE Y E (mNotV m)) := PE_imp (pe_not ha) fun σ H Q ⟨F, as, ρ, S, t, q⟩ =>
  ⟨F, as, ρ, S, t, (After.bnd q).imp fun v H1 ⟨d, S1, F1, as1, x1, s1, r1, q1⟩ => by
    cases r1 with
    | bl c => exact ⟨c, rfl, q1.now s1 (.bl _)⟩
    | _ => exact q1.elim⟩
def mIf (t : MT) (ma mb : M) : M := fun ρ S => (t ρ S).bnd fun c S1 => if c = true then ma ρ S1 else mb ρ S1
theorem i_ifExp {c : Expr} (hc : PT X c (iT Y E ta)) (ha : PE X a (iE Y E ma)) (hb : PE X b (iE Y E mb)) : PE X (.IfExp c a b pos) (iE Y E (mIf ta ma mb)) := PE_imp (pe_ifExp hc ha hb) fun σ H Q ⟨F, as, ρ, S, t, q⟩ =>
  ⟨F, as, ρ, S, t, (After.bnd q).imp fun v H1 ⟨d, S1, F1, as1, x1, s1, r1, q1⟩ => by
    cases r1
    cases v with
    | true => exact ⟨F1, as1, ρ, S1, t.mo x1 s1, q1⟩
    | false => exact ⟨F1, as1, ρ, S1, t.mo x1 s1, q1⟩⟩
/-- a op b op' c -/
def mChain (f g : F2) (ma mb mc : M) : M := fun ρ S => (ma ρ S).bnd fun x S1 => (mb ρ S1).bnd fun y S2 => (f x y S2).bnd fun z S3 => match z with
  | .bl k => if k = true then (mc ρ S3).bnd fun w S4 => g y w S4 else .ok (.bl false) S3
  | _ => .stuck
variable {c : Expr} {mc : M}
theorem tchain_of {f g : F2} {σ : L2.St} {H : Hp} {Q : VK} (h : iE Y E (mChain f g ma mb mc) σ H Q) : tChain (rD2 Y E f) (rD2 Y E g) (iE Y E ma) (iE Y E mb) (iE Y E mc) σ H Q := by
  obtain ⟨F, as, ρ, S, t, q⟩ := h
  refine ⟨F, as, ρ, S, t, (After.bnd q).imp fun v H1 ⟨d, S1, F1, as1, x1, s1, r1, q1⟩ => ?_⟩
  refine ⟨F1, as1, ρ, S1, t.mo x1 s1, (After.bnd q1).imp fun w H2 ⟨d2, S2, F2, as2, x2, s2, r2, q2⟩ => ?_⟩
  refine ⟨F2, as2, S2, d, d2, s2, r1.mo x2.pre x2.ex, r2, (After.bnd q2).imp fun z H3 ⟨d3, S3, F3, as3, x3, s3, r3, q3⟩ => ?_⟩
  cases r3 with
  | bl k =>
    refine ⟨k, rfl, ?_⟩
    cases k with
    | true =>
      exact ⟨F3, as3, ρ, S3, ((t.mo x1 s1).mo x2 s2).mo x3 s3, (After.bnd q3).imp fun u H4 ⟨d4, S4, F4, as4, x4, s4, r4, q4⟩ => ⟨F4, as4, S4, d2, d4, s4, (r2.mo x3.pre x3.ex).mo x4.pre x4.ex, r4, q4⟩⟩
    | false => exact q3.now s3 (.bl false)
  | _ => exact q3.elim
theorem i_chain {op op' : CmpOp} {f g : F2} (ho : OpR X (compareOp op) (rD2 Y E f)) (ho' : OpR X (compareOp op') (rD2 Y E g)) (ha : PE X a (iE Y E ma)) (hb : PE X b (iE Y E mb)) (hc : PE X c (iE Y E mc)) (hm : lastMarks [op, op'] [b, c] = false := by with_unfolding_all rfl) :
    PE X (.Compare a [op, op'] [b, c] pos) (iE Y E (mChain f g ma mb mc)) := PE_imp (pe_chain ho ho' ha hb hc hm) fun _ _ _ h => tchain_of h
theorem it_chain {op op' : CmpOp} {f g : F2} (ho : OpR X (compareOp op) (rD2 Y E f)) (ho' : OpR X (compareOp op') (rD2 Y E g)) (ha : PE X a (iE Y E ma)) (hb : PE X b (iE Y E mb)) (hc : PE X c (iE Y E mc)) (hm : lastMarks [op, op'] [b, c] = false := by with_unfolding_all rfl) :
    PT X (.Compare a [op, op'] [b, c] pos) (iT Y E (mB (mChain f g ma mb mc))) := PT_imp (pt_chain ho ho' ha hb hc hm) fun _ _ _ h => tchain_of (b_of h)

/-! ### statements -/
variable {st : Stmt} {sts : List Stmt} {mt mu : MS} {t : MT}
def sNil : MS := fun ρ S => .nx ρ S
def sSeq (mt mu : MS) : MS := fun ρ S => match mt ρ S with
  | .nx ρ1 S1 => mu ρ1 S1
  | o => o
theorem is_nil : PSs X [] (iS Y E sNil) := PSs_imp pss_nil fun Dn σ H ⟨F, as, ρ, S, t, q⟩ => q as F H σ (Xt.refl _ _ _) t.st t.fr
theorem is_one (h : PS X st (iS Y E mt)) : PSs X [st] (iS Y E mt) := pss_one h
theorem is_cons (h1 : PS X st (iS Y E mt)) (h2 : PSs X sts (iS Y E mu)) : PSs X (st :: sts) (iS Y E (sSeq mt mu)) := PSs_imp (pss_cons h1 h2) fun Dn σ H ⟨F, as, ρ, S, t, q⟩ => by
  refine ⟨F, as, ρ, S, t, ?_⟩
  unfold sSeq at q
  cases hm : mt ρ S with
  | nx ρ1 S1 =>
    rw [hm] at q
    exact fun as' F' H' σ' x s f => ⟨F', as', ρ1, S1, ⟨s, f⟩, AfterS.weak x q⟩
  | stuck => rw [hm] at q; exact q
  | rt d S1 => rw [hm] at q; exact q
  | bk ρ1 S1 => rw [hm] at q; exact q
  | ct ρ1 S1 => rw [hm] at q; exact q
  | err x S1 => rw [hm] at q; exact q
def sPass : MS := fun ρ S => .nx ρ S
def sBrk : MS := fun ρ S => .bk ρ S
def sCnt : MS := fun ρ S => .ct ρ S
theorem is_pass : PS X (.Pass pos) (iS Y E sPass) := PS_imp ps_pass fun Dn σ H ⟨F, as, ρ, S, t, q⟩ => q as F H σ (Xt.refl _ _ _) t.st t.fr
theorem is_break : PS X (.Break pos) (iS Y E sBrk) := PS_imp ps_break fun Dn σ H ⟨F, as, ρ, S, t, q⟩ => q as F H σ (Xt.refl _ _ _) t.st t.fr
theorem is_continue : PS X (.Continue pos) (iS Y E sCnt) := PS_imp ps_continue fun Dn σ H ⟨F, as, ρ, S, t, q⟩ => q as F H σ (Xt.refl _ _ _) t.st t.fr
def sRet (m : M) : MS := fun ρ S => (m ρ S).out fun d S1 => .rt d S1
theorem is_ret (h : PE X e (iE Y E m)) : PS X (.Return (some e) pos) (iS Y E (sRet m)) := PS_imp (ps_ret h) fun Dn σ H ⟨F, as, ρ, S, t, q⟩ =>
  ⟨F, as, ρ, S, t, (After.out q).imp fun v H1 ⟨d, S1, F1, as1, x1, s1, r1, q1⟩ => q1 as1 F1 H1 v (Xt.refl _ _ _) s1 r1⟩
def sRetN : MS := fun _ S => .rt .non S
theorem is_retN : PS X (.Return none pos) (iS Y E sRetN) := PS_imp ps_retN fun Dn σ H ⟨F, as, ρ, S, t, q⟩ => q as F H .non (Xt.refl _ _ _) t.st .non
def sExpr (m : M) : MS := fun ρ S => (m ρ S).out fun _ S1 => .nx ρ S1
theorem is_expr (h : PE X e (iE Y E m)) (hs : swapsWith e none pos.line X.env = pure false := by rfl) : PS X (.Expr e pos) (iS Y E (sExpr m)) := PS_imp (ps_expr h hs) fun Dn σ H ⟨F, as, ρ, S, t, q⟩ =>
  ⟨F, as, ρ, S, t, (After.out q).imp fun v H1 ⟨d, S1, F1, as1, x1, s1, r1, q1⟩ => q1 as1 F1 H1 σ (Xt.refl _ _ _) s1 (t.fr.mo x1)⟩
def sIf (t : MT) (mt mu : MS) : MS := fun ρ S => (t ρ S).out fun c S1 => if c = true then mt ρ S1 else mu ρ S1
theorem is_if {c : Expr} {as' bs : List Stmt} (hc : PT X c (iT Y E t)) (ha : PSs X as' (iS Y E mt)) (hb : PSs X bs (iS Y E mu)) : PS X (.If c as' bs pos) (iS Y E (sIf t mt mu)) := PS_imp (ps_if hc ha hb) fun Dn σ H ⟨F, as, ρ, S, t, q⟩ =>
  ⟨F, as, ρ, S, t, (After.out q).imp fun v H1 ⟨d, S1, F1, as1, x1, s1, r1, q1⟩ => by
    cases r1
    cases v with
    | true => exact ⟨F1, as1, ρ, S1, t.mo x1 s1, q1⟩
    | false => exact ⟨F1, as1, ρ, S1, t.mo x1 s1, q1⟩⟩
/-- a target: what it does to the slots (to those in vs) and the store -/
abbrev MG := D → Rho → Sto → Option (Rho × Sto)
def But (vs : List Nat) (σ σ' : L2.St) : Prop := σ'.length = σ.length ∧ ∀ j, j ∉ vs → σ'[j]? = σ[j]?
theorem But.refl {vs : List Nat} {σ : L2.St} : But vs σ σ := ⟨rfl, fun _ _ => rfl⟩
theorem But.trans {vs : List Nat} {σ σ1 σ2 : L2.St} (a : But vs σ σ1) (b : But vs σ1 σ2) : But vs σ σ2 := ⟨b.1.trans a.1, fun j h => (b.2 j h).trans (a.2 j h)⟩
theorem But.set {vs : List Nat} {σ : L2.St} {i : Nat} {v : Option V} (h : i ∈ vs) : But vs σ (σ.set i v) := ⟨by simp, fun j hj => List.getElem?_set_ne fun e => hj (by rw [← e]; exact h)⟩
def iG (Y : Yt) (vs : List Nat) (g : MG) : TG := fun v σ H Q => ∃ F as ρ S d ρ1 S1, At Y σ H F as ρ S ∧ Rp Y as F d v ∧ g d ρ S = some (ρ1, S1) ∧ ∀ as' F' H' σ', Xt H F as H' F' as' → StR Y H' F' as' S1 → FrR Y as' F' ρ1 σ' → But vs σ σ' → Q σ' H'
theorem PG_imp {X : Cx} {e : Expr} {t t' : TG} (h : PG X e t) (k : ∀ v σ H Q, t' v σ H Q → t v σ H Q) : PG X e t' := ⟨fun pins s σ H v u Q I r q => h.run pins s σ H v u Q I r (k v σ H Q q)⟩
def gV (i : Nat) : MG := fun d ρ S => some (ρ.set i (some d), S)
variable {vs : List Nat}
theorem ig_name {i : Nat} (h : PG X e (gName i)) (hv : i ∈ vs) : PG X e (iG Y vs (gV i)) := PG_imp h fun v σ H Q ⟨F, as, ρ, S, d, ρ1, S1, t, r, e1, q⟩ => by
  cases e1
  exact q as F H _ (Xt.refl _ _ _) t.st (t.fr.set r) (But.set hv)
def sAsg (m : M) (g : MG) : MS := fun ρ S => (m ρ S).out fun d S1 => match g d ρ S1 with
  | some (ρ1, S2) => .nx ρ1 S2
  | none => .stuck
theorem tasg_of {g : MG} {Dn : Ends} {σ : L2.St} {H : Hp} (h : iS Y E (sAsg m g) Dn σ H) : tAsg (iE Y E m) (iG Y vs g) Dn σ H := by
  obtain ⟨F, as, ρ, S, t, q⟩ := h
  refine ⟨F, as, ρ, S, t, (After.out q).imp fun v H1 ⟨d, S1, F1, as1, x1, s1, r1, q1⟩ => ?_⟩
  cases hg : g d ρ S1 with
  | none => rw [hg] at q1; exact q1.elim
  | some p =>
    obtain ⟨ρ1, S2⟩ := p
    rw [hg] at q1
    exact ⟨F1, as1, ρ, S1, d, ρ1, S2, t.mo x1 s1, r1, hg, fun as' F' H' σ' x s f _ => q1 as' F' H' σ' x s f⟩
theorem is_asg {tg : Expr} {g : MG} (he : PE X e (iE Y E m)) (hg : PG X tg (iG Y vs g)) (hs : swapsWithSole [tg] e pos.line X.env = pure false := by rfl) (hw : swappedStores [tg] e X.env = pure none := by rfl)
    (h1 : (assignEach [tg] X.env).map (·.2) = [assign tg X.env] := by rfl) : PS X (.Assign [tg] e pos) (iS Y E (sAsg m g)) := PS_imp (ps_asg he hg hs hw h1) fun _ _ _ h => tasg_of h
theorem is_set {i : Nat} {x : Str} {pos' : Pos} (hN : X.N.Nodup) (hi : X.N[i]? = some x) (hx : Loc X.env.scope x) (he : PE X e (iE Y E m)) (hs : swapsWith e (some (.Name x pos')) pos.line X.env = pure false := by rfl)
    (hf : X.fn x = true ∨ X.env.scope.names.lookup x = some .local := by first | exact .inl rfl | exact .inr rfl | assumption) : PS X (.Assign [.Name x pos'] e pos) (iS Y E (sAsg m (gV i))) :=
  PS_imp (ps_set hN hi hx he hs hf) fun Dn σ H ⟨F, as, ρ, S, t, q⟩ => ⟨F, as, ρ, S, t, (After.out q).imp fun v H1 ⟨d, S1, F1, as1, x1, s1, r1, q1⟩ => q1 as1 F1 H1 _ (Xt.refl _ _ _) s1 ((t.fr.mo x1).set r1)⟩
/-- several targets -/
abbrev MGs := List D → Rho → Sto → Option (Rho × Sto)
def iGs (Y : Yt) (vs : List Nat) (g : MGs) : TGs := fun ws σ H Q => ∃ F as ρ S ds ρ1 S1, At Y σ H F as ρ S ∧ Rps Y as F ds ws ∧ g ds ρ S = some (ρ1, S1) ∧ ∀ as' F' H' σ', Xt H F as H' F' as' → StR Y H' F' as' S1 → FrR Y as' F' ρ1 σ' → But vs σ σ' → Q σ' H'
theorem PGs_imp {X : Cx} {e : List Expr} {t t' : TGs} (h : PGs X e t) (k : ∀ v σ H Q, t' v σ H Q → t v σ H Q) : PGs X e t' := ⟨fun pins s σ H v u Q I r q => h.run pins s σ H v u Q I r (k v σ H Q q)⟩
def gsNil : MGs := fun ds ρ S => match ds with
  | [] => some (ρ, S)
  | _ => none
def gsCons (g : MG) (gs : MGs) : MGs := fun ds ρ S => match ds with
  | d :: ds => match g d ρ S with
    | some (ρ1, S1) => gs ds ρ1 S1
    | none => none
  | [] => none
theorem igs_nil : PGs X [] (iGs Y vs gsNil) := PGs_imp pgs_nil fun ws σ H Q ⟨F, as, ρ, S, ds, ρ1, S1, t, r, e1, q⟩ => by
  cases r with
  | nil =>
    cases e1
    exact ⟨rfl, q as F H _ (Xt.refl _ _ _) t.st t.fr But.refl⟩
  | cons h r => cases e1
theorem igs_cons {g : MG} {gs : MGs} (h1 : PG X e (iG Y vs g)) (h2 : PGs X es (iGs Y vs gs)) (hs : (assignEach (e :: es) X.env).map (·.2) = assign e X.env :: (assignEach es X.env).map (·.2) := by rfl) : PGs X (e :: es) (iGs Y vs (gsCons g gs)) :=
  PGs_imp (pgs_cons h1 h2 hs) fun ws σ H Q ⟨F, as, ρ, S, ds, ρ1, S1, t, r, e1, q⟩ => by
    cases r with
    | nil => cases e1
    | @cons d v ds' vs' h r =>
      refine ⟨v, vs', rfl, ?_⟩
      have e2 : (match g d ρ S with | some (ρ1, S1) => gs ds' ρ1 S1 | none => none) = some (ρ1, S1) := e1
      cases hg : g d ρ S with
      | none => rw [hg] at e2; cases e2
      | some p =>
        obtain ⟨ρ2, S2⟩ := p
        rw [hg] at e2
        refine ⟨F, as, ρ, S, d, ρ2, S2, t, h, hg, fun as' F' H' σ' x s f b => ⟨F', as', ρ2, S2, ds', ρ1, S1, ⟨s, f⟩, r.mo x.pre x.ex, e2, fun as2 F2 H2 σ2 x2 s2 f2 b2 => q as2 F2 H2 σ2 (x.trans x2) s2 f2 (b.trans b2)⟩⟩
/-- (a, b, ..) = a tuple of that length -/
def gTp (n : Nat) (gs : MGs) : MG := fun d ρ S => match d with
  | .tup ds => if ds.length = n then gs ds ρ S else none
  | _ => none
theorem ig_tup {k n : Nat} {gs : MGs} (hK : X.K = Y.K) (hc : X.calm = true) (h : PGs X es (iGs Y vs gs)) (hn : (assignEach es X.env).length = n := by rfl) (hst : (assignEach es X.env).findIdx? (·.1) = none := by rfl) : PG X (.Tuple es k pos) (iG Y vs (gTp n gs)) :=
  PG_imp (pg_tup hc h hn hst) fun v σ H Q ⟨F, as, ρ, S, d, ρ1, S1, t, r, e1, q⟩ => by
    cases r with
    | @tup a vs ds h r =>
      have e2 : (if ds.length = n then gs ds ρ S else none) = some (ρ1, S1) := e1
      split at e2
      · rename_i hl
        exact ⟨a, vs, rfl, sqt_ex (fun b o z => (t.st.sub b o z).2) (by rw [hK]; exact h), by rw [← r.length]; exact hl, F, as, ρ, S, ds, ρ1, S1, t, r, e2, q⟩
      · cases e2
    | _ => cases e1
end
end Rf

set_option Elab.async false
set_option linter.all false
set_option maxRecDepth 100000
/-! R3: operators by data. -/
namespace Rf
open PySem L2

/-! ### lists of data and what stands below them -/
section
variable {Y : Yt} {E : XK} {as : List Addr} {S : Sto} {H F : Hp}
theorem seqT_up (s : StR Y H F as S) {a : Addr} {vs : List V} (h : SqT Y.K F a vs) : SqT Y.K H a vs := sqt_ex (fun b o z => (s.sub b o z).2) h
theorem seqL_up (s : StR Y H F as S) {a : Addr} {vs : List V} (h : SqL Y.K F a vs) : SqL Y.K H a vs := sql_ex (fun b o z => (s.sub b o z).2) h
theorem lst_up (s : StR Y H F as S) {a : Addr} {o : HO} (h : F a = some o) : H a = some o := (s.sub a o h).2
end

/-- what a rule by values must show for a rule by data -/
abbrev rV {X : Cx} (Y : Yt) (hK : X.K = Y.K) : Prop := True

/-! ### arithmetic -/
def okI (i : Int) : Bool := decide (i.natAbs.log2 < 400000)
def dAdd : F2 := fun x y S => match x, y with
  | .int i, .int j => .ok (.int (i + j)) S
  | .str a, .str b => if few (a.length + b.length) = true then .ok (.str (a ++ b)) S else .stuck
  | .tup xs, .tup ys => if few (xs.length + ys.length) = true then .ok (.tup (xs ++ ys)) S else .stuck
  | .lst xs, .lst ys => if few (xs.length + ys.length) = true then .ok (.lst (xs ++ ys)) S else .stuck
  | _, _ => .stuck
def dSub : F2 := fun x y S => match x, y with
  | .int i, .int j => .ok (.int (i - j)) S
  | _, _ => .stuck
def dMul : F2 := fun x y S => match x, y with
  | .int i, .int j => if okI i = true ∧ okI j = true then .ok (.int (i * j)) S else .stuck
  | .lst xs, .int k => if 0 ≤ k ∧ k ≤ 1000 ∧ xs.length ≤ 1000 then .ok (.lst (List.replicate k.toNat xs).flatten) S else .stuck
  | _, _ => .stuck
def dMod : F2 := fun x y S => match x, y with
  | .int i, .int j => if 0 < j then .ok (.int (i % j)) S else .stuck
  | _, _ => .stuck
def dDiv : F2 := fun x y S => match x, y with
  | .int i, .int j => if 0 < j ∧ j.natAbs.log2 < 9000 then .ok (.int (i / j)) S else .stuck
  | _, _ => .stuck
def dPow : F2 := fun x y S => match x, y with
  | .int i, .int j => if 0 ≤ j ∧ (Builtin.Int.intBits i : Int) * j ≤ 2 ^ 27 then .ok (.int (i ^ j.toNat)) S else .stuck
  | _, _ => .stuck
theorem ite_stuck {α β : Type} {Y : Yt} {E : XK} {rl : Rl α β} {as : List Addr} {F H : Hp} {c : Prop} [Decidable c] {r : Res α} {Q : β → Hp → Prop} (q : After Y E rl as F H (if c then r else .stuck) Q) : c ∧ After Y E rl as F H r Q := by
  split at q
  · rename_i h; exact ⟨h, q⟩
  · exact q.elim
section
variable {X : Cx} {Y : Yt} {E : XK}
theorem Rps.flat {as : List Addr} {F : Hp} {ds : List D} {vs : List V} (r : Rps Y as F ds vs) : ∀ n : Nat, Rps Y as F (List.replicate n ds).flatten (List.replicate n vs).flatten
  | 0 => by simp; exact .nil
  | n + 1 => by
    rw [List.replicate_succ, List.replicate_succ, List.flatten_cons, List.flatten_cons]
    exact r.app (Rps.flat r n)
theorem o_add (hK : X.K = Y.K) : OpR X (binaryOp .Add) (rD2 Y E dAdd) := by
  rintro pins s σ H x y v u Q I rx ry ⟨F, as, S, dx, dy, st, r1, r2, q⟩
  cases r1 <;> cases r2 <;> first | exact q.elim | skip
  case int.int i j => exact op_add pins s σ H _ _ v u Q I rx ry ⟨i, j, rfl, rfl, q.now st (.int _)⟩
  case str.str a b =>
    obtain ⟨h, q⟩ := ite_stuck q
    exact op_add_str pins s σ H _ _ v u Q I rx ry ⟨a, b, rfl, rfl, few_line h, q.now st (.str _)⟩
  case tup.tup a xs ds ha ra b ys es hb rb =>
    obtain ⟨h, q⟩ := ite_stuck q
    have hz : xs.length + ys.length ≤ sizeLine := by rw [← ra.length, ← rb.length]; exact few_line h
    have ha' := ha
    have hb' := hb
    rw [← hK] at ha' hb'
    refine op_catA pins s σ H _ _ v u Q I rx ry ⟨a, b, xs, ys, rfl, rfl, sqt_ex (fun c o z => (st.sub c o z).2) ha', sqt_ex (fun c o z => (st.sub c o z).2) hb', hz, fun e => ?_, fun _ e => ?_, fun e1 e2 p hp => ?_⟩
    · subst e
      cases ra
      exact q.now st (.tup hb rb)
    · subst e
      cases rb
      rw [List.append_nil] at q
      exact q.now st (.tup ha ra)
    · have x := Xt.new (o := .tup (xs ++ ys)) st hp
      exact q as _ _ _ x (st.new hp) (.tup (.inl (.inl upd_same)) ((ra.app rb).mo x.pre x.ex))
  case lst.lst a xs ds ha ra b ys es hb rb =>
    obtain ⟨h, q⟩ := ite_stuck q
    have hz : xs.length + ys.length ≤ sizeLine := by rw [← ra.length, ← rb.length]; exact few_line h
    refine op_cat pins s σ H _ _ v u Q I rx ry ⟨a, b, xs, ys, rfl, rfl, lst_up st ha, lst_up st hb, hz, fun p hp => ?_⟩
    have x := Xt.new (o := .lst (xs ++ ys)) st hp
    exact q as _ _ _ x (st.new hp) (.lst upd_same ((ra.app rb).mo x.pre x.ex))
theorem o_sub : OpR X (binaryOp .Sub) (rD2 Y E dSub) := by
  rintro pins s σ H x y v u Q I rx ry ⟨F, as, S, dx, dy, st, r1, r2, q⟩
  cases r1 <;> cases r2 <;> first | exact q.elim | skip
  case int.int i j => exact op_sub pins s σ H _ _ v u Q I rx ry ⟨i, j, rfl, rfl, q.now st (.int _)⟩
theorem o_mul : OpR X (binaryOp .Mult) (rD2 Y E dMul) := by
  rintro pins s σ H x y v u Q I rx ry ⟨F, as, S, dx, dy, st, r1, r2, q⟩
  cases r1 <;> cases r2 <;> first | exact q.elim | skip
  case int.int i j =>
    obtain ⟨⟨h1, h2⟩, q⟩ := ite_stuck q
    have h1 := of_decide_eq_true h1
    have h2 := of_decide_eq_true h2
    exact op_mulW pins s σ H _ _ v u Q I rx ry ⟨i, j, rfl, rfl, (show i.natAbs.log2 + j.natAbs.log2 < 1000000 by omega), q.now st (.int _)⟩
  case lst.int a xs ds ha ra k =>
    obtain ⟨⟨h1, h2, h3⟩, q⟩ := ite_stuck q
    refine op_rep pins s σ H _ _ v u Q I rx ry ⟨a, k, xs, rfl, rfl, lst_up st ha, by omega, by omega, ?_, fun p hp => ?_⟩
    · have e := ra.length
      have hk : k.toNat ≤ 1000 := by omega
      have hx : xs.length ≤ 1000 := by omega
      exact big (Nat.le_trans (Nat.mul_le_mul hx hk) (by decide))
    · have x := Xt.new (o := .lst (List.replicate k.toNat xs).flatten) st hp
      exact q as _ _ _ x (st.new hp) (.lst upd_same ((ra.flat _).mo x.pre x.ex))
theorem o_mod : OpR X (binaryOp .Mod) (rD2 Y E dMod) := by
  rintro pins s σ H x y v u Q I rx ry ⟨F, as, S, dx, dy, st, r1, r2, q⟩
  cases r1 <;> cases r2 <;> first | exact q.elim | skip
  case int.int i j =>
    obtain ⟨h, q⟩ := ite_stuck q
    exact op_mod pins s σ H _ _ v u Q I rx ry ⟨i, j, rfl, rfl, h, q.now st (.int _)⟩
theorem o_div : OpR X (binaryOp .FloorDiv) (rD2 Y E dDiv) := by
  rintro pins s σ H x y v u Q I rx ry ⟨F, as, S, dx, dy, st, r1, r2, q⟩
  cases r1 <;> cases r2 <;> first | exact q.elim | skip
  case int.int i j =>
    obtain ⟨h, q⟩ := ite_stuck q
    exact op_fdivW pins s σ H _ _ v u Q I rx ry ⟨i, j, rfl, rfl, h, q.now st (.int _)⟩
theorem o_pow : OpR X (binaryOp .Pow) (rD2 Y E dPow) := by
  rintro pins s σ H x y v u Q I rx ry ⟨F, as, S, dx, dy, st, r1, r2, q⟩
  cases r1 <;> cases r2 <;> first | exact q.elim | skip
  case int.int i j =>
    obtain ⟨⟨h1, h2⟩, q⟩ := ite_stuck q
    obtain ⟨t, rfl⟩ := rx
    obtain ⟨t', rfl⟩ := ry
    exact PyProof.Rows.pow_int h1 h2 ⟨.int _, H, I.tok _, ⟨_, rfl⟩, q.now st (.int _)⟩
end

/-! ### order -/
def cmpI (p : Int → Int → Bool) (g : List Nat → List Nat → Bool) : F2 := fun x y S => match x, y with
  | .int i, .int j => .ok (.bl (p i j)) S
  | .str a, .str b => .ok (.bl (g a.cps.toList b.cps.toList)) S
  | _, _ => .stuck
def dLt : F2 := cmpI (fun i j => decide (i < j)) fun a b => decide (a < b)
def dLe : F2 := cmpI (fun i j => decide (i ≤ j)) fun a b => !decide (b < a)
def dGt : F2 := cmpI (fun i j => decide (j < i)) fun a b => decide (b < a)
def dGe : F2 := cmpI (fun i j => decide (j ≤ i)) fun a b => !decide (a < b)
section
variable {X : Cx} {Y : Yt} {E : XK}
theorem o_lt : OpR X (compareOp .Lt) (rD2 Y E dLt) := by
  rintro pins s σ H x y v u Q I rx ry ⟨F, as, S, dx, dy, st, r1, r2, q⟩
  cases r1 <;> cases r2 <;> first | exact q.elim | skip
  case int.int i j => exact op_lt pins s σ H _ _ v u Q I rx ry ⟨i, j, rfl, rfl, q.now st (.bl _)⟩
  case str.str i j => exact op_lt_str pins s σ H _ _ v u Q I rx ry ⟨i, j, rfl, rfl, q.now st (.bl _)⟩
theorem o_le : OpR X (compareOp .LtE) (rD2 Y E dLe) := by
  rintro pins s σ H x y v u Q I rx ry ⟨F, as, S, dx, dy, st, r1, r2, q⟩
  cases r1 <;> cases r2 <;> first | exact q.elim | skip
  case int.int i j => exact op_le pins s σ H _ _ v u Q I rx ry ⟨i, j, rfl, rfl, q.now st (.bl _)⟩
  case str.str i j => exact op_le_str pins s σ H _ _ v u Q I rx ry ⟨i, j, rfl, rfl, q.now st (.bl _)⟩
theorem o_gt : OpR X (compareOp .Gt) (rD2 Y E dGt) := by
  rintro pins s σ H x y v u Q I rx ry ⟨F, as, S, dx, dy, st, r1, r2, q⟩
  cases r1 <;> cases r2 <;> first | exact q.elim | skip
  case int.int i j => exact op_gt pins s σ H _ _ v u Q I rx ry ⟨i, j, rfl, rfl, q.now st (.bl _)⟩
  case str.str i j => exact op_gt_str pins s σ H _ _ v u Q I rx ry ⟨i, j, rfl, rfl, q.now st (.bl _)⟩
theorem o_ge : OpR X (compareOp .GtE) (rD2 Y E dGe) := by
  rintro pins s σ H x y v u Q I rx ry ⟨F, as, S, dx, dy, st, r1, r2, q⟩
  cases r1 <;> cases r2 <;> first | exact q.elim | skip
  case int.int i j => exact op_ge pins s σ H _ _ v u Q I rx ry ⟨i, j, rfl, rfl, q.now st (.bl _)⟩
  case str.str i j => exact op_ge_str pins s σ H _ _ v u Q I rx ry ⟨i, j, rfl, rfl, q.now st (.bl _)⟩
end
end Rf

set_option Elab.async false
set_option linter.all false
set_option maxRecDepth 100000
/-! R4: data as PyData; ==, !=, in, not in, is None, by data. -/
namespace Rf
open PySem L2 PyProof.Rows

/-! ### data without addresses, as the library has them -/
mutual
def toP (S : Sto) : Nat → D → Option PyData
  | 0, _ => none
  | _ + 1, .non => some .none
  | _ + 1, .bl b => some (.bool b)
  | _ + 1, .int i => some (.int i)
  | _ + 1, .str x => some (.str x)
  | n + 1, .tup ds => (toPs S n ds).map .tuple
  | n + 1, .lst ds => (toPs S n ds).map .list
  | n + 1, .fro ds => (toPs S n ds).map .list
  | _ + 1, .dk kvs => if kvs.isEmpty = true then some (.dict []) else none
  | n + 1, .loc k => match S[k]? with
    | some (.lst ds) => (toPs S n ds).map .list
    | some (.dk kvs) => if kvs.isEmpty = true then some (.dict []) else none
    | _ => none
  | _ + 1, .dt _ => none
  | _ + 1, .ins _ _ => none
  | _ + 1, .ty _ => none
  | _ + 1, .cl _ => none
  | _ + 1, .sti _ => none
def toPs (S : Sto) : Nat → List D → Option (List PyData)
  | 0, _ => none
  | _ + 1, [] => some []
  | n + 1, d :: ds => match toP S n d with
    | some p => match toPs S n ds with
      | some ps => some (p :: ps)
      | none => none
    | none => none
end
section
variable {Y : Yt} {E : XK} {as : List Addr} {S : Sto} {H F : Hp}
theorem map_some {α β : Type} {f : α → β} {o : Option α} {b : β} (h : o.map f = some b) : ∃ a, o = some a ∧ f a = b := by
  cases o with
  | none => cases h
  | some a => exact ⟨a, rfl, Option.some.inj h⟩
mutual
theorem toP_dp (s : StR Y H F as S) : ∀ (n : Nat) (d : D) (v : V) (p : PyData), Rp Y as F d v → toP S n d = some p → p.canLay0 = true → Dp Y.K H v p
  | 0, _, _, _, _, e, _ => by rw [toP] at e; cases e
  | n + 1, _, _, _, .non, e, _ => by rw [toP] at e; cases e; exact .non
  | n + 1, _, _, _, .bl b, e, _ => by rw [toP] at e; cases e; exact .bl b
  | n + 1, _, _, _, .int i, e, _ => by rw [toP] at e; cases e; exact .int i
  | n + 1, _, _, _, .str x, e, _ => by rw [toP] at e; cases e; exact .str x
  | n + 1, _, _, _, .tup h r, e, c => by
    rw [toP] at e
    obtain ⟨ps, e1, rfl⟩ := map_some e
    exact .tup (seqT_up s h) (toPs_dp s n _ _ _ r e1 (by simpa [PyData.canLay0] using c))
  | n + 1, _, _, _, .lst h r, e, c => by
    rw [toP] at e
    obtain ⟨ps, e1, rfl⟩ := map_some e
    exact .lst (SqL.of (lst_up s h)) (toPs_dp s n _ _ _ r e1 (by simpa [PyData.canLay0] using c))
  | n + 1, _, _, _, .fro h r, e, c => by
    rw [toP] at e
    obtain ⟨ps, e1, rfl⟩ := map_some e
    exact .lst (seqL_up s h) (toPs_dp s n _ _ _ r e1 (by simpa [PyData.canLay0] using c))
  | n + 1, _, _, _, .dk (kvs := kvs) h k z r, e, c => by
    rw [toP] at e
    split at e
    · cases e; rw [PyData.canLay0] at c; cases c
    · cases e
  | n + 1, _, _, _, .dt h k z r, e, c => by rw [toP] at e; cases e
  | n + 1, _, _, _, .ins h k z r w, e, c => by rw [toP] at e; cases e
  | n + 1, _, _, _, .ty _, e, c => by rw [toP] at e; cases e
  | n + 1, _, _, _, .cl _, e, c => by rw [toP] at e; cases e
  | n + 1, _, _, _, .sti _ _, e, c => by rw [toP] at e; cases e
  | n + 1, _, _, _, .loc (n := k) h, e, c => by
    rw [toP] at e
    split at e
    · rename_i ds hS
      obtain ⟨ps, e1, rfl⟩ := map_some e
      obtain ⟨vs, e2, r⟩ := s.ob k _ _ h hS
      exact .lst (SqL.of e2) (toPs_dp s n _ _ _ r e1 (by simpa [PyData.canLay0] using c))
    · split at e
      · cases e; rw [PyData.canLay0] at c; cases c
      · cases e
    · cases e
theorem toPs_dp (s : StR Y H F as S) : ∀ (n : Nat) (ds : List D) (vs : List V) (ps : List PyData), Rps Y as F ds vs → toPs S n ds = some ps → PyData.canLayAll0 ps = true → DpAll Y.K H vs ps
  | 0, _, _, _, _, e, _ => by rw [toPs] at e; cases e
  | n + 1, _, _, _, .nil, e, _ => by rw [toPs] at e; cases e; exact .nil
  | n + 1, _, _, _, .cons h r, e, c => by
    rw [toPs] at e
    split at e
    · rename_i p hp
      split at e
      · rename_i ps hps
        cases e
        rw [PyData.canLayAll0, Bool.and_eq_true] at c
        exact .cons (toP_dp s n _ _ _ h hp c.1) (toPs_dp s n _ _ _ r hps c.2)
      · cases e
    · cases e
end
end
/-- how deep data may be -/
abbrev deep : Nat := 200
def shP (S : Sto) (d : D) : Option PyData := match toP S deep d with
  | some p => if SeqAt.shaped p = true then some p else none
  | none => none
theorem shP_dp {Y : Yt} {as : List Addr} {S : Sto} {H F : Hp} (s : StR Y H F as S) {d : D} {v : V} {p : PyData} (r : Rp Y as F d v) (e : shP S d = some p) : Dp Y.K H v p ∧ SeqAt.shaped p = true := by
  unfold shP at e
  split at e
  · rename_i q hq
    split at e
    · rename_i h
      cases e
      exact ⟨toP_dp s _ _ _ _ r hq (SeqAt.canLay_of_shaped h), h⟩
    · cases e
  · cases e

/-! ### a dict and a text are not equal -/
section
open SeqAt AutoSeq1
abbrev dictObj (es : Array DictEntry) (ep : Nat) (dd : Option Addr) (sl : Array (Option Value)) : Obj := { cls := .type "dict", dict := dd, data := .dict es ep, slots := sl }
theorem dict_eq_str (l : Addr) (es : Array DictEntry) (ep : Nat) (dd : Option Addr) (sl : Array (Option Value)) (b : Str) (u : Tok) :
    Meets (Builtin.«dict.__eq__» ⟨[.ref l, .str b u], []⟩) (fun _ R s => s.heap.get? l = some (dictObj es ep dd sl) ∧ R (.ok (.ret .notImplemented)) s) :=
  .of_wp fun prog w A R s h => by
    obtain ⟨hp, g, d, tk, os⟩ := s
    obtain ⟨hl, h⟩ := h
    have f1 := PySem.F.sub_str_dict
    wp_walk using wpAny_load hl
    exact ⟨_, rfl, h⟩
theorem str_eq_dict (b : Str) (u : Tok) (l : Addr) (es : Array DictEntry) (ep : Nat) (dd : Option Addr) (sl : Array (Option Value)) :
    Meets (Builtin.«str.__eq__» ⟨[.str b u, .ref l], []⟩) (fun _ R s => s.heap.get? l = some (dictObj es ep dd sl) ∧ R (.ok (.ret .notImplemented)) s) :=
  .of_wp fun prog w A R s h => by
    obtain ⟨hp, g, d, tk, os⟩ := s
    obtain ⟨hl, h⟩ := h
    wp_walk using wpAny_load hl
    exact ⟨_, rfl, h⟩
variable {A : Around} {s : Shared}
theorem rc_dict_str {l : Addr} {es : Array DictEntry} {ep : Nat} {dd : Option Addr} {sl : Array (Option Value)} (b : Str) (u : Tok) (ho : s.heap.get? l = some (dictObj es ep dd sl)) (hu : A.units < cLine) : RcAt A s (.ref l) (.str b u) false := fun prog w E Q h =>
  rc_eq_decline_or (k := false) ⟨_, ho, rfl⟩ (typeIs_str s b u) (by decide) PySem.F.sub_str_dict PySem.F.slot_dict_eq PySem.F.slot_str_eq_refl
    (fun _ hq => call_meets PySem.F.slot_dict_eq ⟨_, ho, rfl⟩ PySem.F.entry_dict_eq (PySem.F.args_dict_eq_2 _ _) (dict_eq_str l es ep dd sl b u) ⟨ho, hq⟩)
    (fun _ hq => call_meets PySem.F.slot_str_eq_refl (typeIs_str s b u) PySem.F.entry_str_eq (PySem.F.args_str_eq_2 _ _) (str_eq_dict b u l es ep dd sl) ⟨ho, hq⟩)
    (fun _ hq => wpAny_of_eq (rfl : isSame (.ref l) (.str b u) = pure false) hq) (.inr hu) h
theorem rc_str_dict {l : Addr} {es : Array DictEntry} {ep : Nat} {dd : Option Addr} {sl : Array (Option Value)} (b : Str) (u : Tok) (ho : s.heap.get? l = some (dictObj es ep dd sl)) (hu : A.units < cLine) : RcAt A s (.str b u) (.ref l) false := fun prog w E Q h =>
  rc_eq_decline_or (k := false) (typeIs_str s b u) ⟨_, ho, rfl⟩ (by decide) PySem.F.sub_dict_str PySem.F.slot_str_eq PySem.F.slot_dict_eq_refl
    (fun _ hq => call_meets PySem.F.slot_str_eq (typeIs_str s b u) PySem.F.entry_str_eq (PySem.F.args_str_eq_2 _ _) (str_eq_dict b u l es ep dd sl) ⟨ho, hq⟩)
    (fun _ hq => call_meets PySem.F.slot_dict_eq_refl ⟨_, ho, rfl⟩ PySem.F.entry_dict_eq (PySem.F.args_dict_eq_2 _ _) (dict_eq_str l es ep dd sl b u) ⟨ho, hq⟩)
    (fun _ hq => wpAny_of_eq (rfl : isSame (.str b u) (.ref l) = pure false) hq) (.inr hu) h
theorem eq_str_dict {l : Addr} {es : Array DictEntry} {ep : Nat} {dd : Option Addr} {sl : Array (Option Value)} (b : Str) (u : Tok) (ho : s.heap.get? l = some (dictObj es ep dd sl)) (hu : A.units < cLine) : EqAt A s (.str b u) (.ref l) false := fun prog w E Q h => by
  unfold eqBool
  refine wpAny_holding ?_
  refine wpAny_ite_split (fun hab => absurd (eq_of_beq hab) nofun) (fun _ => ?_)
  exact wpAny_bind (rc_str_dict b u ho hu prog w E _ (wpAny_truthy_bool h))
end

/-! ### == and !=, in and not in -/
def isDO : Option D → Bool
  | some (.dk _) => true
  | _ => false
def isD (S : Sto) : D → Bool
  | .dk _ => true
  | .loc k => isDO S[k]?
  | _ => false
def isS : D → Bool
  | .str _ => true
  | _ => false
/-- are they equal: known where both are plain data, or one is a dict and the other a text -/
def eqD (S : Sto) (x y : D) : Option Bool := match shP S x, shP S y with
  | some p, some q => some (PyData.eqv p q)
  | _, _ => if (isD S x && isS y) = true then some false else none
def neD (S : Sto) (x y : D) : Option Bool := match shP S x, shP S y with
  | some p, some q => some (!PyData.eqv p q)
  | _, _ => match x, y with
    | .str a, .str b => some (a != b)
    | _, _ => none
def ofB (S : Sto) : Option Bool → Res D
  | some b => .ok (.bl b) S
  | none => .stuck
def dEq : F2 := fun x y S => ofB S (eqD S x y)
def dNe : F2 := fun x y S => ofB S (neD S x y)
/-- the items of a list or a tuple -/
def lstOf : Option D → Option (List D)
  | some (.lst ds) => some ds
  | _ => none
theorem lstOf_some {o : Option D} {ds : List D} (h : lstOf o = some ds) : o = some (.lst ds) := by
  cases o with
  | none => cases h
  | some d => cases d <;> first | (cases h; rfl) | cases h
def seqOf (S : Sto) : D → Option (List D)
  | .tup ds => some ds
  | .lst ds => some ds
  | .fro ds => some ds
  | .loc k => lstOf S[k]?
  | _ => none
/-- is x in c: of plain data; a dict in a row of texts; a sign in a text -/
def inD (S : Sto) (x c : D) : Option Bool := match shP S x, shP S c with
  | some p, some (.tuple ps) => some (ps.any fun z => PyData.eqv z p)
  | some p, some (.list ps) => some (ps.any fun z => PyData.eqv z p)
  | some (.str a), some (.str b) => if a.cps.size = 1 then some (decide (a.cps.getD 0 0 ∈ b.cps.toList)) else none
  | _, _ => match c with
    | .tup ds => if (isD S x && ds.all isS) = true then some false else none
    | _ => none
def dIn : F2 := fun x c S => ofB S (inD S x c)
def dNotIn : F2 := fun x c S => ofB S ((inD S x c).map (!·))
def isNon : D → Bool
  | .non => true
  | _ => false
def dIsN : F2 := fun x y S => if isNon y = true then .ok (.bl (isNon x)) S else .stuck
def dNotN : F2 := fun x y S => if isNon y = true then .ok (.bl (!isNon x)) S else .stuck
theorem ofB_some {Y : Yt} {E : XK} {as : List Addr} {S : Sto} {H F : Hp} {o : Option Bool} {Q : VK} (q : After Y E (Rp Y) as F H (ofB S o) Q) : ∃ b, o = some b ∧ After Y E (Rp Y) as F H (.ok (.bl b) S) Q := by
  cases o with
  | none => exact q.elim
  | some b => exact ⟨b, rfl, q⟩
section
variable {X : Cx} {Y : Yt} {E : XK} {as : List Addr} {S : Sto} {H F : Hp}
theorem dict_at {pins : List (Addr × Obj)} {s : Shared} {σ : L2.St} {d : D} {v : V} {u : Value} (I : L2.Inv X pins σ H s) (st : StR Y H F as S) (r : Rp Y as F d v) (e : isD S d = true) (ru : RelV v u) : ∃ l es ep dd sl, u = .ref l ∧ s.heap.get? l = some (dictObj es ep dd sl) := by
  have key : ∀ (a : Addr) (kvs : List (Key × V)), H a = some (.dK kvs) → ∃ es ep dd sl, s.heap.get? a = some (dictObj es ep dd sl) := fun a kvs h => by
    obtain ⟨_, _, vs, _, ⟨c, dd, da, sl⟩, es, ep, h1, h2, h3, _⟩ := (show ObjOk X.prog X.w H s.heap a (.dK kvs) from I.hok a _ h)
    have hc : c = .type "dict" := h2.1
    have hd : da = .dict es ep := h3
    subst hc
    subst hd
    exact ⟨es, ep, dd, sl, h1⟩
  cases r with
  | dk h k z r =>
    cases ru
    obtain ⟨es, ep, dd, sl, h1⟩ := key _ _ (lst_up st h)
    exact ⟨_, es, ep, dd, sl, rfl, h1⟩
  | @loc k a h =>
    cases ru
    have e : isDO S[k]? = true := e
    cases hS : S[k]? with
    | none => rw [hS] at e; cases e
    | some d =>
      rw [hS] at e
      cases d with
      | dk kvs =>
        obtain ⟨ws, e2, _⟩ := st.ob k _ _ h hS
        obtain ⟨es, ep, dd, sl, h1⟩ := key _ _ e2
        exact ⟨_, es, ep, dd, sl, rfl, h1⟩
      | _ => cases e
  | _ => cases e
theorem str_at {d : D} {v : V} {u : Value} (r : Rp Y as F d v) (e : isS d = true) (ru : RelV v u) : ∃ x t, u = .str x t := by
  cases r with
  | str x =>
    obtain ⟨t, rfl⟩ := ru
    exact ⟨x, t, rfl⟩
  | _ => cases e
theorem shP_reads {pins : List (Addr × Obj)} {s : Shared} {σ : L2.St} {d : D} {v : V} {u : Value} {p : PyData} (hK : X.K = Y.K) (I : L2.Inv X pins σ H s) (st : StR Y H F as S) (r : Rp Y as F d v) (e : shP S d = some p) (ru : RelV v u) : (∃ bs, Reads s.heap u p bs) ∧ SeqAt.shaped p = true := by
  obtain ⟨h, c⟩ := shP_dp st r e
  rw [← hK] at h
  exact ⟨Dp.reads I p v u h ru, c⟩
theorem o_eq (hK : X.K = Y.K) (hu : X.A.units + 64 < cLine) : OpR X (compareOp .Eq) (rD2 Y E dEq) := by
  rintro pins s σ H x y v u Q I rx ry ⟨F, as, S, dx, dy, st, r1, r2, q⟩
  obtain ⟨b, e, q⟩ := ofB_some q
  have fin : EP X pins σ Q (.bool b) s := ⟨.bl b, H, I, rfl, q.now st (.bl b)⟩
  unfold eqD at e
  split at e
  · rename_i p1 p2 h1 h2
    obtain ⟨⟨bs, z1⟩, c1⟩ := shP_reads hK I st r1 h1 rx
    obtain ⟨⟨cs, z2⟩, c2⟩ := shP_reads hK I st r2 h2 ry
    cases e
    exact SeqAt.compareEq_shaped z1 z2 c1 c2 hu fin
  · split at e
    · rename_i h
      rw [Bool.and_eq_true] at h
      cases e
      obtain ⟨l, es, ep, dd, sl, rfl, ho⟩ := dict_at I st r1 h.1 rx
      obtain ⟨z, t, rfl⟩ := str_at r2 h.2 ry
      exact rc_dict_str z t ho (by omega) X.prog X.w X.xe _ fin
    · cases e
theorem o_ne (hK : X.K = Y.K) (hu : X.A.units + 64 < cLine) : OpR X (compareOp .NotEq) (rD2 Y E dNe) := by
  rintro pins s σ H x y v u Q I rx ry ⟨F, as, S, dx, dy, st, r1, r2, q⟩
  obtain ⟨b, e, q⟩ := ofB_some q
  have fin : EP X pins σ Q (.bool b) s := ⟨.bl b, H, I, rfl, q.now st (.bl b)⟩
  unfold neD at e
  split at e
  · rename_i p1 p2 h1 h2
    obtain ⟨⟨bs, z1⟩, c1⟩ := shP_reads hK I st r1 h1 rx
    obtain ⟨⟨cs, z2⟩, c2⟩ := shP_reads hK I st r2 h2 ry
    cases e
    exact SeqAt.compareNe_shaped z1 z2 c1 c2 hu fin
  · split at e
    · cases r1
      cases r2
      obtain ⟨t1, rfl⟩ := rx
      obtain ⟨t2, rfl⟩ := ry
      cases e
      exact PyProof.Rows.ne_str fin
    · cases e
theorem room_in {A : Around} {d : PyData} (h : SeqAt.shaped d = true) (hu : A.units + 65 < cLine) (k : Nat) : A.units + 1 + min k d.depth < cLine := by
  have h1 := SeqAt.depth_of_shaped h
  have h2 : min k d.depth ≤ d.depth := Nat.min_le_right _ _
  omega
theorem sign1 {a : Str} (h : a.cps.size = 1) : a = ⟨#[a.cps.getD 0 0]⟩ := by
  obtain ⟨cs⟩ := a
  have h : cs.size = 1 := h
  have e : cs = #[cs.getD 0 0] := by
    apply Array.ext
    · simpa using h
    · intro i h1 h2
      have : i = 0 := by omega
      subst this
      simp [Array.getD, h]
  exact congrArg Str.mk e
theorem all_str {ds : List D} {vs : List V} {us : List Value} (r : Rps Y as F ds vs) (e : ds.all isS = true) (rv : Vals vs us) : ∀ u ∈ us, ∃ x t, u = .str x t := by
  induction ds generalizing vs us with
  | nil => cases r; cases rv; intro u hu; cases hu
  | cons d ds ih =>
    cases r with
    | cons h1 h2 =>
      cases rv with
      | cons g1 g2 =>
        rw [List.all_cons, Bool.and_eq_true] at e
        intro u hu
        rcases List.mem_cons.mp hu with rfl | hu
        · exact str_at h1 e.1 g1
        · exact ih h2 e.2 g2 u hu
theorem in_core (hK : X.K = Y.K) (hu : X.A.units + 65 < cLine) {pins : List (Addr × Obj)} {s : Shared} {σ : L2.St} {dx dy : D} {x y : V} {v u : Value} {b : Bool} (I : L2.Inv X pins σ H s) (rx : RelV x v) (ry : RelV y u) (st : StR Y H F as S) (r1 : Rp Y as F dx x) (r2 : Rp Y as F dy y)
    (e : inD S dx dy = some b) (neg : Bool) {Q : Value → Shared → Prop} {E' : Value → Shared → Prop} (fin : Q (.bool (if neg then !b else b)) s) : wpAny (model X.prog X.w) X.A (compareOp (if neg then .NotIn else .In) v u) Q E' s := by
  unfold inD at e
  split at e
  · rename_i p1 ps h1 h2
    obtain ⟨⟨bs, z1⟩, c1⟩ := shP_reads hK I st r1 h1 rx
    obtain ⟨⟨cs, z2⟩, c2⟩ := shP_reads hK I st r2 h2 ry
    cases e
    cases neg with
    | false => exact SeqAt.in_tuple_reads z2 z1 (by simpa [PyData.canLay0] using SeqAt.canLay_of_shaped c2) (SeqAt.canLay_of_shaped c1) (room_in c1 hu _) fin
    | true => exact SeqAt.notIn_tuple_reads z2 z1 (by simpa [PyData.canLay0] using SeqAt.canLay_of_shaped c2) (SeqAt.canLay_of_shaped c1) (room_in c1 hu _) fin
  · rename_i p1 ps h1 h2
    obtain ⟨⟨bs, z1⟩, c1⟩ := shP_reads hK I st r1 h1 rx
    obtain ⟨⟨cs, z2⟩, c2⟩ := shP_reads hK I st r2 h2 ry
    cases e
    cases neg with
    | false => exact SeqAt.in_list_reads z2 z1 (by simpa [PyData.canLay0] using SeqAt.canLay_of_shaped c2) (SeqAt.canLay_of_shaped c1) (room_in c1 hu _) fin
    | true => exact SeqAt.notIn_list_reads z2 z1 (by simpa [PyData.canLay0] using SeqAt.canLay_of_shaped c2) (SeqAt.canLay_of_shaped c1) (room_in c1 hu _) fin
  · rename_i a c h1 h2
    split at e
    · rename_i hz
      obtain ⟨⟨bs, z1⟩, _⟩ := shP_reads hK I st r1 h1 rx
      obtain ⟨⟨cs, z2⟩, _⟩ := shP_reads hK I st r2 h2 ry
      cases e
      cases z1
      cases z2
      have ha := sign1 hz
      have hf := PySem.StrLaws.found_one c (a.cps.getD 0 0)
      cases neg with
      | false =>
        refine PyProof.Rows.in_str ?_
        rw [ha, hf]
        exact fin
      | true =>
        refine PyProof.Rows.notIn_str ?_
        rw [ha, hf]
        exact fin
    · cases e
  · split at e
    · rename_i ds
      split at e
      · rename_i h
        rw [Bool.and_eq_true] at h
        cases e
        obtain ⟨l, es, ep, dd, sl, rfl, ho⟩ := dict_at I st r1 h.1 rx
        cases r2 with
        | @tup a vs _ ht rt =>
          cases ry
          have ht' : SqT X.K H a vs := by rw [hK]; exact seqT_up st ht
          obtain ⟨its, rv, tp, _⟩ := I.tuple ht'
          have hu1 : X.A.in1.units < cLine := by show X.A.units + 1 < cLine; omega
          have he : ∀ w ∈ its.toArray, SeqAt.EqAt X.A.in1 s w (.ref l) false := fun w hw => by
            obtain ⟨z, t, rfl⟩ := all_str rt h.2 rv w (by simpa using hw)
            exact eq_str_dict z t ho hu1
          have any0 : its.toArray.any (fun _ => false) = false := by simp
          cases neg with
          | false => exact SeqAt.in_tupleAt (fun _ => false) tp he (by rw [any0]; exact fin)
          | true => exact SeqAt.notIn_tupleAt (fun _ => false) tp he (by rw [any0]; exact fin)
      · cases e
    · cases e
theorem o_in (hK : X.K = Y.K) (hu : X.A.units + 65 < cLine) : OpR X (compareOp .In) (rD2 Y E dIn) := by
  rintro pins s σ H x y v u Q I rx ry ⟨F, as, S, dx, dy, st, r1, r2, q⟩
  obtain ⟨b, e, q⟩ := ofB_some q
  exact in_core hK hu I rx ry st r1 r2 e false ⟨.bl b, H, I, rfl, q.now st (.bl b)⟩
theorem o_notIn (hK : X.K = Y.K) (hu : X.A.units + 65 < cLine) : OpR X (compareOp .NotIn) (rD2 Y E dNotIn) := by
  rintro pins s σ H x y v u Q I rx ry ⟨F, as, S, dx, dy, st, r1, r2, q⟩
  obtain ⟨b, e, q⟩ := ofB_some q
  obtain ⟨c, e1, rfl⟩ := map_some e
  exact in_core hK hu I rx ry st r1 r2 e1 true ⟨.bl _, H, I, rfl, q.now st (.bl _)⟩
theorem non_dec {d : D} {v : V} (r : Rp Y as F d v) : decide (v = .non) = isNon d := by
  cases r <;> simp [isNon]
theorem o_isN : OpR X (compareOp .Is) (rD2 Y E dIsN) := by
  rintro pins s σ H x y v u Q I rx ry ⟨F, as, S, dx, dy, st, r1, r2, q⟩
  obtain ⟨h, q⟩ := ite_stuck q
  cases r2 <;> first | cases h | skip
  refine op_isN pins s σ H _ _ v u Q I rx ry ⟨rfl, ?_⟩
  rw [non_dec r1]
  exact q.now st (.bl _)
theorem o_notN : OpR X (compareOp .IsNot) (rD2 Y E dNotN) := by
  rintro pins s σ H x y v u Q I rx ry ⟨F, as, S, dx, dy, st, r1, r2, q⟩
  obtain ⟨h, q⟩ := ite_stuck q
  cases r2 <;> first | cases h | skip
  refine op_notN pins s σ H _ _ v u Q I rx ry ⟨rfl, ?_⟩
  rw [non_dec r1]
  exact q.now st (.bl _)
end
end Rf

set_option Elab.async false
set_option linter.all false
set_option maxRecDepth 100000
/-! R5: subscripts and slices by data. -/
namespace Rf
open PySem L2 PyProof.Rows

/-! ### t[::-1] of a tuple -/
section
variable {prog : Program} {w : World} {A : Around} {E : Value → Shared → Prop} {s : Shared}
theorem back_bounds (n : Nat) : Builtin.Slice.sliceAdjust none none (-1) (n : Int) = ((n : Int) - 1, -1) := by
  unfold Builtin.Slice.sliceAdjust
  have h1 : ((-1 : Int) < 0) := by decide
  simp only [h1, if_true]
theorem back_places (n : Nat) : Builtin.Slice.slicePlaces ((n : Int) - 1) (-1) (-1) = n := by
  unfold Builtin.Slice.slicePlaces
  have h1 : ¬ ((-1 : Int) > 0) := by decide
  simp only [h1, if_false]
  by_cases h : (n : Int) - 1 > -1
  · rw [if_pos h, show (-(-1) : Int) = 1 by decide, Int.ediv_one]
    omega
  · rw [if_neg h]
    omega
theorem fm_congr {α β : Type} {f g : α → Option β} : ∀ {l : List α}, (∀ x ∈ l, f x = g x) → l.filterMap f = l.filterMap g
  | [], _ => rfl
  | a :: l, h => by
    rw [List.filterMap_cons, List.filterMap_cons, h a (List.mem_cons_self ..), fm_congr fun x hx => h x (List.mem_cons_of_mem _ hx)]
theorem back_pick (xs : Array Value) : ((List.range xs.size).filterMap fun (k : Nat) => xs[(((xs.size : Int) - 1) + (k : Int) * (-1)).toNat]?).toArray = xs.toList.reverse.toArray := by
  congr 1
  have e : ∀ k ∈ List.range xs.size, (fun (k : Nat) => xs[(((xs.size : Int) - 1) + (k : Int) * (-1)).toNat]?) k = (fun k => xs[xs.size - 1 - k]?) k := fun k hk => by
    have := List.mem_range.mp hk
    have h : (((xs.size : Int) - 1) + (k : Int) * (-1)).toNat = xs.size - 1 - k := by omega
    show xs[_]? = xs[_]?
    rw [h]
  rw [fm_congr e]
  have := PySem.W.krv_range xs.size
  rw [show (List.range xs.size).filterMap (fun k => xs[xs.size - 1 - k]?) = ((List.range xs.size).map fun k => xs.size - 1 - k).filterMap (fun j => xs[j]?) by rw [List.filterMap_map]; rfl, this, List.filterMap_reverse, PySem.W.krv_all]
theorem item_back {t sl : Addr} {items : Array Value} {u : Tok} {Q : Value → Shared → Prop} (ht : IsTup s.heap t items) (hs : s.heap.IsSliceOf sl .none .none (.int (-1) u))
    (h : Q (.ref s.heap.objs.size) { s with heap := s.heap.push { cls := .type "tuple", data := .seq items.toList.reverse.toArray } }) (hz : items.size ≤ sizeLine) : wpAny (model prog w) A (getItem (.ref t) (.ref sl)) Q E s := by
  obtain ⟨os, hos, hcs, hds⟩ := id hs
  have hT : s.TypeIs (.ref sl) "slice" := ⟨os, hos, hcs⟩
  unfold getItem
  try with_reducible refine wpAny_holding ?_
  first | refine wpAny_bind (wpAny_pure ?_) | skip
  refine wpAny_bind (wpAny_sequenceKey ht.typeIs (by decide) (wpAny_bind (wpAny_callSpecial?_slot (name := Str.ofString "__getitem__") ht.typeIs PyProof.Rows.slot_tuple_getitem (wpAny_call_entry PyProof.Rows.slot_tuple_getitem ht.typeIs entry_tuple_getitem ?_ (args_tuple_getitem _ _)))))
  show wpAny _ _ (Builtin.Tuple.tupleItemsOf (.ref t) >>= _) _ _ s
  refine wpAny_bind (tupleItemsOf_ ht (wpAny_bind (wpAny_typeOf hT ?_)))
  rw [if_pos (by decide)]
  have ap : ∀ {R : Int × Int × Nat → Shared → Prop} {E' : Value → Shared → Prop} {A' : Around} {prog' : Program} {w' : World}, R ((items.size : Int) - 1, -1, items.size) s → wpAny (model prog' w') A' (Builtin.Slice.sliceApplied (.ref sl) (pure ((items.size : Nat) : Int))) R E' s := fun {R E' A' prog' w'} hr => by
    unfold Builtin.Slice.sliceApplied Builtin.Slice.sliceFields
    refine wpAny_bind (wpAny_bind (wpAny_field hos hds (x := .none) rfl (wpAny_bind (wpAny_field hos hds (x := .none) rfl (wpAny_bind (wpAny_field hos hds (x := .int (-1) u) rfl (wpAny_pure ?_)))))))
    refine wpAny_bind (slicePart_int ?_)
    show wpAny _ _ (if (((-1 : Int)) == 0) = true then _ else _) _ _ s
    rw [if_neg (by decide)]
    refine wpAny_bind (slicePart_none (wpAny_bind (slicePart_none (wpAny_bind (wpAny_pure ?_)))))
    show wpAny _ _ (match Builtin.Slice.sliceAdjust none none (-1) (items.size : Int) with | (lo, hi) => pure (lo, (-1 : Int), Builtin.Slice.slicePlaces lo hi (-1))) _ _ s
    rw [back_bounds]
    show wpAny _ _ (pure (((items.size : Int) - 1), (-1 : Int), Builtin.Slice.slicePlaces ((items.size : Int) - 1) (-1) (-1))) _ _ s
    rw [back_places]
    exact wpAny_pure hr
  refine wpAny_bind (ap ?_)
  show wpAny _ _ (if ((((items.size : Int) - 1) == 0 && (-1 : Int) == 1 && items.size == items.size)) = true then _ else _) _ _ s
  rw [if_neg (by simp), back_pick]
  have hok : sizeOk (.seq items.toList.reverse.toArray) := by
    show items.toList.reverse.toArray.size ≤ sizeLine
    rw [List.size_toArray, List.length_reverse, Array.length_toList]
    exact hz
  first
    | exact wpAny_bind (m := Builtin.Tuple.tupleExact _) (wpAny_newObj_type (wpAny_pure ⟨_, rfl, wpAny_pure h⟩) hok)
    | exact wpAny_bind (m := Builtin.Tuple.tupleExact _) (wpAny_newObj_type (wpAny_bind (wpAny_pure (wpAny_pure ⟨_, rfl, wpAny_pure h⟩))) hok)
    | exact wpAny_bind (wpAny_bind (m := Builtin.Tuple.tupleExact _) (wpAny_newObj_type (wpAny_pure (wpAny_pure ⟨_, rfl, wpAny_pure h⟩)) hok))
    | exact wpAny_bind (wpAny_bind (m := Builtin.Tuple.tupleExact _) (wpAny_newObj_type (wpAny_pure ⟨_, rfl, wpAny_pure h⟩) hok))
end

/-! ### subscripts -/
def dIx : F2 := fun x y S => match y with
  | .int i => match x with
    | .str z => if few z.length = true then (match atI z.cps.toList i with
      | some c => .ok (.str ⟨#[c]⟩) S
      | none => .stuck) else .stuck
    | _ => match seqOf S x with
      | some ds => (match atI ds i with
        | some d => .ok d S
        | none => .stuck)
      | none => .stuck
  | _ => .stuck
section
variable {X : Cx} {Y : Yt} {E : XK} {as : List Addr} {S : Sto} {H F : Hp}
/-- a row by data is a row by values -/
theorem seq_at (st : StR Y H F as S) {d : D} {v : V} {ds : List D} (r : Rp Y as F d v) (e : seqOf S d = some ds) : ∃ a vs, v = .ref a ∧ (SqL Y.K H a vs ∨ SqT Y.K H a vs) ∧ Rps Y as F ds vs := by
  cases r with
  | tup h r => cases e; exact ⟨_, _, rfl, .inr (seqT_up st h), r⟩
  | lst h r => cases e; exact ⟨_, _, rfl, .inl (SqL.of (lst_up st h)), r⟩
  | fro h r => cases e; exact ⟨_, _, rfl, .inl (seqL_up st h), r⟩
  | @loc k a h =>
    obtain ⟨vs, e2, r⟩ := st.ob _ _ _ h (lstOf_some (show lstOf S[k]? = some ds from e))
    exact ⟨_, vs, rfl, .inl (SqL.of e2), r⟩
  | _ => cases e
theorem atI_rel {ds : List D} {vs : List V} {i : Int} {d : D} (r : Rps Y as F ds vs) (e : atI ds i = some d) : ∃ v, atI vs i = some v ∧ Rp Y as F d v := by
  unfold atI at e ⊢
  rw [← r.length]
  cases h : ixN ds.length i with
  | none => rw [h] at e; cases e
  | some k =>
    rw [h] at e
    obtain ⟨v, h1, h2⟩ := r.get (i := k) (d := d) e
    exact ⟨v, h1, h2⟩
theorem x_ix (hK : X.K = Y.K) : IxR X (rD2 Y E dIx) := by
  rintro value slice pins s σ H x y v u Q I rx ry ⟨F, as, S, dx, dy, st, r1, r2, q⟩ hs
  cases r2 <;> first | exact q.elim | skip
  case int i =>
    have other : (∃ ds d, seqOf S dx = some ds ∧ atI ds i = some d ∧ After Y E (Rp Y) as F H (.ok d S) Q) → wpAny (model X.prog X.w) X.A (subscriptTail value slice v u) (EP X pins σ Q) X.xe s := by
      rintro ⟨ds, d, e1, e2, q⟩
      obtain ⟨a, vs, rfl, h, r⟩ := seq_at st r1 e1
      obtain ⟨w, h3, h4⟩ := atI_rel r e2
      rw [← hK] at h
      rcases h with h | h
      · exact ix_list value slice pins s σ H _ _ v u Q I rx ry ⟨a, vs, i, w, rfl, rfl, h, h3, q.now st h4⟩ hs
      · exact ix_tup value slice pins s σ H _ _ v u Q I rx ry ⟨a, vs, i, w, rfl, rfl, h, h3, q.now st h4⟩ hs
    have get : (match seqOf S dx with
      | some ds => (match atI ds i with
        | some d => Res.ok d S
        | none => .stuck)
      | none => .stuck : Res D) = Res.stuck ∨ ∃ ds d, seqOf S dx = some ds ∧ atI ds i = some d := by
      cases h1 : seqOf S dx with
      | none => exact .inl rfl
      | some ds =>
        cases h2 : atI ds i with
        | none => left; simp only [h2]
        | some d => exact .inr ⟨ds, d, rfl, h2⟩
    have go : ∀ (q : After Y E (Rp Y) as F H (match seqOf S dx with
      | some ds => (match atI ds i with
        | some d => Res.ok d S
        | none => .stuck)
      | none => .stuck : Res D) Q), ∃ ds d, seqOf S dx = some ds ∧ atI ds i = some d ∧ After Y E (Rp Y) as F H (.ok d S) Q := fun q => by
      rcases get with h | ⟨ds, d, h1, h2⟩
      · rw [h] at q; exact q.elim
      · refine ⟨ds, d, h1, h2, ?_⟩
        simp only [h1, h2] at q
        exact q
    cases r1 <;> first | exact other (go q) | skip
    case str z =>
      obtain ⟨hz, q⟩ := ite_stuck (show After Y E (Rp Y) as F H (if few z.length = true then (match atI z.cps.toList i with
        | some c => Res.ok (D.str ⟨#[c]⟩) S
        | none => .stuck) else .stuck) Q from q)
      cases h : atI z.cps.toList i with
      | none => rw [h] at q; exact q.elim
      | some c =>
        rw [h] at q
        exact ix_str value slice pins s σ H _ _ v u Q I rx ry ⟨z, i, c, rfl, rfl, few_line hz, h, q.now st (.str _)⟩ hs
end

/-! ### slices -/
def cut {α : Type} (xs : List α) (lo hi : Option Int) : List α := (xs.drop (HT.sIx xs.length 0 lo)).take (HT.sIx xs.length xs.length hi - HT.sIx xs.length 0 lo)
abbrev FSl := D → Option Int → Option Int → Sto → Res D
def dSl : FSl := fun x lo hi S => match x with
  | .tup ds => .ok (.tup (cut ds lo hi)) S
  | .lst ds => .ok (.lst (cut ds lo hi)) S
  | .fro ds => .ok (.lst (cut ds lo hi)) S
  | .str z => if few z.length = true then .ok (.str (cutS z lo hi)) S else .stuck
  | .loc k => match lstOf S[k]? with
    | some ds => .ok (.lst (cut ds lo hi)) S
    | none => .stuck
  | _ => .stuck
abbrev MO := Rho → Sto → Res (Option Int)
def mNoP : MO := fun _ S => .ok none S
def mPart (m : M) : MO := fun ρ S => (m ρ S).bnd fun d S1 => match d with
  | .int i => .ok (some i) S1
  | _ => .stuck
def iO (Y : Yt) (E : XK) (m : MO) : TO := fun σ H Q => ∃ F as ρ S, At Y σ H F as ρ S ∧ After Y E (fun _ _ a b => a = b) as F H (m ρ S) Q
def mSl (f : FSl) (m : M) (ml mh : MO) : M := fun ρ S => (m ρ S).bnd fun x S1 => (ml ρ S1).bnd fun l S2 => (mh ρ S2).bnd fun h S3 => f x l h S3
def rDS (Y : Yt) (E : XK) (f : FSl) : V → Option Int → Option Int → Hp → VK → Prop := fun x lo hi H Q => ∃ F as S dx, StR Y H F as S ∧ Rp Y as F dx x ∧ After Y E (Rp Y) as F H (f dx lo hi S) Q
section
variable {X : Cx} {Y : Yt} {E : XK} {as : List Addr} {S : Sto} {H F : Hp} {pos p2 : Pos} {a : Expr} {lo hi : Option Expr} {m : M} {ml mh : MO}
theorem PO_imp {X : Cx} {e : Option Expr} {t t' : TO} (h : PO X e t) (k : ∀ σ H Q, t' σ H Q → t σ H Q) : PO X e t' := ⟨fun pins s σ H Q I q => h.run pins s σ H Q I (k σ H Q q)⟩
theorem io_none : PO X none (iO Y E mNoP) := PO_imp po_none fun σ H Q ⟨F, as, ρ, S, t, q⟩ => q.now t.st rfl
theorem io_some (h : PE X a (iE Y E m)) : PO X (some a) (iO Y E (mPart m)) := PO_imp (po_some h) fun σ H Q ⟨F, as, ρ, S, t, q⟩ =>
  ⟨F, as, ρ, S, t, (After.bnd q).imp fun v H1 ⟨d, S1, F1, as1, x1, s1, r1, q1⟩ => by
    cases r1 with
    | int i => exact ⟨i, rfl, q1.now s1 rfl⟩
    | _ => exact q1.elim⟩
theorem i_slice {f : FSl} (hr : SlR X (rDS Y E f)) (he : PE X a (iE Y E m)) (hl : PO X lo (iO Y E ml)) (hh : PO X hi (iO Y E mh)) : PE X (.Subscript a (.Slice lo hi none p2) pos) (iE Y E (mSl f m ml mh)) := PE_imp (pe_slice hr he hl hh) fun σ H Q ⟨F, as, ρ, S, t, q⟩ =>
  ⟨F, as, ρ, S, t, (After.bnd q).imp fun v H1 ⟨d, S1, F1, as1, x1, s1, r1, q1⟩ =>
    ⟨F1, as1, ρ, S1, t.mo x1 s1, (After.bnd q1).imp fun l H2 ⟨d2, S2, F2, as2, x2, s2, r2, q2⟩ => by
      have r2 : d2 = l := r2
      subst r2
      exact ⟨F2, as2, ρ, S2, (t.mo x1 s1).mo x2 s2, (After.bnd q2).imp fun h H3 ⟨d3, S3, F3, as3, x3, s3, r3, q3⟩ => by
        have r3 : d3 = h := r3
        subst r3
        exact ⟨F3, as3, S3, d, s3, (r1.mo x2.pre x2.ex).mo x3.pre x3.ex, q3⟩⟩⟩⟩
theorem Rps.cut {ds : List D} {vs : List V} (r : Rps Y as F ds vs) (lo hi : Option Int) : Rps Y as F (cut ds lo hi) (cutV vs lo hi) := by
  unfold Rf.cut cutV
  rw [r.length]
  exact (r.drop _).take _
theorem cut_whole {α : Type} {ds : List α} {lo hi : Option Int} (h : HT.sIx ds.length 0 lo = 0 ∧ HT.sIx ds.length ds.length hi = ds.length) : cut ds lo hi = ds := by
  unfold cut
  rw [h.1, h.2, List.drop_zero, Nat.sub_zero, List.take_length]
theorem cut_few {α : Type} {ds : List α} {lo hi : Option Int} : (cut ds lo hi).length ≤ ds.length := by
  unfold cut
  rw [List.length_take, List.length_drop]
  omega
theorem s_sl (hK : X.K = Y.K) : SlR X (rDS Y E dSl) := by
  rintro pins s σ H x v vl vu lo hi sl Q I rx hs pl pu ⟨F, as, S, dx, st, r1, q⟩
  have new : ∀ {a : Addr} {vs : List V} {ds : List D}, SqL Y.K H a vs → Rps Y as F ds vs → x = .ref a → After Y E (Rp Y) as F H (.ok (.lst (cut ds lo hi)) S) Q → ∃ T id, typeLookup (.type T) "__getitem__" = pure (some (.builtin id)) ∧ s.TypeIs v T ∧ wpAny (model X.prog X.w) X.A (getItem v (.ref sl)) (EP X pins σ Q) X.xe s := fun {a vs ds} h r e q => by
    subst e
    rw [← hK] at h
    refine sl_list pins s σ H _ v vl vu lo hi sl Q I rx hs pl pu ⟨a, vs, rfl, h, fun p hp => ?_⟩
    have x := Xt.new (o := .lst (cutV vs lo hi)) st hp
    exact q as _ _ _ x (st.new hp) (.lst upd_same ((r.cut lo hi).mo x.pre x.ex))
  cases r1 <;> first | exact q.elim | skip
  case tup a vs ds h r =>
    have h' : SqT X.K H a vs := by rw [hK]; exact seqT_up st h
    refine sl_tupA pins s σ H _ v vl vu lo hi sl Q I rx hs pl pu ⟨a, vs, rfl, h', fun e => ?_, fun e p hp => ?_⟩
    · rw [← r.length] at e
      have q : After Y E (Rp Y) as F H (.ok (.tup (cut ds lo hi)) S) Q := q
      rw [cut_whole e] at q
      exact q.now st (.tup h r)
    · have x := Xt.new (o := .tup (cutV vs lo hi)) st hp
      exact q as _ _ _ x (st.new hp) (.tup (.inl (.inl upd_same)) ((r.cut lo hi).mo x.pre x.ex))
  case lst a vs ds h r => exact new (SqL.of (lst_up st h)) r rfl q
  case fro a vs ds h r => exact new (seqL_up st h) r rfl q
  case str z =>
    obtain ⟨hz, q⟩ := ite_stuck q
    exact sl_str pins s σ H _ v vl vu lo hi sl Q I rx hs pl pu ⟨z, rfl, few_line hz, q.now st (.str _)⟩
  case loc k a h =>
    have q : After Y E (Rp Y) as F H (match lstOf S[k]? with
      | some ds => Res.ok (D.lst (cut ds lo hi)) S
      | none => .stuck) Q := q
    cases e : lstOf S[k]? with
    | none => rw [e] at q; exact q.elim
    | some es =>
      rw [e] at q
      obtain ⟨vs, e2, r⟩ := st.ob _ _ _ h (lstOf_some e)
      exact new (SqL.of e2) r rfl q
/-- t[::-1] -/
def dBack : D → Sto → Res D := fun x S => match x with
  | .tup ds => .ok (.tup ds.reverse) S
  | _ => .stuck
def mU (f : D → Sto → Res D) (m : M) : M := fun ρ S => (m ρ S).bnd f
theorem Rps.rev {ds : List D} {vs : List V} (r : Rps Y as F ds vs) : Rps Y as F ds.reverse vs.reverse := by
  induction ds generalizing vs with
  | nil => cases r; exact .nil
  | cons d ds ih =>
    cases r with
    | cons h1 h2 =>
      rw [List.reverse_cons, List.reverse_cons]
      exact (ih h2).app (.cons h1 .nil)
theorem i_back {k : Nat} {p1 p3 p4 : Pos} (hK : X.K = Y.K) (he : PE X a (iE Y E m)) : PE X (.Subscript a (.Slice none none (some (.UnaryOp .USub (.Constant (.int 1) k p1) p3)) p4) pos) (iE Y E (mU dBack m)) := by
  refine ⟨fun pins s σ H Q I ⟨F, as, ρ, S, t, q⟩ => ?_⟩
  refine Subscript_ (thn (he.run pins s σ H _ I ⟨F, as, ρ, S, t, After.bnd q⟩) fun v s1 ⟨x, H1, I1, rx, d, S1, F1, as1, x1, st1, r1, q1⟩ => ?_)
  cases r1 <;> first | exact q1.elim | skip
  case tup b vs ds hb r =>
    have h' : SqT X.K H1 b vs := by rw [hK]; exact seqT_up st1 hb
    cases rx
    refine wpAny_Slice ?_
    rw [evalPart_none]
    refine wpAny_pure (wpAny_pure ?_)
    have hst : PO X (some (.UnaryOp .USub (.Constant (.int 1) k p1) p3)) (tPart (tUn (rU fun i => .int (-i)) (tC (.int 1)))) := po_some (pe_un un_neg pe_int)
    refine thn (hst.run pins s1 σ H1 (fun o H4 => o = some (-1) ∧ H4 = H1) I1 ⟨1, rfl, -1, rfl, rfl, rfl⟩) fun vs4 s4 ⟨o, H4, I4, ps, eo, e4⟩ => ?_
    subst eo e4
    cases ps with
    | int _ tk =>
      have I5 : L2.Inv X pins σ H4 { s4 with heap := s4.heap.push { cls := .type "slice", data := .fields #[.none, .none, .int (-1) tk] } } := I4.kept (t' := s4.toks) fun c ob z => Heap.get?_push_of_some _ z
      obtain ⟨its, rv, ht, hz⟩ := I5.tuple h'
      have hlen := rv.length
      refine tail_any (ops := [.ref b, .ref s4.heap.objs.size]) ht.typeIs (PyProof.Rows.slot_tuple_getitem.lookup) ?_ (by with_unfolding_all rfl)
      refine item_back ht (Heap.IsSliceOf.new ..) ?_ (by rw [List.size_toArray]; omega)
      refine ⟨.ref _, _, I5.laid (t' := s4.toks) (o := .tup vs.reverse) (fun c ob z => Heap.get?_push_of_some _ z) (Nat.le_refl _) ?_, rfl, ?_⟩
      · exact ⟨by rw [List.length_reverse]; exact hz, its.reverse, rv.reverse, ⟨_, Heap.get?_push_size _ rfl, rfl, _, rfl⟩⟩
      · have hp := I5.hok.fresh (Nat.le_refl _)
        have x := Xt.new (o := .tup vs.reverse) st1 hp
        exact q1 as1 _ _ _ x (st1.new hp) (.tup (.inl (.inl upd_same)) ((r.rev).mo x.pre x.ex))
end
end Rf

set_option Elab.async false
set_option linter.all false
set_option maxRecDepth 100000
/-! R6: built-in functions by data. -/
namespace Rf
open PySem L2 PyProof.Rows

/-- sys.modules is a dict of the base -/
def SysD (h : Heap) : Prop := ∃ mm, h.Ns sysModules mm
/-- a context that readings by data hold in -/
structure On (X : Cx) (Y : Yt) : Prop where
  K : X.K = Y.K
  w : X.w = Y.w
  hu : X.A.units + 200 < cLine
  hd : X.A.handled = none
  calm : X.calm = true
  gd : X.A.guards = some []
  sm : SysD X.base

/-! ### types -/
def tyOf (S : Sto) : D → Option String
  | .non => some "NoneType"
  | .bl _ => some "bool"
  | .int _ => some "int"
  | .str _ => some "str"
  | .tup _ => some "tuple"
  | .lst _ => some "list"
  | .dk _ => some "dict"
  | .loc k => match S[k]? with
    | some (.lst _) => some "list"
    | some (.dk _) => some "dict"
    | _ => none
  | _ => none
def kinds7 : List String := ["NoneType", "bool", "int", "str", "tuple", "list", "dict"]
def isa (a b : String) : Bool := a == b || (a == "bool" && b == "int")
theorem isa_ok : ∀ a ∈ kinds7, ∀ b ∈ kinds7, kitB a b = some (isa a b) := by decide +kernel
abbrev FA' := List D → Sto → Res D
def bIsi : FA := fun xs S => match xs with
  | [x, .ty n] => match tyOf S x with
    | some t => if n ∈ kinds7 then .ok (.bl (isa t n)) S else .stuck
    | none => .stuck
  | _ => .stuck
section
variable {X : Cx} {Y : Yt} {E : XK} {as : List Addr} {S : Sto} {H F : Hp}
theorem loc_cases {k : Nat} {r : Option String} (h : (match S[k]? with
    | some (.lst _) => some "list"
    | some (.dk _) => some "dict"
    | _ => none : Option String) = r) (hr : r ≠ none) : (∃ ds, S[k]? = some (.lst ds) ∧ r = some "list") ∨ ∃ kvs, S[k]? = some (.dk kvs) ∧ r = some "dict" := by
  cases e : S[k]? with
  | none => rw [e] at h; exact absurd h.symm hr
  | some d =>
    rw [e] at h
    cases d <;> first | exact absurd h.symm hr | exact .inl ⟨_, rfl, h.symm⟩ | exact .inr ⟨_, rfl, h.symm⟩
theorem ty_at (st : StR Y H F as S) {d : D} {v : V} {t : String} (r : Rp Y as F d v) (e : tyOf S d = some t) : TyX Y.K H v (.type t) ∧ t ∈ kinds7 := by
  cases r with
  | non => cases e; exact ⟨.base .non, by decide⟩
  | bl b => cases e; exact ⟨.base (.bl b), by decide⟩
  | int i => cases e; exact ⟨.base (.int i), by decide⟩
  | str x => cases e; exact ⟨.base (.str x), by decide⟩
  | @tup a vs ds h r =>
    cases e
    refine ⟨?_, by decide⟩
    rcases seqT_up st h with (h | ⟨o, h⟩) | ⟨o, its, n, hk, hc, _⟩
    · exact .base (.tup h)
    · exact .fTuple h
    · exact .kTuple hk hc
  | lst h r => cases e; exact ⟨.base (.lst (lst_up st h)), by decide⟩
  | dk h k z r => cases e; exact ⟨.base (.dK (lst_up st h)), by decide⟩
  | @loc k a h =>
    rcases loc_cases e (by simp) with ⟨ds, e1, e2⟩ | ⟨kvs, e1, e2⟩
    · cases e2
      obtain ⟨vs, e3, _⟩ := st.ob _ _ _ h e1
      exact ⟨.base (.lst e3), by decide⟩
    · cases e2
      obtain ⟨vs, e3, _⟩ := st.ob _ _ _ h e1
      exact ⟨.base (.dK e3), by decide⟩
  | _ => cases e
theorem args2 {xs : List D} {vs : List V} (r : Rps Y as F xs vs) : ∀ {x y : D}, xs = [x, y] → ∃ v w, vs = [v, w] ∧ Rp Y as F x v ∧ Rp Y as F y w := fun e => by
  subst e
  cases r with
  | cons h1 r => cases r with
    | cons h2 r => cases r; exact ⟨_, _, rfl, h1, h2⟩
theorem args1 {xs : List D} {vs : List V} (r : Rps Y as F xs vs) : ∀ {x : D}, xs = [x] → ∃ v, vs = [v] ∧ Rp Y as F x v := fun e => by
  subst e
  cases r with
  | cons h1 r => cases r; exact ⟨_, rfl, h1⟩
theorem c_isi (o : On X Y) : CallR X (.builtin "isinstance") (rDA Y E bIsi) := by
  rintro pins s σ H xs us Q I rv ⟨F, as, S, ds, st, r, q⟩
  unfold bIsi at q
  split at q
  · rename_i x n
    obtain ⟨v, w, rfl, h1, h2⟩ := args2 r rfl
    split at q
    · rename_i t ht
      obtain ⟨hn, q⟩ := ite_stuck q
      cases h2
      obtain ⟨g1, g2⟩ := ty_at st h1 ht
      rw [← o.K] at g1
      exact call_isi pins s σ H _ us Q I rv ⟨v, .ty n, .type t, .type n, isa t n, rfl, .ty n, g1, kit_ty (isa_ok t g2 n hn), q.now st (.bl _)⟩
    · exact q.elim
  · exact q.elim

/-! ### len -/
def lenOf (S : Sto) : D → Option Nat
  | .str z => if few z.length = true then some z.length else none
  | .dk kvs => some kvs.length
  | .loc k => match S[k]? with
    | some (.lst ds) => some ds.length
    | some (.dk kvs) => some kvs.length
    | _ => none
  | d => (seqOf S d).map List.length
def bLen : FA := fun xs S => match xs with
  | [x] => match lenOf S x with
    | some n => .ok (.int n) S
    | none => .stuck
  | _ => .stuck
theorem c_len (o : On X Y) : CallR X (.builtin "len") (rDA Y E bLen) := by
  rintro pins s σ H xs us Q I rv ⟨F, as, S, ds, st, r, q⟩
  unfold bLen at q
  split at q
  · rename_i x
    obtain ⟨v, rfl, h1⟩ := args1 r rfl
    split at q
    · rename_i n hn
      have q := q.now st (.int _)
      have seq : ∀ {es : List D}, seqOf S x = some es → n = es.length → wpAny (model X.prog X.w) X.A (call (.builtin "len") us) (EP X pins σ Q) X.xe s := fun {es} e en => by
        obtain ⟨a, vs, rfl, h, r⟩ := seq_at st h1 e
        rw [← o.K] at h
        rw [en, r.length] at q
        exact call_len_seq pins s σ H _ us Q I rv ⟨a, vs, rfl, h, q⟩
      cases h1 with
      | str z =>
        have hn : (if few z.length = true then some z.length else none) = some n := hn
        split at hn
        · rename_i hz
          cases hn
          exact call_len_str pins s σ H _ us Q I rv ⟨z, rfl, few_line hz, q⟩
        · cases hn
      | @dk a ws kvs vs h k z r =>
        cases hn
        have e : kvs.length = ws.length := by have := congrArg List.length k; simpa using this.symm
        rw [e] at q
        exact call_lenD pins s σ H _ us Q I rv ⟨a, ws, rfl, lst_up st h, q⟩
      | @loc k a h =>
        have hn : (match S[k]? with
          | some (.lst ds) => some ds.length
          | some (.dk kvs) => some kvs.length
          | _ => none : Option Nat) = some n := hn
        cases e : S[k]? with
        | none => rw [e] at hn; cases hn
        | some d =>
          rw [e] at hn
          cases d <;> first | (cases hn; done) | skip
          case lst es =>
            cases hn
            exact seq (es := es) (by show lstOf S[k]? = some es; rw [e]; rfl) rfl
          case dk kvs =>
            cases hn
            obtain ⟨ws, e1, e2, _⟩ := st.ob _ _ _ h e
            have e3 : kvs.length = ws.length := by have := congrArg List.length e2; simpa using this.symm
            rw [e3] at q
            exact call_lenD pins s σ H _ us Q I rv ⟨a, ws, rfl, e1, q⟩
      | tup h r => cases hn; exact seq rfl rfl
      | lst h r => cases hn; exact seq rfl rfl
      | fro h r => cases hn; exact seq rfl rfl
      | _ => cases hn
    · exact q.elim
  · exact q.elim

/-! ### all, any -/
def bools : List D → Option (List Bool)
  | [] => some []
  | .bl b :: ds => (bools ds).map (b :: ·)
  | _ :: _ => none
theorem bools_at : ∀ {ds : List D} {vs : List V} {bs : List Bool}, Rps Y as F ds vs → bools ds = some bs → vs = bs.map V.bl
  | [], _, _, .nil, e => by cases e; rfl
  | d :: ds, _, _, .cons h r, e => by
    cases h with
    | bl b =>
      obtain ⟨cs, e1, rfl⟩ := map_some (show (bools ds).map (b :: ·) = some _ from e)
      rw [bools_at r e1]
      rfl
    | _ => cases e
def bAllAny (f : List Bool → Bool) : FA := fun xs S => match xs with
  | [.lst ds] => match bools ds with
    | some bs => .ok (.bl (f bs)) S
    | none => .stuck
  | _ => .stuck
theorem aa_core (f : List Bool → Bool) {ds : List D} {vs : List V} {Q : VK} (st : StR Y H F as S) (r : Rps Y as F ds vs) (q : After Y E (Rp Y) as F H (bAllAny f ds S) Q) : ∃ a bs, vs = [V.ref a] ∧ SqL Y.K H a (bs.map V.bl) ∧ Q (.bl (f bs)) H := by
  unfold bAllAny at q
  split at q
  · rename_i es
    obtain ⟨v, rfl, h1⟩ := args1 r rfl
    split at q
    · rename_i bs hb
      cases h1 with
      | lst h r2 =>
        refine ⟨_, bs, rfl, ?_, q.now st (.bl _)⟩
        rw [← bools_at r2 hb]
        exact SqL.of (lst_up st h)
    · exact q.elim
  · exact q.elim
theorem c_all (o : On X Y) : CallR X (.builtin "all") (rDA Y E (bAllAny fun bs => bs.all id)) := by
  rintro pins s σ H xs us Q I rv ⟨F, as, S, ds, st, r, q⟩
  obtain ⟨a, bs, e, h, q⟩ := aa_core _ st r q
  rw [← o.K] at h
  exact cr_all o.calm pins s σ H _ us Q I rv ⟨a, bs, e, h, q⟩
theorem c_any (o : On X Y) : CallR X (.builtin "any") (rDA Y E (bAllAny fun bs => bs.any id)) := by
  rintro pins s σ H xs us Q I rv ⟨F, as, S, ds, st, r, q⟩
  obtain ⟨a, bs, e, h, q⟩ := aa_core _ st r q
  rw [← o.K] at h
  exact cr_any o.calm pins s σ H _ us Q I rv ⟨a, bs, e, h, q⟩

/-! ### list, tuple -/
def bList : FA := fun xs S => match xs with
  | [x] => match seqOf S x with
    | some ds => .ok (.lst ds) S
    | none => .stuck
  | _ => .stuck
theorem c_list (o : On X Y) : CallR X (.type "list") (rDA Y E bList) := by
  rintro pins s σ H xs us Q I rv ⟨F, as, S, ds, st, r, q⟩
  unfold bList at q
  split at q
  · rename_i x
    obtain ⟨v, rfl, h1⟩ := args1 r rfl
    split at q
    · rename_i es hs
      obtain ⟨a, vs, rfl, h, r2⟩ := seq_at st h1 hs
      rw [← o.K] at h
      refine call_list_of pins s σ H _ us Q I rv ⟨a, vs, rfl, h, fun p hp => ?_⟩
      have x := Xt.new (o := .lst vs) st hp
      exact q as _ _ _ x (st.new hp) (.lst upd_same (r2.mo x.pre x.ex))
    · exact q.elim
  · exact q.elim
/-- a list that may be changed -/
def bListC : FA := fun xs S => match xs with
  | [x] => match seqOf S x with
    | some ds => .ok (.loc S.length) (S ++ [.lst ds])
    | none => .stuck
  | _ => .stuck
theorem c_listC (o : On X Y) : CallR X (.type "list") (rDA Y E bListC) := by
  rintro pins s σ H xs us Q I rv ⟨F, as, S, ds, st, r, q⟩
  unfold bListC at q
  split at q
  · rename_i x
    obtain ⟨v, rfl, h1⟩ := args1 r rfl
    split at q
    · rename_i es hs
      obtain ⟨a, vs, rfl, h, r2⟩ := seq_at st h1 hs
      rw [← o.K] at h
      refine call_list_of pins s σ H _ us Q I rv ⟨a, vs, rfl, h, fun p hp => ?_⟩
      have x := Xt.cell (o := .lst vs) st hp
      have e : (as ++ [p])[S.length]? = some p := by rw [← st.len]; simp
      exact q (as ++ [p]) _ _ _ x (st.cell hp ⟨vs, upd_same, r2.mo x.pre (fun _ _ z => z)⟩) (.loc e)
    · exact q.elim
  · exact q.elim
def bTuple : FA := fun xs S => match xs with
  | [x] => match seqOf S x with
    | some ds => .ok (.tup ds) S
    | none => .stuck
  | _ => .stuck
theorem c_tuple (o : On X Y) : CallR X (.type "tuple") (rDA Y E bTuple) := by
  rintro pins s σ H xs us Q I rv ⟨F, as, S, ds, st, r, q⟩
  unfold bTuple at q
  split at q
  · rename_i x
    obtain ⟨v, rfl, h1⟩ := args1 r rfl
    split at q
    · rename_i es hs
      have other : (∃ a vs, v = .ref a ∧ SqL Y.K H a vs ∧ Rps Y as F es vs) → wpAny (model X.prog X.w) X.A (call (.type "tuple") us) (EP X pins σ Q) X.xe s := by
        rintro ⟨a, vs, rfl, h, r2⟩
        rw [← o.K] at h
        refine call_tuple_of pins s σ H _ us Q I rv ⟨a, vs, rfl, .inl ⟨h, fun p hp => ?_⟩⟩
        have x := Xt.new (o := .tup vs) st hp
        exact q as _ _ _ x (st.new hp) (.tup (.inl (.inl upd_same)) (r2.mo x.pre x.ex))
      cases h1 with
      | @tup a vs ds h r2 =>
        cases hs
        have h' := seqT_up st h
        rw [← o.K] at h'
        exact call_tuple_of pins s σ H _ us Q I rv ⟨a, vs, rfl, .inr ⟨h', q.now st (.tup h r2)⟩⟩
      | lst h r2 => cases hs; exact other ⟨_, _, rfl, SqL.of (lst_up st h), r2⟩
      | fro h r2 => cases hs; exact other ⟨_, _, rfl, seqL_up st h, r2⟩
      | loc h =>
        obtain ⟨vs, e2, r2⟩ := st.ob _ _ _ h (lstOf_some (show lstOf S[_]? = some es from hs))
        exact other ⟨_, _, rfl, SqL.of e2, r2⟩
      | _ => cases hs
    · exact q.elim
  · exact q.elim

/-! ### numbers -/
def bInt : FA := fun xs S => match xs with
  | [.int i] => .ok (.int i) S
  | [.bl b] => .ok (.int (if b then 1 else 0)) S
  | _ => .stuck
theorem c_int : CallR X (.type "int") (rDA Y E bInt) := by
  rintro pins s σ H xs us Q I rv ⟨F, as, S, ds, st, r, q⟩
  unfold bInt at q
  split at q
  · obtain ⟨v, rfl, h1⟩ := args1 r rfl
    cases h1
    exact call_int1 pins s σ H _ us Q I rv (.inl ⟨_, rfl, q.now st (.int _)⟩)
  · obtain ⟨v, rfl, h1⟩ := args1 r rfl
    cases h1
    exact call_int1 pins s σ H _ us Q I rv (.inr ⟨_, rfl, q.now st (.int _)⟩)
  · exact q.elim
def bAbs : FA := fun xs S => match xs with
  | [.int i] => .ok (.int (if i < 0 then -i else i)) S
  | _ => .stuck
theorem c_abs : CallR X (.builtin "abs") (rDA Y E bAbs) := by
  rintro pins s σ H xs us Q I rv ⟨F, as, S, ds, st, r, q⟩
  unfold bAbs at q
  split at q
  · obtain ⟨v, rfl, h1⟩ := args1 r rfl
    cases h1
    exact call_abs pins s σ H _ us Q I rv ⟨_, rfl, q.now st (.int _)⟩
  · exact q.elim
def bMax2 : FA := fun xs S => match xs with
  | [.int i, .int j] => .ok (.int (if j > i then j else i)) S
  | _ => .stuck
theorem c_max2 (o : On X Y) : CallR X (.builtin "max") (rDA Y E bMax2) := by
  rintro pins s σ H xs us Q I rv ⟨F, as, S, ds, st, r, q⟩
  unfold bMax2 at q
  split at q
  · obtain ⟨v, w, rfl, h1, h2⟩ := args2 r rfl
    cases h1
    cases h2
    exact call_max2 o.calm pins s σ H _ us Q I rv ⟨_, _, rfl, q.now st (.int _)⟩
  · exact q.elim
def bMin2 : FA := fun xs S => match xs with
  | [.int i, .int j] => .ok (.int (if j < i then j else i)) S
  | _ => .stuck
theorem c_min2 (o : On X Y) : CallR X (.builtin "min") (rDA Y E bMin2) := by
  rintro pins s σ H xs us Q I rv ⟨F, as, S, ds, st, r, q⟩
  unfold bMin2 at q
  split at q
  · obtain ⟨v, w, rfl, h1, h2⟩ := args2 r rfl
    cases h1
    cases h2
    exact call_min2 o.calm pins s σ H _ us Q I rv ⟨_, _, rfl, q.now st (.int _)⟩
  · exact q.elim
end
end Rf

set_option Elab.async false
set_option linter.all false
set_option maxRecDepth 100000
/-! R7: what is walked, for, list comprehensions by data. -/
namespace Rf
open PySem L2 PyProof.Rows

/-! ### what is walked -/
/-- the items, and what of the store must stay -/
structure Src where
  items : List D
  ok : Sto → Bool
abbrev MI := Rho → Sto → Res Src
def free : Sto → Bool := fun _ => true
def held (k : Nat) (ds : List D) (n : Nat) : Sto → Bool := fun S => match S[k]? with
  | some (.lst es) => es.length == n
  | _ => false
/-- an iterator J gives the items, one behind the other -/
def IW (Y : Yt) (as : List Addr) (F H : Hp) (c : Src) (J : It) : Prop := ∃ G Yr, Walk J c.items.length G Yr ∧
  (∀ as' F' H' S', Xt H F as H' F' as' → StR Y H' F' as' S' → c.ok S' = true → G H') ∧
  ∀ i d as' F' H' S' x H2, c.items[i]? = some d → Xt H F as H' F' as' → StR Y H' F' as' S' → Yr i H' x H2 → ∃ F2, Xt H' F' as' H2 F2 as' ∧ StR Y H2 F2 as' S' ∧ Rp Y as' F2 d x
def AfterI (Y : Yt) (E : XK) (as : List Addr) (F H : Hp) (r : Res Src) (R : It → Hp → Prop) : Prop := match r with
  | .stuck => False
  | .ok c S' => ∀ as' F' H' J, Xt H F as H' F' as' → StR Y H' F' as' S' → IW Y as' F' H' c J → R J H'
  | .err x S' => ∀ as' F' H' cls dx, Xt H F as H' F' as' → StR Y H' F' as' S' → ExR Y as' F' x cls dx H' → E cls dx H'
def iI (Y : Yt) (E : XK) (m : MI) : TI := fun σ H R => ∃ F as ρ S, At Y σ H F as ρ S ∧ AfterI Y E as F H (m ρ S) R
section
variable {Y : Yt} {E : XK} {as : List Addr} {F H : Hp}
theorem AfterI.weak {r : Res Src} {R : It → Hp → Prop} {as1 : List Addr} {F1 H1 : Hp} (x : Xt H F as H1 F1 as1) (h : AfterI Y E as F H r R) : AfterI Y E as1 F1 H1 r R := by
  cases r with
  | stuck => exact h
  | ok d S' => exact fun as' F' H' v x' s q => h as' F' H' v (x.trans x') s q
  | err y S' => exact fun as' F' H' c d x' s q => h as' F' H' c d (x.trans x') s q
theorem AfterI.bnd {α β : Type} {rl : Rl α β} {r : Res α} {k : α → Sto → Res Src} {R : It → Hp → Prop} (h : AfterI Y E as F H (r.bnd k) R) :
    After Y E rl as F H r fun v H1 => ∃ d S1 F1 as1, Xt H F as H1 F1 as1 ∧ StR Y H1 F1 as1 S1 ∧ rl as1 F1 d v ∧ AfterI Y E as1 F1 H1 (k d S1) R := by
  cases r with
  | stuck => exact h
  | ok d S' => exact fun as' F' H' v x s q => ⟨d, S', F', as', x, s, q, AfterI.weak x h⟩
  | err x S' => exact h
theorem seqT_on {K : PySem.W.Frag} {a : Addr} {vs : List V} (h : SqT Y.K F a vs) {as' : List Addr} {F' H' : Hp} {S' : Sto} (x : Xt H F as H' F' as') (s : StR Y H' F' as' S') : SqT Y.K H' a vs := seqT_up s (sqt_ex x.ex h)
/-- items that stand as they stood -/
theorem iw_at {J : It} {vs : List V} {ds : List D} {G : Hp → Prop} {ok : Sto → Bool} (w : Walk J vs.length G (YAt vs)) (r : Rps Y as F ds vs)
    (g : ∀ as' F' H' S', Xt H F as H' F' as' → StR Y H' F' as' S' → ok S' = true → G H') : IW Y as F H ⟨ds, ok⟩ J := by
  refine ⟨G, YAt vs, by show Walk J ds.length _ _; rw [r.length]; exact w, g, fun i d as' F' H' S' x H2 e xt st y => ?_⟩
  obtain ⟨rfl, e2⟩ := y
  obtain ⟨v, e3, rv⟩ := (r.mo xt.pre xt.ex).get (i := i) (d := d) e
  rw [e2] at e3
  cases e3
  exact ⟨F', Xt.refl _ _ _, st, rv⟩
theorem iw_tup {a : Addr} {vs : List V} {ds : List D} (h : SqT Y.K F a vs) (r : Rps Y as F ds vs) : IW Y as F H ⟨ds, free⟩ (Itt Y.K a) :=
  iw_at walk_tup r fun as' F' H' S' x s _ => seqT_up s (sqt_ex x.ex h)
theorem iw_fro {a : Addr} {vs : List V} {ds : List D} (h : SqL Y.K F a vs) (r : Rps Y as F ds vs) : IW Y as F H ⟨ds, free⟩ (Itl Y.K a) :=
  iw_at walk_list r fun as' F' H' S' x s _ => seqL_up s (sql_ex x.ex h)
theorem iw_range {lo : Int} {n : Nat} : IW Y as F H ⟨(List.range n).map fun (i : Nat) => D.int (lo + (i : Int)), free⟩ (Itr lo n) := by
  refine ⟨_, _, by simpa using walk_range, fun _ _ _ _ _ _ _ => True.intro, fun i d as' F' H' S' x H2 e xt st y => ?_⟩
  obtain ⟨rfl, rfl⟩ := y
  have e : ((List.range n).map fun (i : Nat) => D.int (lo + (i : Int)))[i]? = some d := e
  rw [List.getElem?_map] at e
  obtain ⟨j, e1, rfl⟩ := map_some e
  obtain ⟨_, e2⟩ := List.getElem?_eq_some_iff.mp e1
  rw [List.getElem_range] at e2
  subst e2
  exact ⟨F', Xt.refl _ _ _, st, .int _⟩
theorem iw_str {z : Str} : IW Y as F H ⟨z.cps.toList.map fun c => D.str ⟨#[c]⟩, free⟩ (Its z) := by
  refine ⟨_, _, by simpa using walk_str, fun _ _ _ _ _ _ _ => True.intro, fun i d as' F' H' S' x H2 e xt st y => ?_⟩
  obtain ⟨rfl, c, e1, rfl⟩ := y
  have e : (z.cps.toList.map fun c => D.str ⟨#[c]⟩)[i]? = some d := e
  rw [List.getElem?_map] at e
  obtain ⟨c', e2, rfl⟩ := map_some e
  rw [Array.getElem?_toList, e1] at e2
  cases e2
  exact ⟨F', Xt.refl _ _ _, st, .str _⟩
end
/-- the items of a value; a list that may be changed must keep its length and its items -/
def srcOf (d : D) (S : Sto) : Res Src := match d with
  | .str z => .ok ⟨z.cps.toList.map fun c => .str ⟨#[c]⟩, free⟩ S
  | .tup ds => .ok ⟨ds, free⟩ S
  | .lst ds => .ok ⟨ds, free⟩ S
  | .fro ds => .ok ⟨ds, free⟩ S
  | _ => .stuck
def mVal (m : M) : MI := fun ρ S => (m ρ S).bnd srcOf
def mRange1 (mr : Rho → Sto → Res (List D)) : MI := fun ρ S => (mr ρ S).bnd fun ds S1 => match ds with
  | [.int j] => if -(2 ^ 62) ≤ j ∧ j < 2 ^ 62 then .ok ⟨(List.range j.toNat).map fun (i : Nat) => .int (0 + (i : Int)), free⟩ S1 else .stuck
  | _ => .stuck
def mRange2 (mr : Rho → Sto → Res (List D)) : MI := fun ρ S => (mr ρ S).bnd fun ds S1 => match ds with
  | [.int i, .int j] => if -(2 ^ 62) ≤ i ∧ i < 2 ^ 62 ∧ -(2 ^ 62) ≤ j ∧ j < 2 ^ 62 then .ok ⟨(List.range (j - i).toNat).map fun (k : Nat) => .int (i + (k : Int)), free⟩ S1 else .stuck
  | _ => .stuck
section
variable {X : Cx} {Y : Yt} {E : XK} {tg e : Expr} {m : M} {es : List Expr} {mr : Rho → Sto → Res (List D)} {p pos : Pos}
theorem PI_imp {X : Cx} {tg e : Expr} {t t' : TI} (h : PI X tg e t) (k : ∀ σ H Q, t' σ H Q → t σ H Q) : PI X tg e t' := ⟨fun pins s σ H Q I q => h.run pins s σ H Q I (k σ H Q q)⟩
theorem PI_at {X : Cx} {tg e : Expr} {t' : TI} (h : ∀ σ H R, t' σ H R → ∃ t, PI X tg e t ∧ t σ H R) : PI X tg e t' := ⟨fun pins s σ H R I q => by
  obtain ⟨t, h1, h2⟩ := h σ H R q
  exact h1.run pins s σ H R I h2⟩
theorem ii_val (hK : X.K = Y.K) (he : PE X e (iE Y E m)) : PI X tg e (iI Y E (mVal m)) := PI_at fun σ H R ⟨F, as, ρ, S, t, q⟩ => by
  have key : ∀ {t : TI}, PI X tg e t → t σ H R → ∃ t, PI X tg e t ∧ t σ H R := fun h1 h2 => ⟨_, h1, h2⟩
  cases hm : m ρ S with
  | stuck => unfold mVal at q; rw [hm] at q; exact q.elim
  | err x S1 =>
    unfold mVal at q
    rw [hm] at q
    refine key (pi_list he) ⟨F, as, ρ, S, t, ?_⟩
    rw [hm]
    exact q
  | ok d S1 =>
    unfold mVal at q
    rw [hm] at q
    have q : AfterI Y E as F H (srcOf d S1) R := q
    have hs : ∀ {z : Str}, d = .str z → ∃ t, PI X tg e t ∧ t σ H R := fun {z} ed => by
      subst ed
      refine key (pi_str he) ⟨F, as, ρ, S, t, ?_⟩
      rw [hm]
      intro as' F' H' v x s r
      cases r
      exact ⟨z, rfl, q as' F' H' _ x s iw_str⟩
    have ht : ∀ {ds : List D}, d = .tup ds → ∃ t, PI X tg e t ∧ t σ H R := fun {ds} ed => by
      subst ed
      refine key (pi_tup he) ⟨F, as, ρ, S, t, ?_⟩
      rw [hm]
      intro as' F' H' v x s r
      cases r with
      | @tup a vs ds h r =>
        rw [hK]
        exact ⟨a, rfl, ⟨vs, seqT_up s h⟩, q as' F' H' _ x s (iw_tup h r)⟩
    have hl : ∀ {ds : List D}, d = .lst ds → ∃ t, PI X tg e t ∧ t σ H R := fun {ds} ed => by
      subst ed
      refine key (pi_list he) ⟨F, as, ρ, S, t, ?_⟩
      rw [hm]
      intro as' F' H' v x s r
      cases r with
      | @lst a vs ds h r =>
        rw [hK]
        exact ⟨a, rfl, ⟨vs, SqL.of (lst_up s h)⟩, q as' F' H' _ x s (iw_fro (SqL.of h) r)⟩
    have hf : ∀ {ds : List D}, d = .fro ds → ∃ t, PI X tg e t ∧ t σ H R := fun {ds} ed => by
      subst ed
      refine key (pi_list he) ⟨F, as, ρ, S, t, ?_⟩
      rw [hm]
      intro as' F' H' v x s r
      cases r with
      | @fro a vs ds h r =>
        rw [hK]
        exact ⟨a, rfl, ⟨vs, seqL_up s h⟩, q as' F' H' _ x s (iw_fro h r)⟩
    cases d with
    | str z => exact hs rfl
    | tup ds => exact ht rfl
    | lst ds => exact hl rfl
    | fro ds => exact hf rfl
    | _ => exact q.elim
theorem ii_range1 {a : Expr} (hg : Gl X "range") (hm : X.mg "range" = none) (ha : PA X [a] (iA Y E mr)) (hs : starEach [a] X.env = [(false, eval a X.env)] := by rfl) : PI X tg (.Call (.Name "range" p) [a] [] pos) (iI Y E (mRange1 mr)) :=
  PI_imp (pi_range1 hg hm ha hs) fun σ H R ⟨F, as, ρ, S, t, q⟩ => ⟨F, as, ρ, S, t, (AfterI.bnd q).imp fun vs H1 ⟨ds, S1, F1, as1, x1, s1, r1, q1⟩ => by
    cases r1 with
    | nil => exact q1.elim
    | cons h r2 => cases r2 with
      | cons _ _ => cases h <;> exact q1.elim
      | nil => cases h with
        | int j =>
          have q1 : AfterI Y E as1 F1 H1 (if -(2 ^ 62) ≤ j ∧ j < 2 ^ 62 then .ok ⟨(List.range j.toNat).map fun (i : Nat) => .int (0 + (i : Int)), free⟩ S1 else .stuck) R := q1
          split at q1
          · rename_i hb
            exact ⟨j, rfl, hb.1, hb.2, q1 as1 F1 H1 _ (Xt.refl _ _ _) s1 iw_range⟩
          · exact q1.elim
        | _ => exact q1.elim⟩
theorem ii_range2 {a b : Expr} (hg : Gl X "range") (hm : X.mg "range" = none) (ha : PA X [a, b] (iA Y E mr)) (hs : starEach [a, b] X.env = [(false, eval a X.env), (false, eval b X.env)] := by rfl) (hs2 : starEach [b] X.env = [(false, eval b X.env)] := by rfl) : PI X tg (.Call (.Name "range" p) [a, b] [] pos) (iI Y E (mRange2 mr)) :=
  PI_imp (pi_range2 hg hm ha hs hs2) fun σ H R ⟨F, as, ρ, S, t, q⟩ => ⟨F, as, ρ, S, t, (AfterI.bnd q).imp fun vs H1 ⟨ds, S1, F1, as1, x1, s1, r1, q1⟩ => by
    cases r1 with
    | nil => exact q1.elim
    | cons h r2 => cases r2 with
      | nil => cases h <;> exact q1.elim
      | cons h2 r3 => cases r3 with
        | cons _ _ => cases h <;> cases h2 <;> exact q1.elim
        | nil => cases h with
          | int i => cases h2 with
            | int j =>
              have q1 : AfterI Y E as1 F1 H1 (if -(2 ^ 62) ≤ i ∧ i < 2 ^ 62 ∧ -(2 ^ 62) ≤ j ∧ j < 2 ^ 62 then .ok ⟨(List.range (j - i).toNat).map fun (k : Nat) => .int (i + (k : Int)), free⟩ S1 else .stuck) R := q1
              split at q1
              · rename_i hb
                exact ⟨i, j, rfl, hb, q1 as1 F1 H1 _ (Xt.refl _ _ _) s1 iw_range⟩
              · exact q1.elim
            | _ => exact q1.elim
          | _ => cases h2 <;> exact q1.elim⟩
end

/-! ### for -/
def turnL (k : MS) : Out → Out
  | .nx ρ S => k ρ S
  | .ct ρ S => k ρ S
  | .bk ρ S => .nx ρ S
  | o => o
def stepL (k b : MS) : Option (Rho × Sto) → Out
  | some p => turnL k (b p.1 p.2)
  | none => .stuck
def forL (ok : Sto → Bool) (g : MG) (b : MS) : List D → MS
  | [], ρ, S => if ok S = true then .nx ρ S else .stuck
  | d :: ds, ρ, S => if ok S = true then stepL (forL ok g b ds) b (g d ρ S) else .stuck
def outI (r : Res Src) (k : Src → Sto → Out) : Out := match r with
  | .stuck => .stuck
  | .ok c S => k c S
  | .err x S => .err x S
def sFor (mi : MI) (g : MG) (b : MS) : MS := fun ρ S => outI (mi ρ S) fun c S1 => forL c.ok g b c.items ρ S1
section
variable {X : Cx} {Y : Yt} {E : XK} {tg iter : Expr} {body : List Stmt} {mi : MI} {g : MG} {b : MS} {pos : Pos} {vs : List Nat}
theorem is_for (hp : PassesOwn (model X.prog X.w) X.A X.env X.xe) (o : On X Y) (hi : PI X tg iter (iI Y E mi)) (hg : PG X tg (iG Y vs g)) (hb : PSs X body (iS Y E b)) (hs : ∀ x, foldedSetIterable iter X.env x = pure x := by intro _; rfl) :
    PS X (.For tg iter body [] pos) (iS Y E (sFor mi g b)) := PS_imp (ps_for hp o.calm hi hg hb hs) fun Dn σ H ⟨F, as, ρ, S, t, q⟩ => by
  refine ⟨F, as, ρ, S, t, ?_⟩
  unfold sFor at q
  cases hm : mi ρ S with
  | stuck => rw [hm] at q; exact q.elim
  | err x S1 => rw [hm] at q; exact q
  | ok c S1 =>
    rw [hm] at q
    have q : AfterS Y E as F H (forL c.ok g b c.items ρ S1) Dn := q
    intro as1 F1 H1 J x1 s1 ⟨G, Yr, w, hG, hY⟩
    refine for_it w (fun i σ' H' => ∃ F' as' ρ' S', At Y σ' H' F' as' ρ' S' ∧ Xt H1 F1 as1 H' F' as' ∧ AfterS Y E as' F' H' (forL c.ok g b (c.items.drop i) ρ' S') Dn) ?_ ?_ ?_ ?_
    · exact ⟨F1, as1, ρ, S1, t.mo x1 s1, Xt.refl _ _ _, by rw [List.drop_zero]; exact AfterS.weak x1 q⟩
    · rintro i σ' H' hi ⟨F', as', ρ', S', t', x', q'⟩
      refine hG as' F' H' S' x' t'.st ?_
      cases hd : c.items.drop i with
      | nil =>
        rw [hd] at q'
        unfold forL at q'
        split at q'
        · assumption
        · exact q'.elim
      | cons d ds =>
        rw [hd] at q'
        unfold forL at q'
        split at q'
        · assumption
        · exact q'.elim
    · rintro i x σ' H' H2 hi ⟨F', as', ρ', S', t', x', q'⟩ y
      have hd : c.items.drop i = c.items[i] :: c.items.drop (i + 1) := (List.drop_eq_getElem_cons hi)
      rw [hd] at q'
      unfold forL at q'
      split at q' <;> first | exact q'.elim | skip
      rename_i hok
      cases hgd : g c.items[i] ρ' S' with
      | none => rw [hgd] at q'; exact q'.elim
      | some z =>
        obtain ⟨ρ1, S2⟩ := z
        rw [hgd] at q'
        have q' : AfterS Y E as' F' H' (turnL (forL c.ok g b (c.items.drop (i + 1))) (b ρ1 S2)) Dn := q'
        obtain ⟨F2, x2, s2, r2⟩ := hY i c.items[i] as' F' H' S' x H2 (List.getElem?_eq_getElem hi) x' t'.st y
        refine ⟨F2, as', ρ', S', c.items[i], ρ1, S2, t'.mo x2 s2, r2, hgd, fun as3 F3 H3 σ3 x3 s3 f3 _ => ?_⟩
        refine ⟨F3, as3, ρ1, S2, ⟨s3, f3⟩, ?_⟩
        have q3 := AfterS.weak (x2.trans x3) q'
        cases hbb : b ρ1 S2 with
        | stuck => rw [hbb] at q3; exact q3.elim
        | nx ρ2 S4 =>
          rw [hbb] at q3
          exact fun as4 F4 H4 σ4 x4 s4 f4 => ⟨F4, as4, ρ2, S4, ⟨s4, f4⟩, x'.trans ((x2.trans x3).trans x4), AfterS.weak x4 q3⟩
        | ct ρ2 S4 =>
          rw [hbb] at q3
          exact fun as4 F4 H4 σ4 x4 s4 f4 => ⟨F4, as4, ρ2, S4, ⟨s4, f4⟩, x'.trans ((x2.trans x3).trans x4), AfterS.weak x4 q3⟩
        | bk ρ2 S4 => rw [hbb] at q3; exact q3
        | rt d S4 => rw [hbb] at q3; exact q3
        | err x S4 => rw [hbb] at q3; exact q3
    · rintro σ' H' ⟨F', as', ρ', S', t', x', q'⟩
      rw [List.drop_length] at q'
      unfold forL at q'
      split at q' <;> first | exact q'.elim | skip
      exact q' as' F' H' σ' (Xt.refl _ _ _) t'.st t'.fr
end
end Rf

set_option Elab.async false
set_option linter.all false
set_option maxRecDepth 100000
/-! R8: list comprehensions by data (nothing is raised within). -/
namespace Rf
open PySem L2 PyProof.Rows

def wipeR (ρ : Rho) : List Nat → Rho
  | [] => ρ
  | v :: vs => (wipeR ρ vs).set v none
def Res.thn {α β : Type} (r : Res α) (k : α → Sto → Res β) : Res β := match r with
  | .ok a S => k a S
  | _ => .stuck
def optR {α : Type} (o : Option (Rho × Sto)) (k : Rho → Sto → Res α) : Res α := match o with
  | some p => k p.1 p.2
  | none => .stuck
def lcL (ok : Sto → Bool) (g : MG) (mt : MT) (me : M) (ρ0 : Rho) : List D → List D → Sto → Res (List D)
  | [], acc, S => if ok S = true then .ok acc S else .stuck
  | d :: ds, acc, S => if ok S = true ∧ acc.length < 1000000 then optR (g d ρ0 S) fun ρ1 S1 => (mt ρ1 S1).thn fun b S2 => if b = true then (me ρ1 S2).thn fun y S3 => lcL ok g mt me ρ0 ds (acc ++ [y]) S3 else lcL ok g mt me ρ0 ds acc S2 else .stuck
def bndI {α : Type} (r : Res Src) (k : Src → Sto → Res α) : Res α := match r with
  | .stuck => .stuck
  | .ok c S => k c S
  | .err x S => .err x S
def mLc (mi : MI) (g : MG) (mt : MT) (me : M) (vs : List Nat) : M := fun ρ S => bndI (mi ρ S) fun c S1 => (lcL c.ok g mt me (wipeR ρ vs) c.items [] S1).thn fun ds S2 => .ok (.lst ds) S2
def mLcC (mi : MI) (g : MG) (mt : MT) (me : M) (vs : List Nat) : M := fun ρ S => bndI (mi ρ S) fun c S1 => (lcL c.ok g mt me (wipeR ρ vs) c.items [] S1).thn fun ds S2 => .ok (.loc S2.length) (S2 ++ [.lst ds])
def mYes : MT := fun _ S => .ok true S
section
variable {Y : Yt} {as : List Addr} {F H : Hp}
theorem FrR.wipe {ρ : Rho} {σ : L2.St} (f : FrR Y as F ρ σ) : ∀ vs : List Nat, FrR Y as F (wipeR ρ vs) (L2.wipe σ vs)
  | [] => f
  | v :: vs => by
    have g := FrR.wipe f vs
    refine ⟨by simp [wipeR, L2.wipe, g.len], fun i d h => ?_⟩
    by_cases hi : v = i
    · subst hi
      rw [wipeR, List.getElem?_set_self'] at h
      cases e : (wipeR ρ vs)[v]? with
      | none => rw [e] at h; simp at h
      | some q => rw [e] at h; simp at h
    · rw [wipeR, List.getElem?_set_ne hi] at h
      rw [L2.wipe, List.getElem?_set_ne hi]
      exact g.at_ i d h
theorem wipe_get {σ : L2.St} {j : Nat} : ∀ {vs : List Nat}, j ∉ vs → (L2.wipe σ vs)[j]? = σ[j]?
  | [], _ => rfl
  | v :: vs, h => by
    rw [L2.wipe, List.getElem?_set_ne (fun e => h (by rw [e]; exact List.mem_cons_self ..))]
    exact wipe_get fun z => h (List.mem_cons_of_mem _ z)
theorem wipe_in {σ : L2.St} {j : Nat} : ∀ {vs : List Nat}, j ∈ vs → (L2.wipe σ vs)[j]? = if j < σ.length then some none else none
  | v :: vs, h => by
    by_cases e : v = j
    · subst e
      rw [L2.wipe, List.getElem?_set]
      simp [L2.wipe_length]
    · rw [L2.wipe, List.getElem?_set_ne e]
      exact wipe_in ((List.mem_cons.mp h).resolve_left fun z => e z.symm)
theorem wipe_but {vs : List Nat} {σ σ' : L2.St} (b : But vs (L2.wipe σ vs) σ') : L2.wipe σ' vs = L2.wipe σ vs := by
  have hl : σ'.length = σ.length := by have := b.1; rwa [L2.wipe_length] at this
  apply List.ext_getElem?
  intro j
  by_cases h : j ∈ vs
  · rw [wipe_in h, wipe_in h, hl]
  · rw [wipe_get h, b.2 j h]
/-- what stands aside is changed -/
theorem Xt.aside {p : Addr} {o : HO} {H0 F0 : Hp} {as0 : List Addr} (x : Xt H0 F0 as0 H F as) (h0 : H0 p = none) : Xt H0 F0 as0 (upd H p o) F as := ⟨x.pre, x.ex, fun a u h1 h2 => ⟨(x.st a u h1 h2).1, by
  rw [upd_ne (ne_of_none h2 h0)]
  exact (x.st a u h1 h2).2⟩, x.gr⟩
/-- aside it stays -/
theorem Xt.off {p : Addr} {o : HO} {H' F' : Hp} {as' : List Addr} (x : Xt H F as H' F' as') (h : H p = some o) (ha : p ∉ as) (hF : F p = none) : H' p = some o ∧ p ∉ as' ∧ F' p = none := by
  obtain ⟨h1, h2⟩ := x.st p o ha h
  refine ⟨h2, h1, ?_⟩
  cases e : F' p with
  | none => rfl
  | some u =>
    rcases x.gr p u e with z | z | z
    · rw [hF] at z; cases z
    · rw [h] at z; cases z
    · exact absurd z ha
end
section
variable {X : Cx} {Y : Yt} {E : XK} {elt tg iter : Expr} {ifs : List Expr} {scope : Scope} {own : List (Str × Nat)} {pos : Pos} {mi : MI} {g : MG} {mt : MT} {me : M}
theorem its_nil {X : Cx} : PTs X [] (iT Y E mYes) := ⟨fun pins s σ H Q I ⟨F, as, ρ, S, t, q⟩ => pts_nil.run pins s σ H Q I (q.now t.st rfl)⟩
theorem its_one {X : Cx} {c : Expr} {t : MT} (h : PT X c (iT Y E t)) : PTs X [c] (iT Y E t) := pts_one h
theorem AfterL_ok {α β : Type} {rl : Rl α β} {as : List Addr} {F H : Hp} {r : Res α} {k : α → Sto → Res D} {Q : VK} (q : After Y E (Rp Y) as F H (r.thn k) Q) : ∃ a S1, r = .ok a S1 ∧ After Y E (Rp Y) as F H (k a S1) Q := by
  cases r with
  | ok a S1 => exact ⟨a, S1, rfl, q⟩
  | stuck => exact q.elim
  | err x S1 => exact q.elim
/-- the loop: what is wanted of the whole -/
theorem lc_core' (vs : List Nat) {σ : L2.St} {H1 F1 : Hp} {as1 : List Addr} {ρ : Rho} {S1 : Sto} {c : Src} {J : It} {Q : VK} {k : List D → Sto → Res D} (t : At Y σ H1 F1 as1 ρ S1) (iw : IW Y as1 F1 H1 c J)
    (q : After Y E (Rp Y) as1 F1 H1 ((lcL c.ok g mt me (wipeR ρ vs) c.items [] S1).thn k) Q)
    (fin : ∀ (p : Addr) (ws : List V) (ds : List D) (S2 : Sto) (F2 H2 : Hp) (as2 : List Addr), H1 p = none → Xt H1 F1 as1 H2 F2 as2 → StR Y H2 F2 as2 S2 → H2 p = some (.lst ws) → p ∉ as2 → F2 p = none → Rps Y as2 F2 ds ws → After Y E (Rp Y) as1 F1 H1 (k ds S2) Q → Q (.ref p) H2) :
    ∀ D, H1 D = none → ∃ W : Nat → Nat → Hp → Prop, (∃ m, W 0 m (upd H1 D (.lst []))) ∧ ∀ i m H, W i m H →
      (J.stop i H ∧ Q (.ref D) H) ∨ (J.go i H ∧ ∃ Nx : Hp → Prop, (∀ H', Nx H' → ∃ m', m' < m ∧ W (i + 1) m' H') ∧ ∀ x H', J.yld i H x H' → iG Y vs g x (L2.wipe σ vs) H' fun σ2 H2 => L2.wipe σ2 vs = L2.wipe σ vs ∧ iT Y E0 mt σ2 H2 fun b H3 =>
        if b = true then iE Y E0 me σ2 H3 fun y H4 => ∃ acc, H4 D = some (.lst acc) ∧ acc.length < sizeLine ∧ Nx (upd H4 D (.lst (acc ++ [y]))) else Nx H3) := by
  intro D hD
  obtain ⟨G, Yr, w, hG, hY⟩ := iw
  have hDa : D ∉ as1 := t.st.fresh hD
  have hDF : F1 D = none := t.st.freshF hD
  refine lc_it w (fun i H => ∃ F as S acc ws, Xt H1 F1 as1 H F as ∧ StR Y H F as S ∧ H D = some (.lst ws) ∧ D ∉ as ∧ F D = none ∧ Rps Y as F acc ws ∧ After Y E (Rp Y) as1 F1 H1 ((lcL c.ok g mt me (wipeR ρ vs) (c.items.drop i) acc S).thn k) Q) ?_ ?_ ?_ ?_
  · refine ⟨F1, as1, S1, [], [], Xt.side t.st hD, t.st.side hDa hDF, upd_same, hDa, hDF, .nil, ?_⟩
    rw [List.drop_zero]
    exact q
  · rintro i H hi ⟨F, as, S, acc, ws, x, s, h1, h2, h3, r, q⟩
    refine hG as F H S x s ?_
    cases hd : c.items.drop i with
    | nil =>
      rw [hd] at q
      unfold lcL at q
      split at q
      · assumption
      · exact q.elim
    | cons d ds =>
      rw [hd] at q
      unfold lcL at q
      split at q
      · rename_i h; exact h.1
      · exact q.elim
  · rintro i xv H H' hi ⟨F, as, S, acc, ws, x, s, h1, h2, h3, r, q⟩ y
    have hd : c.items.drop i = c.items[i] :: c.items.drop (i + 1) := (List.drop_eq_getElem_cons hi)
    rw [hd] at q
    unfold lcL at q
    split at q <;> first | exact q.elim | skip
    rename_i hok
    obtain ⟨F2, x2, s2, r2⟩ := hY i c.items[i] as F H S xv H' (List.getElem?_eq_getElem hi) x s y
    obtain ⟨g1, g2, g3⟩ := x2.off h1 h2 h3
    cases hgd : g c.items[i] (wipeR ρ vs) S with
    | none => rw [hgd] at q; exact q.elim
    | some z =>
      obtain ⟨ρ1, S3⟩ := z
      rw [hgd] at q
      have q : After Y E (Rp Y) as1 F1 H1 (((mt ρ1 S3).thn fun b S2 => if b = true then (me ρ1 S2).thn fun y S3 => lcL c.ok g mt me (wipeR ρ vs) (c.items.drop (i + 1)) (acc ++ [y]) S3 else lcL c.ok g mt me (wipeR ρ vs) (c.items.drop (i + 1)) acc S2).thn k) Q := q
      have fr : FrR Y as F2 (wipeR ρ vs) (L2.wipe σ vs) := (t.fr.mo (x.trans x2)).wipe vs
      refine ⟨F2, as, wipeR ρ vs, S, c.items[i], ρ1, S3, ⟨s2, fr⟩, r2, hgd, fun as3 F3 H3 σ3 x3 s3 f3 b3 => ⟨wipe_but b3, F3, as3, ρ1, S3, ⟨s3, f3⟩, ?_⟩⟩
      cases hmt : mt ρ1 S3 with
      | stuck => rw [hmt] at q; exact q.elim
      | err e S4 => rw [hmt] at q; exact q.elim
      | ok b S4 =>
        rw [hmt] at q
        intro as4 F4 H4 b' x4 s4 eb
        have eb : b = b' := eb
        subst eb
        have x04 := x2.trans (x3.trans x4)
        obtain ⟨k1, k2, k3⟩ := x04.off h1 h2 h3
        cases b with
        | false => exact ⟨F4, as4, S4, acc, ws, x.trans x04, s4, k1, k2, k3, r.mo x04.pre x04.ex, q⟩
        | true =>
          have q : After Y E (Rp Y) as1 F1 H1 (((me ρ1 S4).thn fun y S3 => lcL c.ok g mt me (wipeR ρ vs) (c.items.drop (i + 1)) (acc ++ [y]) S3).thn k) Q := q
          show iE Y E0 me σ3 H4 _
          refine ⟨F4, as4, ρ1, S4, ⟨s4, f3.mo x4⟩, ?_⟩
          cases hme : me ρ1 S4 with
          | stuck => rw [hme] at q; exact q.elim
          | err e S5 => rw [hme] at q; exact q.elim
          | ok y S5 =>
            rw [hme] at q
            intro as5 F5 H5 v x5 s5 ry
            have x05 := x04.trans x5
            obtain ⟨l1, l2, l3⟩ := x05.off h1 h2 h3
            have rr := r.mo x05.pre x05.ex
            refine ⟨ws, l1, ?_, F5, as5, S5, acc ++ [y], ws ++ [v], (x.trans x05).aside hD, s5.side l2 l3, upd_same, l2, l3, rr.app (.cons ry .nil), q⟩
            rw [← rr.length]
            exact Nat.lt_of_lt_of_le hok.2 (big (Nat.le_refl _))
  · rintro H ⟨F, as, S, acc, ws, x, s, h1, h2, h3, r, q⟩
    rw [List.drop_length] at q
    unfold lcL at q
    split at q <;> first | exact q.elim | skip
    exact fin D ws acc S F H as hD x s h1 h2 h3 r q
theorem fin_lst {H1 F1 : Hp} {as1 : List Addr} {Q : VK} {S1 : Sto} (s1 : StR Y H1 F1 as1 S1) : ∀ (p : Addr) (ws : List V) (ds : List D) (S2 : Sto) (F2 H2 : Hp) (as2 : List Addr), H1 p = none → Xt H1 F1 as1 H2 F2 as2 → StR Y H2 F2 as2 S2 → H2 p = some (.lst ws) → p ∉ as2 → F2 p = none → Rps Y as2 F2 ds ws → After Y E (Rp Y) as1 F1 H1 (.ok (.lst ds) S2) Q → Q (.ref p) H2 := by
  intro p ws ds S2 F2 H2 as2 hp x s h1 h2 h3 r q
  have x' := x.take (o := .lst ws) h3 hp
  refine q as2 _ H2 _ x' (s.take h1 h2 h3) (.lst upd_same (r.mo (fun _ _ z => z) fun a o e => ?_))
  rw [upd_ne (ne_of_none e h3)]
  exact e
/-- what stands aside becomes a cell -/
theorem StR.adopt {H F : Hp} {as : List Addr} {S : Sto} {p : Addr} {d : D} (s : StR Y H F as S) (hp : p ∉ as) (hF : F p = none) (q : ObAt Y (as ++ [p]) F H p d) : StR Y H F (as ++ [p]) (S ++ [d]) := by
  refine ⟨fun a u e => ?_, by simp [s.len], ?_, fun n a e h1 h2 => ?_⟩
  · obtain ⟨h1, h2⟩ := s.sub a u e
    refine ⟨fun z => ?_, h2⟩
    rcases List.mem_append.mp z with z | z
    · exact h1 z
    · have := List.mem_singleton.mp z
      subst this
      rw [hF] at e
      cases e
  · rw [List.nodup_append]
    refine ⟨s.nd, by simp, fun a ha b hb z => ?_⟩
    rw [List.mem_singleton] at hb
    subst hb
    subst z
    exact hp ha
  · by_cases hn : n < as.length
    · rw [List.getElem?_append_left hn] at h1
      rw [List.getElem?_append_left (by rw [← s.len]; exact hn)] at h2
      exact ob_mo (fun m b z => by rw [List.getElem?_append_left (List.getElem?_eq_some_iff.mp z).1]; exact z) (fun _ _ z => z) rfl (s.ob n a e h1 h2)
    · have hl : n = as.length := by
        have := (List.getElem?_eq_some_iff.mp h1).1
        simp at this
        omega
      subst hl
      rw [List.getElem?_append_right (Nat.le_refl _)] at h1
      rw [s.len, List.getElem?_append_right (Nat.le_refl _)] at h2
      simp at h1 h2
      subst h1
      subst h2
      exact q
theorem fin_cell {H1 F1 : Hp} {as1 : List Addr} {Q : VK} {S1 : Sto} (s1 : StR Y H1 F1 as1 S1) : ∀ (p : Addr) (ws : List V) (ds : List D) (S2 : Sto) (F2 H2 : Hp) (as2 : List Addr), H1 p = none → Xt H1 F1 as1 H2 F2 as2 → StR Y H2 F2 as2 S2 → H2 p = some (.lst ws) → p ∉ as2 → F2 p = none → Rps Y as2 F2 ds ws → After Y E (Rp Y) as1 F1 H1 (.ok (.loc S2.length) (S2 ++ [.lst ds])) Q → Q (.ref p) H2 := by
  intro p ws ds S2 F2 H2 as2 hp x s h1 h2 h3 r q
  have pre : ∀ (n : Nat) (a : Addr), as2[n]? = some a → (as2 ++ [p])[n]? = some a := fun m b z => by
    rw [List.getElem?_append_left (List.getElem?_eq_some_iff.mp z).1]; exact z
  have x' : Xt H1 F1 as1 H2 F2 (as2 ++ [p]) := ⟨fun n a z => pre n a (x.pre n a z), x.ex, fun a u g1 g2 => ⟨fun z => by
    rcases List.mem_append.mp z with z | z
    · exact (x.st a u g1 g2).1 z
    · exact ne_of_none g2 hp (List.mem_singleton.mp z), (x.st a u g1 g2).2⟩, x.gr⟩
  have e : (as2 ++ [p])[S2.length]? = some p := by rw [← s.len]; simp
  exact q _ F2 H2 _ x' (s.adopt h2 h3 ⟨ws, h1, r.mo pre fun _ _ z => z⟩) (.loc e)
theorem i_lc (o : On X Y) (hN : X.N.Nodup) (hi : PI X tg iter (iI Y E mi)) (ok : BlkOk X.N X.env.scope scope own)
    (hg : ∀ (s : Shared) (H : Hp) (C : Addr) (cl : List (Str × Addr)) (fp : List Addr), PG (X.blk s H scope (compEnvC scope cl C X.env) fp) tg (iG Y (own.map (·.2)) g)) (ht : ∀ (s : Shared) (H : Hp) (C : Addr) (cl : List (Str × Addr)) (fp : List Addr), PTs (X.blk s H scope (compEnvC scope cl C X.env) fp) ifs (iT Y E0 mt))
    (he : ∀ (s : Shared) (H : Hp) (C : Addr) (cl : List (Str × Addr)) (fp : List Addr), PE (X.blk s H scope (compEnvC scope cl C X.env) fp) elt (iE Y E0 me)) (hs : ∀ x, foldedSetIterable iter X.env x = pure x := by intro _; rfl) :
    PE X (.ListComp elt [⟨tg, iter, ifs, 0⟩] scope pos) (iE Y E (mLc mi g mt me (own.map (·.2)))) := PE_imp (pe_lc o.calm hN hi ok hg ht he hs) fun σ H Q ⟨F, as, ρ, S, t, q⟩ => by
  refine ⟨F, as, ρ, S, t, ?_⟩
  unfold mLc at q
  cases hm : mi ρ S with
  | stuck => rw [hm] at q; exact q.elim
  | err x S1 => rw [hm] at q; exact q
  | ok c S1 =>
    rw [hm] at q
    intro as1 F1 H1 J x1 s1 iw
    exact lc_core' (own.map (·.2)) (t.mo x1 s1) iw (After.weak x1 q) (fin_lst s1)
theorem i_lcC (o : On X Y) (hN : X.N.Nodup) (hi : PI X tg iter (iI Y E mi)) (ok : BlkOk X.N X.env.scope scope own)
    (hg : ∀ (s : Shared) (H : Hp) (C : Addr) (cl : List (Str × Addr)) (fp : List Addr), PG (X.blk s H scope (compEnvC scope cl C X.env) fp) tg (iG Y (own.map (·.2)) g)) (ht : ∀ (s : Shared) (H : Hp) (C : Addr) (cl : List (Str × Addr)) (fp : List Addr), PTs (X.blk s H scope (compEnvC scope cl C X.env) fp) ifs (iT Y E0 mt))
    (he : ∀ (s : Shared) (H : Hp) (C : Addr) (cl : List (Str × Addr)) (fp : List Addr), PE (X.blk s H scope (compEnvC scope cl C X.env) fp) elt (iE Y E0 me)) (hs : ∀ x, foldedSetIterable iter X.env x = pure x := by intro _; rfl) :
    PE X (.ListComp elt [⟨tg, iter, ifs, 0⟩] scope pos) (iE Y E (mLcC mi g mt me (own.map (·.2)))) := PE_imp (pe_lc o.calm hN hi ok hg ht he hs) fun σ H Q ⟨F, as, ρ, S, t, q⟩ => by
  refine ⟨F, as, ρ, S, t, ?_⟩
  unfold mLcC at q
  cases hm : mi ρ S with
  | stuck => rw [hm] at q; exact q.elim
  | err x S1 => rw [hm] at q; exact q
  | ok c S1 =>
    rw [hm] at q
    intro as1 F1 H1 J x1 s1 iw
    exact lc_core' (own.map (·.2)) (t.mo x1 s1) iw (After.weak x1 q) (fin_cell s1)
end
end Rf

set_option Elab.async false
set_option linter.all false
set_option maxRecDepth 100000
/-! R9: contracts of defs by data, told where nothing is being shown (no repr runs around); calls; the end. -/
namespace Rf
open PySem L2 PyProof.Rows

/-- as FnOk, told only where no repr runs around, and nothing is raised -/
structure FnG (P : Program) (w : World) (K : PySem.W.Frag) (mg : Str → Option Value) (base : Heap) (k : Nat) (f : Addr) (fd : FuncData) (ps : List Str) (sp : Sp) : Prop where
  len : ∀ vs H Q E, sp vs H Q E → vs.length = ps.length
  run : ∀ (A : Around) (outer : List Env) (s : Shared) (H : Hp) (args : Args) (us : List Value) (vs : List V) (Q : VK), Room k A → A.guards = some [] → Env0 P w K mg base A outer s H → BindsTo s fd args (ps.zip us) → Vals vs us → sp vs H Q E0 →
    codeAny (model P w) A (.call (.ref f) args) (CR CX0 outer P w H s Q E0) s
theorem FnG.mono {P : Program} {w : World} {K : PySem.W.Frag} {mg : Str → Option Value} {base : Heap} {j k : Nat} {f : Addr} {fd : FuncData} {ps : List Str} {sp : Sp} (F : FnG P w K mg base j f fd ps sp) (h : j ≤ k) : FnG P w K mg base k f fd ps sp :=
  ⟨F.len, fun A outer s H args us vs Q hr => F.run A outer s H args us vs Q (hr.mono h)⟩
/-- the promise of a def by data: n arguments -/
def spM (Y : Yt) (n : Nat) (M : FA) : Sp := fun vs H Q _ => ∃ F as S ds, StR Y H F as S ∧ Rps Y as F ds vs ∧ ds.length = n ∧ After Y E0 (Rp Y) as F H (M ds S) Q
theorem spM_len {Y : Yt} {n : Nat} {M : FA} {vs : List V} {H : Hp} {Q : VK} {E : XK} (h : spM Y n M vs H Q E) : vs.length = n := by
  obtain ⟨F, as, S, ds, st, r, e, q⟩ := h
  rw [← r.length]
  exact e
/-- what a body does with its arguments -/
def runB (N : Nat) (b : MS) : FA := fun ds S => match b (ds.map some ++ List.replicate (N - ds.length) none) S with
  | .nx _ S1 => .ok .non S1
  | .rt d S1 => .ok d S1
  | .err x S1 => .err x S1
  | _ => .stuck
section
variable {Y : Yt} {as : List Addr} {F H : Hp}
theorem FrR.start {ds : List D} {vs : List V} {N : List Str} (r : Rps Y as F ds vs) : FrR Y as F (ds.map some ++ List.replicate (N.length - ds.length) none) (start N vs) := by
  unfold L2.start
  refine ⟨by simp [r.length], fun i d h => ?_⟩
  by_cases hi : i < ds.length
  · rw [List.getElem?_append_left (by simpa using hi), List.getElem?_map] at h
    obtain ⟨e, e1, e2⟩ := map_some h
    cases e2
    obtain ⟨v, e3, rv⟩ := r.get e1
    refine ⟨v, ?_, rv⟩
    rw [List.getElem?_append_left (by rw [List.length_map, ← r.length]; exact hi), List.getElem?_map, e3]
    rfl
  · rw [List.getElem?_append_right (by simpa using hi)] at h
    rw [List.getElem?_replicate] at h
    split at h <;> cases h
end
section
variable {P : Program} {w : World} {K : PySem.W.Frag} {mg : Str → Option Value} {base : Heap} {Y : Yt}
/-- the context of a def's body -/
abbrev cxG (P : Program) (w : World) (K : PySem.W.Frag) (mg : Str → Option Value) (base : Heap) (N : List Str) (qual : Str) (st : Stmt) (f : Addr) (cdv : Value) (A : Around) (outer : List Env) (s : Shared) (H : Hp) : Cx :=
  (cxOf CX0 P w K mg base N qual (defScope st) f cdv A outer s H E0).nox
theorem on_cxG {k : Nat} {N : List Str} {qual : Str} {st : Stmt} {f : Addr} {cdv : Value} {A : Around} {outer : List Env} {s : Shared} {H : Hp} (hK : K = Y.K) (hw : w = Y.w) (sm : SysD base)
    (hr : Room k (A.deeper (envOfC qual (defScope st) s.heap.objs.size f cdv))) (g : A.guards = some []) : On (cxG P w K mg base N qual st f cdv A outer s H) Y :=
  ⟨hK, hw, by have := hr.un; show (A.deeper (envOfC qual (defScope st) s.heap.objs.size f cdv)).units + 200 < cLine; omega, hr.hd, rfl, g, sm⟩
theorem fnG_of {name qual : Str} {st : Stmt} {f : Addr} {fd : FuncData} {N ps : List Str} {k n : Nat} {b : MS} (Fu : Fun K name qual st f fd) (Sc : FnScope N ps (defScope st)) (hn : ps.length = n) (hK : K = Y.K) (hw : w = Y.w) (sm : SysD base)
    (body : ∀ (cdv : Value) (A : Around) (outer : List Env) (s : Shared) (H : Hp), Room k (A.deeper (envOfC qual (defScope st) s.heap.objs.size f cdv)) → On (cxG P w K mg base N qual st f cdv A outer s H) Y →
      PSs (cxG P w K mg base N qual st f cdv A outer s H) (defBody st) (iS Y E0 b)) : FnG P w K mg base (k + 1) f fd ps (spM Y n (runB N.length b)) := by
  obtain ⟨oc, od, kV, doc, pm, an, cdv, ct, osl, rfl, lk, hcd⟩ := Fu.ex
  refine ⟨fun vs H Q E h => by rw [spM_len h, hn], fun A outer s H args us vs Q hr g e0 hb r ⟨F, as, S, ds, st0, rd, hl, q⟩ => ?_⟩
  have KX : K.In s.heap := e0.mod.kin.keeps fun c o e => (e0.bs c o e).1
  have lim : s.heap.NoLimit := e0.mod.nolimit.keeps fun c o e => (e0.bs c o e).1
  have loc : ∀ y ∈ ps.zip us, (defScope st).names.lookup y.1 = some .local ∨ ((defScope st).names.lookup y.1 = some .cell ∧ ((cellsFrom (s.heap.objs.size + 1) (defScope st).names []).lookup y.1).isSome = true) := fun y hy => by
    rcases Sc.par y.1 (List.of_mem_zip (a := y.1) (b := y.2) hy).1 with z | z
    · exact .inl z
    · exact .inr ⟨z, PySem.W.cellsFrom_some _ _ _ (.inl z)⟩
  refine codeAny_call_function hr.depth (KX _ _ lk) rfl Sc.co Sc.gen rfl (PySem.W.codeRec_of KX hcd) (hb _ _ _ _ (wpAny_newFunctionEnv_cells Sc.kind loc fun env he s1 x => ?_))
  subst he
  refine ⟨lim.keeps x.toInCall.keep, codeAny_func ?_⟩
  have vl : vs.length = ps.length := by rw [← rd.length, hl, hn]
  have I0 : L2.Inv (cxOf CX0 P w K mg base N qual (defScope st) f cdv A outer s H E0) [] (start N vs) H s1 := inv_start Sc hr.hd e0 vl r x
  have B := (body cdv A outer s H (hr.deeper _) (on_cxG hK hw sm (hr.deeper _) g)).nox
  have frame := FrR.start (N := N) rd
  refine wpAny_mono (B.run [] s1 (start N vs) H { nx := fun _ H' => Q .non H', rt := Q } I0 ⟨F, as, _, S, ⟨st0, frame⟩, ?_⟩) (fun fl s' hs => ?_) fun e s' hs => hs
  · unfold runB at q
    cases hbb : b (ds.map some ++ List.replicate (N.length - ds.length) none) S with
    | nx ρ S1 => rw [hbb] at q; exact fun as' F' H' σ' x s f => q as' F' H' .non x s .non
    | rt d S1 => rw [hbb] at q; exact q
    | err y S1 => rw [hbb] at q; exact q
    | bk ρ S1 => rw [hbb] at q; exact q.elim
    | ct ρ S1 => rw [hbb] at q; exact q.elim
    | stuck => rw [hbb] at q; exact q.elim
  · cases fl with
    | ret u =>
      obtain ⟨v, σ', H', J, rv, z⟩ := hs
      exact ⟨v, H', J.os, J.bare, J.base, J.hok, rv, z⟩
    | next =>
      obtain ⟨σ', H', J, z⟩ := hs
      exact ⟨.non, H', J.os, J.bare, J.base, J.hok, rfl, z⟩
    | brk =>
      obtain ⟨_, _, _, z⟩ := hs
      exact z.elim
    | cont =>
      obtain ⟨_, _, _, z⟩ := hs
      exact z.elim
end

/-! ### calls -/
section
variable {X : Cx} {Y : Yt} {k : Nat} {f : Addr} {fd : FuncData} {ps : List Str} {sp : Sp} {x : Str} {e : Expr} {es : List Expr} {p pos : Pos} {n : Nat} {Mf : FA} {mr : Rho → Sto → Res (List D)}
theorem run_fnG {pins : List (Addr × Obj)} {σ : L2.St} {H : Hp} {s : Shared} {Q : VK} {us : List Value} {vs : List V} (F : FnG X.prog X.w X.K X.mg X.base k f fd ps sp) (hr : Room k X.A) (g : X.A.guards = some []) (hb : Binds X.K fd ps [])
    (I : L2.Inv X pins σ H s) (r : Vals vs us) (h : sp vs H Q E0) : wpAny (model X.prog X.w) X.A (call (.ref f) us) (EP X pins σ Q) X.xe s := by
  have hl : us.length = ps.length := by rw [← r.length]; exact F.len _ _ _ _ h
  have hb' := hb s us I.kIn (by rw [List.append_nil]; exact hl)
  rw [List.append_nil] at hb'
  refine wpAny_call (codeAny_mono (F.run X.A X.stack s H ⟨us, []⟩ us vs Q hr g I.env0 hb' r h) fun y s' hq => ?_)
  cases y with
  | error _ => exact False.elim hq
  | ok fl => cases fl with
    | ret u => exact I.after hq
    | _ => exact False.elim hq
/-- a def of the module, by its name -/
structure DefG (P : Program) (w : World) (K : PySem.W.Frag) (mg : Str → Option Value) (base : Heap) (Y : Yt) (k : Nat) (x : Str) (n : Nat) (Mf : FA) : Prop where
  ex : ∃ f fd ps, mg x = some (.ref f) ∧ PySem.W.keepIn K (.ref f) = true ∧ FnG P w K mg base k f fd ps (spM Y n Mf) ∧ Binds K fd ps []
theorem i_call (G : DefG X.prog X.w X.K X.mg X.base Y k x n Mf) (hr : Room k X.A) (o : On X Y) (hg : Gl X x) (ha : PA X (e :: es) (iA Y E0 mr)) (hn : (e :: es).length = n) (hlen : ∀ ρ S ds S1, mr ρ S = .ok ds S1 → ds.length = n)
    (hdb : (x == ("__debug__" : Str)) = false := by decide) (he : starEach (e :: es) X.env = (false, eval e X.env) :: starEach es X.env := by rfl) (hpl : (backTo pos (starEach es X.env)).any (·.1) = false := by rfl) :
    PE X (.Call (.Name x p) (e :: es) [] pos) (iE Y E0 (mA Mf mr)) := by
  obtain ⟨f, fd, ps, hm, hk, F, hb⟩ := G.ex
  refine ⟨fun pins s σ H Q I ⟨Fh, as, ρ, S, t, q⟩ => ?_⟩
  have q' : After Y E0 (Rps Y) as Fh H (mr ρ S) fun vs H1 => spM Y n Mf vs H1 Q E0 := by
    unfold mA at q
    cases hmr : mr ρ S with
    | stuck => rw [hmr] at q; exact q.elim
    | err y S1 => rw [hmr] at q; exact q
    | ok ds S1 =>
      rw [hmr] at q
      intro as' F' H' vs x s r
      exact ⟨F', as', S1, ds, s, r, hlen ρ S ds S1 hmr, After.weak x q⟩
  refine wpAny_Call_Name_kw (ld_glob I hg hm ?_ hdb)
  exact PySem.W.callWith_K (h₀ := X.base) I.ok.mod.kin hk (thn (ha.run pos pins s σ H _ I ⟨Fh, as, ρ, S, t, q'⟩) fun us s1 ⟨vs, H1, I1, r, z⟩ => ⟨I1.kIn, run_fnG F hr o.gd hb I1 r z⟩) he hpl
theorem len_nil : ∀ ρ S ds S1, mNil ρ S = .ok ds S1 → ds.length = 0 := fun ρ S ds S1 h => by cases h; rfl
theorem len_cons {m : M} {r : Rho → Sto → Res (List D)} {n : Nat} (h : ∀ ρ S ds S1, r ρ S = .ok ds S1 → ds.length = n) : ∀ ρ S ds S1, mCons m r ρ S = .ok ds S1 → ds.length = n + 1 := fun ρ S ds S1 e => by
  unfold mCons at e
  cases h1 : m ρ S with
  | stuck => rw [h1] at e; cases e
  | err y S2 => rw [h1] at e; cases e
  | ok d S2 =>
    rw [h1] at e
    have e : ((r ρ S2).bnd fun ds S2 => .ok (d :: ds) S2 : Res (List D)) = .ok ds S1 := e
    cases h2 : r ρ S2 with
    | stuck => rw [h2] at e; cases e
    | err y S3 => rw [h2] at e; cases e
    | ok es S3 =>
      rw [h2] at e
      cases e
      rw [List.length_cons, h _ _ _ _ h2]
end
end Rf

set_option Elab.async false
set_option linter.all false
set_option maxRecDepth 100000
/-! R10: repr, sets of ints, some methods, more statements, by data. -/
namespace Rf
open PySem L2 PyProof.Rows

/-! ### repr -/
def rpP (S : Sto) (d : D) : Option PyData := match toP S deep d with
  | some p => if (p.showable && decide (p.depth ≤ 100) && few p.shown.length) = true then some p else none
  | none => none
def bRepr : FA := fun xs S => match xs with
  | [x] => match rpP S x with
    | some p => .ok (.str p.shown) S
    | none => .stuck
  | _ => .stuck
section
variable {X : Cx} {Y : Yt} {E : XK} {as : List Addr} {S : Sto} {H F : Hp} {pins : List (Addr × Obj)} {s : Shared} {σ : L2.St}
/-- the place of sys.modules is not tracked -/
theorem no_mods (o : On X Y) (I : L2.Inv X pins σ H s) : H sysModules = none := by
  obtain ⟨mm, ob, es, ep, h, _⟩ := o.sm
  exact (I.bs sysModules ob h).2
theorem ne_mods (o : On X Y) (I : L2.Inv X pins σ H s) {a : Addr} {u : HO} (h : H a = some u) : a ≠ sysModules := fun e => by
  rw [e, no_mods o I] at h
  cases h
theorem dict0_at (o : On X Y) (I : L2.Inv X pins σ H s) {a : Addr} (h : H a = some (.dK [])) : ∃ as, Reads s.heap (.ref a) (.dict []) as ∧ sysModules ∉ as := by
  obtain ⟨_, _, vs, kv, ob, es, ep, h1, h2, h3, h4, h5, _⟩ := (show ObjOk X.prog X.w H s.heap a (.dK []) from I.hok a _ h)
  cases kv
  have e0 : es.toList = [] := by
    generalize es.toList = l at h5
    cases h5
    rfl
  refine ⟨a :: ([] ++ []), Reads.dict (kvs := []) h1 h2.1 h3 (by rw [e0]; exact .nil) (by rw [e0]; exact .nil), ?_⟩
  simpa using (ne_mods o I h).symm
mutual
theorem toP_reads (o : On X Y) (I : L2.Inv X pins σ H s) (st : StR Y H F as S) : ∀ (n : Nat) (d : D) (v : V) (u : Value) (p : PyData), Rp Y as F d v → RelV v u → toP S n d = some p → ∃ bs, Reads s.heap u p bs ∧ sysModules ∉ bs
  | 0, _, _, _, _, _, _, e => by rw [toP] at e; cases e
  | n + 1, _, _, _, _, .non, r, e => by rw [toP] at e; cases e; cases r; exact ⟨_, .none, by simp⟩
  | n + 1, _, _, _, _, .bl b, r, e => by rw [toP] at e; cases e; cases r; exact ⟨_, .bool b, by simp⟩
  | n + 1, _, _, _, _, .int i, r, e => by rw [toP] at e; cases e; obtain ⟨t, rfl⟩ := r; exact ⟨_, .int i t, by simp⟩
  | n + 1, _, _, _, _, .str x, r, e => by rw [toP] at e; cases e; obtain ⟨t, rfl⟩ := r; exact ⟨_, .str x t, by simp⟩
  | n + 1, _, _, _, _, .tup (a := a) (vs := vs) h rs, r, e => by
    rw [toP] at e
    obtain ⟨ps, e1, rfl⟩ := map_some e
    cases r
    have h' : SqT X.K H a vs := by rw [o.K]; exact seqT_up st h
    obtain ⟨its, rv, ⟨ob, g1, g2, m, g3⟩, _⟩ := I.tuple h'
    obtain ⟨bs, q1, q2⟩ := toPs_reads o I st n _ _ its _ rs rv e1
    exact ⟨bs, .tuple g1 g2 g3 q1, q2⟩
  | n + 1, _, _, _, _, .lst (a := a) h rs, r, e => by
    rw [toP] at e
    obtain ⟨ps, e1, rfl⟩ := map_some e
    cases r
    obtain ⟨_, its, m, rv, g⟩ := (show ObjOk X.prog X.w H s.heap a (.lst _) from I.hok a _ (lst_up st h))
    obtain ⟨bs, q1, q2⟩ := toPs_reads o I st n _ _ its _ rs rv e1
    exact ⟨a :: bs, .list g rfl rfl q1, by
      rw [List.mem_cons, not_or]
      exact ⟨(ne_mods o I (lst_up st h)).symm, q2⟩⟩
  | n + 1, _, _, _, _, .fro (a := a) (vs := vs) h rs, r, e => by
    rw [toP] at e
    obtain ⟨ps, e1, rfl⟩ := map_some e
    cases r
    have h' : SqL X.K H a vs := by rw [o.K]; exact seqL_up st h
    have ne : a ≠ sysModules := by
      rcases seqL_up st h with (h | ⟨ob, h⟩) | ⟨ob, its, m, hk, hc, _, hd0, _⟩
      · exact ne_mods o I h
      · exact ne_mods o I h
      · intro e2
        obtain ⟨mm, ob2, es, ep, h2, h3, _⟩ := o.sm
        rw [e2, ← o.K] at hk
        have h4 := I.ok.mod.kin _ _ hk
        rw [show X.base.get? sysModules = some ob2 from h2] at h4
        cases h4
        rw [h3] at hd0
        cases hd0
    obtain ⟨its, rv, ⟨ob, m, g1, g2, _, g3⟩, _⟩ := I.list h'
    obtain ⟨bs, q1, q2⟩ := toPs_reads o I st n _ _ its _ rs rv e1
    exact ⟨a :: bs, .list g1 g2 g3 q1, by
      rw [List.mem_cons, not_or]
      exact ⟨ne.symm, q2⟩⟩
  | n + 1, _, _, _, _, .dk (a := a) (ws := ws) (kvs := kvs) h k z rs, r, e => by
    rw [toP] at e
    split at e
    · rename_i h0
      cases e
      cases r
      have e0 : kvs = [] := List.isEmpty_iff.mp h0
      subst e0
      have e1 : ws = [] := by cases ws with
        | nil => rfl
        | cons _ _ => cases k
      subst e1
      exact dict0_at o I (lst_up st h)
    · cases e
  | n + 1, _, _, _, _, .dt h k z r, _, e => by rw [toP] at e; cases e
  | n + 1, _, _, _, _, .ins h k z r w, _, e => by rw [toP] at e; cases e
  | n + 1, _, _, _, _, .ty _, _, e => by rw [toP] at e; cases e
  | n + 1, _, _, _, _, .cl _, _, e => by rw [toP] at e; cases e
  | n + 1, _, _, _, _, .sti _ _, _, e => by rw [toP] at e; cases e
  | n + 1, _, _, _, _, .loc (n := k) (a := a) h, r, e => by
    rw [toP] at e
    cases r
    split at e
    · rename_i ds hS
      obtain ⟨ps, e1, rfl⟩ := map_some e
      obtain ⟨vs, e2, rs⟩ := st.ob k _ _ h hS
      obtain ⟨_, its, m, rv, g⟩ := (show ObjOk X.prog X.w H s.heap a (.lst _) from I.hok a _ e2)
      obtain ⟨bs, q1, q2⟩ := toPs_reads o I st n _ _ its _ rs rv e1
      exact ⟨a :: bs, .list g rfl rfl q1, by
        rw [List.mem_cons, not_or]
        exact ⟨(ne_mods o I e2).symm, q2⟩⟩
    · rename_i kvs hS
      split at e
      · rename_i h0
        cases e
        obtain ⟨ws, e2, e3, _⟩ := st.ob k _ _ h hS
        have e0 : kvs = [] := List.isEmpty_iff.mp h0
        subst e0
        have e1 : ws = [] := by cases ws with
          | nil => rfl
          | cons _ _ => cases e3
        subst e1
        exact dict0_at o I e2
      · cases e
    · cases e
theorem toPs_reads (o : On X Y) (I : L2.Inv X pins σ H s) (st : StR Y H F as S) : ∀ (n : Nat) (ds : List D) (vs : List V) (us : List Value) (ps : List PyData), Rps Y as F ds vs → Vals vs us → toPs S n ds = some ps → ∃ bs, ReadsAll s.heap us ps bs ∧ sysModules ∉ bs
  | 0, _, _, _, _, _, _, e => by rw [toPs] at e; cases e
  | n + 1, _, _, _, _, .nil, rv, e => by rw [toPs] at e; cases e; cases rv; exact ⟨_, .nil, by simp⟩
  | n + 1, _, _, _, _, .cons h r, rv, e => by
    rw [toPs] at e
    split at e
    · rename_i p hp
      split at e
      · rename_i ps hps
        cases e
        cases rv with
        | cons r1 r2 =>
          obtain ⟨bs, q1, q2⟩ := toP_reads o I st n _ _ _ _ h r1 hp
          obtain ⟨cs, q3, q4⟩ := toPs_reads o I st n _ _ _ _ r r2 hps
          exact ⟨_, .cons q1 q3, by
            rw [List.mem_append, not_or]
            exact ⟨q2, q4⟩⟩
      · cases e
    · cases e
end
theorem c_repr (o : On X Y) : CallR X (.builtin "repr") (rDA Y E bRepr) := by
  rintro pins s σ H xs us Q I rv ⟨F, as, S, ds, st, r, q⟩
  unfold bRepr at q
  split at q
  · rename_i x
    obtain ⟨v, rfl, h1⟩ := args1 r rfl
    split at q
    · rename_i p hp
      obtain ⟨u, rfl, ru⟩ := vals1 rv
      unfold rpP at hp
      split at hp
      · rename_i p' hp'
        split at hp
        · rename_i hc
          cases hp
          rw [Bool.and_eq_true, Bool.and_eq_true] at hc
          obtain ⟨⟨c1, c2⟩, c3⟩ := hc
          have c2 := of_decide_eq_true c2
          have q := q.now st (.str _)
          obtain ⟨bs, q1, q2⟩ := toP_reads o I st _ _ _ _ _ h1 ru hp'
          have hz := few_line c3
          have fin : ∀ h' t tk, (∀ b o, s.heap.get? b = some o → h'.get? b = some o) → EP X pins σ Q (.str p.shown t) { s with heap := h', toks := tk } := fun h' t tk hk => ⟨.str p.shown, H, I.kept hk, ⟨t, rfl⟩, q⟩
          cases q1 with
          | none => exact PySem.P.repr_of_none (fin s.heap _ _ fun _ _ z => z)
          | bool b => exact PySem.P.repr_of_bool (fin s.heap _ _ fun _ _ z => z)
          | int i t => exact PySem.P.repr_of_int (of_decide_eq_true (by simpa [PyData.showable] using c1)) (fin s.heap _ _ fun _ _ z => z)
          | str z t => exact PySem.P.repr_of_str (fin s.heap _ _ fun _ _ z => z) hz
          | list g1 g2 g3 g4 => exact repr_of_reads' (.list g1 g2 g3 g4) c1 (fun _ => q2) o.gd (by have := o.hu; omega) (fun _ _ z => z) (fun h' t tk hk => fin h' t tk hk) hz
          | tuple g1 g2 g3 g4 => exact repr_of_reads' (.tuple g1 g2 g3 g4) c1 (fun _ => q2) o.gd (by have := o.hu; omega) (fun _ _ z => z) (fun h' t tk hk => fin h' t tk hk) hz
          | dict g1 g2 g3 g4 g5 => exact repr_of_reads' (.dict g1 g2 g3 g4 g5) c1 (fun _ => q2) o.gd (by have := o.hu; omega) (fun _ _ z => z) (fun h' t tk hk => fin h' t tk hk) hz
        · cases hp
      · cases hp
    · exact q.elim
  · exact q.elim
end
end Rf

set_option Elab.async false
set_option linter.all false
set_option maxRecDepth 100000
/-! R11: stores, sets of ints, upper, name = [..], by data. -/
namespace Rf
open PySem L2 PyProof.Rows

/-! ### o[i] = e -/
def cellOf : Res D → Option (Nat × Sto)
  | .ok (.loc k) S => some (k, S)
  | _ => none
def intOf : Res D → Option (Int × Sto)
  | .ok (.int j) S => some (j, S)
  | _ => none
theorem cellOf_some {r : Res D} {p : Nat × Sto} (h : cellOf r = some p) : r = .ok (.loc p.1) p.2 := by
  cases r with
  | ok d S => cases d <;> first | (cases h; rfl) | cases h
  | _ => cases h
theorem intOf_some {r : Res D} {p : Int × Sto} (h : intOf r = some p) : r = .ok (.int p.1) p.2 := by
  cases r with
  | ok d S => cases d <;> first | (cases h; rfl) | cases h
  | _ => cases h
def gIx (mo mi : M) : MG := fun d ρ S => match cellOf (mo ρ S) with
  | some p => match intOf (mi ρ p.2) with
    | some q => match lstOf q.2[p.1]? with
      | some ds => match ixN ds.length q.1 with
        | some t => some (ρ, q.2.set p.1 (.lst (ds.set t d)))
        | none => none
      | none => none
    | none => none
  | none => none
section
variable {X : Cx} {Y : Yt} {E : XK} {pos : Pos} {a i : Expr} {mo mi : M} {vs : List Nat}
theorem ig_ix (ho : PE X a (iE Y E mo)) (hi : PE X i (iE Y E mi)) (ha : ∀ v, assign (.Subscript a i pos) X.env v = (do
      let ov ← holding [v] (eval a X.env)
      let iv ← holding [v, ov] (eval i X.env)
      standAt pos
      holding [v, ov, iv] (setItem ov iv v)
      release [v, ov, iv] []) := by intro _; rfl) : PG X (.Subscript a i pos) (iG Y vs (gIx mo mi)) := PG_imp (pg_sub ho hi set_list ha) fun v σ H Q ⟨F, as, ρ, S, d, ρ1, S1, t, r, e1, q⟩ => by
  unfold gIx at e1
  cases h1 : cellOf (mo ρ S) with
  | none => rw [h1] at e1; cases e1
  | some p =>
    rw [h1] at e1
    have e1 : (match intOf (mi ρ p.2) with
      | some q => match lstOf q.2[p.1]? with
        | some ds => match ixN ds.length q.1 with
          | some t => some (ρ, q.2.set p.1 (.lst (ds.set t d)))
          | none => none
        | none => none
      | none => none) = some (ρ1, S1) := e1
    cases h2 : intOf (mi ρ p.2) with
    | none => rw [h2] at e1; cases e1
    | some p2 =>
      rw [h2] at e1
      have e1 : (match lstOf p2.2[p.1]? with
        | some ds => match ixN ds.length p2.1 with
          | some t => some (ρ, p2.2.set p.1 (.lst (ds.set t d)))
          | none => none
        | none => none) = some (ρ1, S1) := e1
      cases h3 : lstOf p2.2[p.1]? with
      | none => rw [h3] at e1; cases e1
      | some ds =>
        rw [h3] at e1
        have e1 : (match ixN ds.length p2.1 with
          | some t => some (ρ, p2.2.set p.1 (.lst (ds.set t d)))
          | none => none) = some (ρ1, S1) := e1
        cases h4 : ixN ds.length p2.1 with
        | none => rw [h4] at e1; cases e1
        | some k =>
          rw [h4] at e1
          cases e1
          refine ⟨F, as, ρ, S, t, ?_⟩
          rw [cellOf_some h1]
          intro as1 F1 H1 o x1 s1 ro
          cases ro with
          | @loc n la hla =>
            refine ⟨F1, as1, ρ, p.2, t.mo x1 s1, ?_⟩
            rw [intOf_some h2]
            intro as2 F2 H2 iv x2 s2 ri
            cases ri
            obtain ⟨ws, g1, g2⟩ := s2.ob _ _ _ (x2.pre _ _ hla) (lstOf_some h3)
            rw [g2.length] at h4
            refine ⟨la, ws, _, k, rfl, rfl, g1, h4, ?_⟩
            have rr := g2.set ((r.mo x1.pre x1.ex).mo x2.pre x2.ex) k
            have hm : la ∈ as2 := List.mem_of_getElem? (x2.pre _ _ hla)
            have x3 := Xt.write (o := .lst (ws.set k v)) (H := H2) (F := F2) hm
            exact q as2 F2 _ σ ((x1.trans x2).trans x3) (s2.write (x2.pre _ _ hla) ⟨_, upd_same, rr⟩) ((t.fr.mo (x1.trans x2)).mo x3) But.refl

/-! ### name = [..] on one line -/
theorem is_setLc {elt tg iter : Expr} {ifs : List Expr} {scope : Scope} {own : List (Str × Nat)} {spos py : Pos} {j : Nat} {y : Str} {mi : MI} {g : MG} {mt : MT} {me : M} (o : On X Y) (hN : X.N.Nodup) (hy : X.N[j]? = some y) (hyl : X.env.scope.names.lookup y = some .local)
    (hsw : swapsWith (.ListComp elt [⟨tg, iter, ifs, 0⟩] scope pos) (some (.Name y py)) spos.line X.env = pure true) (hi : PI X tg iter (iI Y E mi)) (ok : BlkOk X.N X.env.scope scope own)
    (hg : ∀ (s : Shared) (H : Hp) (C : Addr) (cl : List (Str × Addr)) (fp : List Addr), PG (X.blk s H scope (compEnvC scope cl C X.env) fp) tg (iG Y (own.map (·.2)) g)) (ht : ∀ (s : Shared) (H : Hp) (C : Addr) (cl : List (Str × Addr)) (fp : List Addr), PTs (X.blk s H scope (compEnvC scope cl C X.env) fp) ifs (iT Y E0 mt))
    (he : ∀ (s : Shared) (H : Hp) (C : Addr) (cl : List (Str × Addr)) (fp : List Addr), PE (X.blk s H scope (compEnvC scope cl C X.env) fp) elt (iE Y E0 me)) (hs : ∀ x, foldedSetIterable iter X.env x = pure x := by intro _; rfl) :
    PS X (.Assign [.Name y py] (.ListComp elt [⟨tg, iter, ifs, 0⟩] scope pos) spos) (iS Y E (sAsg (mLc mi g mt me (own.map (·.2))) (gV j))) := PS_imp (ps_setLc o.calm hN hy hyl hsw hi ok hg ht he hs) fun Dn σ H ⟨F, as, ρ, S, t, q⟩ => by
  have q := After.out (rl := Rp Y) q
  refine ⟨F, as, ρ, S, t, ?_⟩
  unfold mLc at q
  cases hm : mi ρ S with
  | stuck => rw [hm] at q; exact q.elim
  | err x S1 => rw [hm] at q; exact q
  | ok c S1 =>
    rw [hm] at q
    intro as1 F1 H1 J x1 s1 iw
    refine lc_core' (E := E) (own.map (·.2)) (t.mo x1 s1) iw (Q := fun v H2 => Dn.nx (σ.set j (some v)) H2) ?_ (fin_lst s1)
    refine After.weak x1 (After.imp q fun v H2 ⟨d, S2, F2, as2, x2, s2, r2, q2⟩ => ?_)
    exact q2 as2 F2 H2 _ (Xt.refl _ _ _) s2 ((t.fr.mo x2).set r2)

/-! ### sets of ints, sorted -/
def intsOf : List D → Option (List Int)
  | [] => some []
  | .int i :: ds => (intsOf ds).map (i :: ·)
  | _ :: _ => none
theorem intsOf_at {as : List Addr} {F : Hp} : ∀ {ds : List D} {vs : List V} {ns : List Int}, Rps Y as F ds vs → intsOf ds = some ns → vs = ns.map V.int
  | [], _, _, .nil, e => by cases e; rfl
  | d :: ds, _, _, .cons h r, e => by
    cases h with
    | int i =>
      obtain ⟨cs, e1, rfl⟩ := map_some (show (intsOf ds).map (i :: ·) = some _ from e)
      rw [intsOf_at r e1]
      rfl
    | _ => cases e
def bSet : FA := fun xs S => match xs with
  | [.tup ds] => match intsOf ds with
    | some ns => if ns.length ≤ 60 then .ok (.sti ns) S else .stuck
    | none => .stuck
  | _ => .stuck
theorem ints_are : ∀ {ns : List Int} {us : List Value}, Vals (ns.map V.int) us → IntsAre us ns
  | [], _, .nil => .nil
  | n :: ns, _, .cons r1 r2 => by
    obtain ⟨t, rfl⟩ := r1
    exact .cons n t (ints_are r2)
theorem c_set (o : On X Y) : CallR X (.type "set") (rDA Y E bSet) := by
  rintro pins s σ H xs us Q I rv ⟨F, as, S, ds, st, r, q⟩
  unfold bSet at q
  split at q
  · obtain ⟨v, rfl, h1⟩ := args1 r rfl
    split at q
    · rename_i ns hn
      obtain ⟨hz, q⟩ := ite_stuck q
      cases h1 with
      | @tup a vs ds h r2 =>
        obtain ⟨u, rfl, ru⟩ := vals1 rv
        cases ru
        have h' : SqT X.K H a vs := by rw [o.K]; exact seqT_up st h
        obtain ⟨its, rv2, tp, _⟩ := I.tuple h'
        rw [intsOf_at r2 hn] at rv2
        refine call_set_tupI ns o.hd tp (by simpa using ints_are rv2) (by show ns.length + 1 < scanBound; unfold scanBound; omega) fun h' tk c R hc hk => ?_
        have hp := I.hok.fresh (Nat.le_refl s.heap.objs.size)
        have x := Xt.new (o := SetO X.w s.heap.objs.size (fun j => decide (j ∈ ns)) c) st hp
        refine ⟨.ref _, _, I.laid (t' := tk) hk (Nat.le_refl _) (setO_new R), rfl, ?_⟩
        refine q as _ _ _ x (st.new hp) (.sti (n := c) ?_ hc)
        rw [← o.w]
        exact upd_same
    · exact q.elim
  · exact q.elim
/-- sorted, each once -/
def insI (x : Int) : List Int → List Int
  | [] => [x]
  | y :: ys => if x < y then x :: y :: ys else if x = y then y :: ys else y :: insI x ys
def srtI : List Int → List Int
  | [] => []
  | x :: xs => insI x (srtI xs)
theorem mem_insI {x k : Int} : ∀ {ys : List Int}, k ∈ insI x ys ↔ k = x ∨ k ∈ ys
  | [] => by simp [insI]
  | y :: ys => by
    unfold insI
    split
    · simp
    · split
      · rename_i h; subst h; simp
      · rw [List.mem_cons, mem_insI, List.mem_cons]
        constructor
        · rintro (h | h | h)
          · exact .inr (.inl h)
          · exact .inl h
          · exact .inr (.inr h)
        · rintro (h | h | h)
          · exact .inr (.inl h)
          · exact .inl h
          · exact .inr (.inr h)
theorem mem_srtI {k : Int} : ∀ {xs : List Int}, k ∈ srtI xs ↔ k ∈ xs
  | [] => by simp [srtI]
  | x :: xs => by rw [srtI, mem_insI, mem_srtI, List.mem_cons]
theorem pw_insI {x : Int} : ∀ {ys : List Int}, ys.Pairwise (· < ·) → (insI x ys).Pairwise (· < ·)
  | [], _ => by simp [insI]
  | y :: ys, h => by
    obtain ⟨h1, h2⟩ := List.pairwise_cons.mp h
    unfold insI
    split
    · rename_i hx
      refine List.pairwise_cons.mpr ⟨fun z hz => ?_, h⟩
      rcases List.mem_cons.mp hz with rfl | hz
      · exact hx
      · exact Int.lt_trans hx (h1 z hz)
    · split
      · exact h
      · refine List.pairwise_cons.mpr ⟨fun z hz => ?_, pw_insI h2⟩
        rcases mem_insI.mp hz with rfl | hz
        · omega
        · exact h1 z hz
theorem pw_srtI : ∀ {xs : List Int}, (srtI xs).Pairwise (· < ·)
  | [] => .nil
  | _ :: _ => pw_insI pw_srtI
theorem pw_uniq : ∀ {xs ys : List Int}, xs.Pairwise (· < ·) → ys.Pairwise (· < ·) → (∀ k, k ∈ xs ↔ k ∈ ys) → xs = ys
  | [], [], _, _, _ => rfl
  | [], y :: ys, _, _, h => absurd ((h y).mpr (List.mem_cons_self ..)) (by simp)
  | x :: xs, [], _, _, h => absurd ((h x).mp (List.mem_cons_self ..)) (by simp)
  | x :: xs, y :: ys, h1, h2, h => by
    obtain ⟨a1, a2⟩ := List.pairwise_cons.mp h1
    obtain ⟨b1, b2⟩ := List.pairwise_cons.mp h2
    have e : x = y := by
      rcases List.mem_cons.mp ((h x).mp (List.mem_cons_self ..)) with e | e
      · exact e
      · rcases List.mem_cons.mp ((h y).mpr (List.mem_cons_self ..)) with e2 | e2
        · exact e2.symm
        · have := b1 x e; have := a1 y e2; omega
    subst e
    congr 1
    refine pw_uniq a2 b2 fun k => ⟨fun hk => ?_, fun hk => ?_⟩
    · rcases List.mem_cons.mp ((h k).mp (List.mem_cons_of_mem _ hk)) with e | e
      · subst e; have := a1 k hk; omega
      · exact e
    · rcases List.mem_cons.mp ((h k).mpr (List.mem_cons_of_mem _ hk)) with e | e
      · subst e; have := b1 k hk; omega
      · exact e
theorem ints_rp {as : List Addr} {F : Hp} : ∀ ns : List Int, Rps Y as F (ns.map D.int) (ns.map V.int)
  | [] => .nil
  | n :: ns => .cons (.int n) (ints_rp ns)
def bSorted : FA := fun xs S => match xs with
  | [.sti ns] => if ns.length ≤ 60 then .ok (.lst ((srtI ns).map D.int)) S else .stuck
  | _ => .stuck
theorem c_sorted (o : On X Y) : CallR X (.builtin "sorted") (rDA Y E bSorted) := by
  rintro pins s σ H xs us Q I rv ⟨F, as, S, ds, st, r, q⟩
  unfold bSorted at q
  split at q
  · rename_i ns
    obtain ⟨v, rfl, h1⟩ := args1 r rfl
    obtain ⟨hz, q⟩ := ite_stuck q
    cases h1 with
    | @sti a _ n h hn =>
      have h' := lst_up st h
      rw [← o.w] at h'
      refine cr_sortedSet o.calm pins s σ H _ us Q I rv ⟨a, _, n, rfl, h', by omega, fun ms p hs hm hl hp => ?_⟩
      have e : ms = srtI ns := pw_uniq hs pw_srtI fun k => by rw [hm, mem_srtI]; simp
      subst e
      have x := Xt.new (o := .lst ((srtI ns).map V.int)) st hp
      exact q as _ _ _ x (st.new hp) (.lst upd_same (ints_rp _))
  · exact q.elim

/-! ### methods of texts -/
def dUpper : D → Sto → Res D := fun x S => match x with
  | .str z => if few z.length = true then .ok (.str (Txt.upper z)) S else .stuck
  | _ => .stuck
theorem i_upper {apos cpos : Pos} {m : M} (ho : PE X a (iE Y E m)) (hbase : attributeBase a "upper" X.env (eval a X.env) = eval a X.env := by rfl) (hline : (apos.endLine == cpos.line) = true := by rfl) : PE X (.Call (.Attribute a "upper" apos) [] [] cpos) (iE Y E (mU dUpper m)) :=
  PE_imp (pe_bm0 PySem.F.plainAttrs_str PySem.F.slot_str_upper PySem.F.type_str_upper mt_upper ho hbase hline) fun σ H Q ⟨F, as, ρ, S, t, q⟩ => ⟨F, as, ρ, S, t, (After.bnd q).imp fun v H1 ⟨d, S1, F1, as1, x1, s1, r1, q1⟩ => by
    cases r1 with
    | str z =>
      obtain ⟨h, q1⟩ := ite_stuck q1
      have h := of_decide_eq_true h
      exact ⟨rfl, z, rfl, rfl, Nat.le_trans h (by decide), q1.now s1 (.str _)⟩
    | _ => exact q1.elim⟩
end
end Rf

set_option Elab.async false
set_option linter.all false
set_option maxRecDepth 100000
/-! R12: calls by keywords; the law's end. -/
namespace Rf
open PySem L2 PyProof.Rows

/-! ### f(x=e) -/
section
variable {X : Cx} {Y : Yt} {E : XK} {k : Nat} {x : Str} {e : Expr} {kws : List Keyword} {p pos kpos : Pos} {n : Nat} {Mf : FA} {m : M} {mr : Rho → Sto → Res (List D)} {nm : Str}
def iK (Y : Yt) (E : XK) (m : Rho → Sto → Res (List D)) : TA := iA Y E m
theorem PK_imp {X : Cx} {e : List Keyword} {t t' : TA} (h : PK X e t) (k : ∀ σ H Q, t' σ H Q → t σ H Q) : PK X e t' := ⟨fun pos pins s σ H Q I q => h.run pos pins s σ H Q I (k σ H Q q)⟩
theorem ik_nil : PK X [] (iA Y E mNil) := PK_imp pk_nil fun σ H Q ⟨F, as, ρ, S, t, q⟩ => q.now t.st .nil
theorem ik_cons {nm : Option Str} (ha : PE X e (iE Y E m)) (hr : PK X kws (iA Y E mr)) : PK X (⟨nm, e, kpos⟩ :: kws) (iA Y E (mCons m mr)) :=
  PK_imp (pk_cons ha hr) fun σ H Q ⟨F, as, ρ, S, t, q⟩ => ⟨F, as, ρ, S, t, (After.bnd q).imp fun v H1 ⟨d, S1, F1, as1, x1, s1, r1, q1⟩ =>
    ⟨F1, as1, ρ, S1, t.mo x1 s1, (After.bnd q1).imp fun vs H2 ⟨ds, S2, F2, as2, x2, s2, r2, q2⟩ => q2.now s2 (.cons (r1.mo x2.pre x2.ex) r2)⟩⟩
/-- a def that is called by the names of all its parameters, in their sequence -/
structure DefK (P : Program) (w : World) (K : PySem.W.Frag) (mg : Str → Option Value) (base : Heap) (Y : Yt) (k : Nat) (x : Str) (ks : List Str) (Mf : FA) : Prop where
  ex : ∃ f fd, mg x = some (.ref f) ∧ PySem.W.keepIn K (.ref f) = true ∧ FnG P w K mg base k f fd ks (spM Y ks.length Mf) ∧ ∀ (s : Shared) (us : List Value), us.length = ks.length → BindsTo s fd ⟨[], ks.zip us⟩ (ks.zip us)
theorem i_callK {ks : List Str} (G : DefK X.prog X.w X.K X.mg X.base Y k x ks Mf) (hr : Room k X.A) (o : On X Y) (hg : Gl X x) (ha : PK X kws (iA Y E0 mr)) (hlen : ∀ ρ S ds S1, mr ρ S = .ok ds S1 → ds.length = ks.length)
    (hall : (backToKw pos (keywordEach kws X.env)).all (·.1.isSome) = true := by rfl) (hks : (backToKw pos (keywordEach kws X.env)).filterMap (·.1) = ks := by rfl) (hdb : (x == ("__debug__" : Str)) = false := by decide)
    (hpl : ((backTo pos (starEach [] X.env)).any (·.1) || (backToKw pos (keywordEach kws X.env)).any (·.1.isNone)) = false := by rfl) : PE X (.Call (.Name x p) [] kws pos) (iE Y E0 (mA Mf mr)) := by
  obtain ⟨f, fd, hm, hk, F, hb⟩ := G.ex
  refine ⟨fun pins s σ H Q I ⟨Fh, as, ρ, S, t, q⟩ => ?_⟩
  have q' : After Y E0 (Rps Y) as Fh H (mr ρ S) fun vs H1 => spM Y ks.length Mf vs H1 Q E0 := by
    unfold mA at q
    cases hmr : mr ρ S with
    | stuck => rw [hmr] at q; exact q.elim
    | err y S1 => rw [hmr] at q; exact q
    | ok ds S1 =>
      rw [hmr] at q
      intro as' F' H' vs x s r
      exact ⟨F', as', S1, ds, s, r, hlen ρ S ds S1 hmr, After.weak x q⟩
  refine wpAny_Call_Name_kw (ld_glob I hg hm ?_ hdb)
  refine PySem.W.callWith_KW0 (h₀ := X.base) I.ok.mod.kin hk hall (thn (ha.run pos pins s σ H _ I ⟨Fh, as, ρ, S, t, q'⟩) fun us s1 ⟨vs, H1, I1, r, z⟩ => ⟨I1.kIn, ?_⟩) hpl
  rw [hks]
  have hl : us.length = ks.length := by rw [← r.length]; exact F.len _ _ _ _ z
  refine wpAny_call (codeAny_mono (F.run X.A X.stack s1 H1 ⟨[], ks.zip us⟩ us vs Q hr o.gd I1.env0 (hb s1 us hl) r z) fun y s' hq => ?_)
  cases y with
  | error _ => exact False.elim hq
  | ok fl => cases fl with
    | ret u => exact I1.after hq
    | _ => exact False.elim hq
end

/-! ### the law's end -/
section
variable {P : Program} {w : World} {K : PySem.W.Frag} {mg mb : Str → Option Value} {k : Nat} {fa a : Addr} {fd : FuncData} {x : Str} {sp : Sp} {s₁ : Shared} {vs : List Value} {ns : List Int}
/-- what the judge of a row wants behind the law's call -/
abbrev Wants (s₁ : Shared) (r : Result) (s' : Shared) : Prop := r = .ok (.ret (.bool true)) ∧ OldK s₁.heap s'.heap ∧ s'.os = s₁.os ∧ AllBare s'.gens
theorem lawG_at (hns : s₁.heap.Ns mainGlobals mg) (hb : s₁.heap.Ns builtinsNs mb) (hbb : ∀ x : Str, x ≠ "__name__" → mb x = bootBuiltins x) (hlim : s₁.heap.NoLimit) (hg : s₁.gens = #[]) (KX : K.In s₁.heap) (hr : Room k callerA)
    (ha : s₁.heap.get? a = some { cls := .type "list", data := .seq vs.toArray }) (hsd : SysD s₁.heap) (F : ∀ base : Heap, K.In base → base.Ns mainGlobals mg → SysD base → FnG P w K mg base k fa fd [x] sp) (hbind : ∀ (s : Shared) (u : Value), BindsTo s fd ⟨[u], []⟩ [(x, u)])
    (H : Hp) (hO : Only H) (hok : HOk P w H s₁.heap) (one : ∀ b, H b ≠ none → b = a) (hK : H a ≠ none → K.lookup a = none) (hsp : sp [.ref a] H (fun v _ => v = .bl true) E0) : codeAny (model P w) callerA (.call (.ref fa) ⟨[.ref a], []⟩) (Wants s₁) s₁ := by
  have tracked : ∀ {b : Addr} {u : HO}, H b = some u → b = a := fun {b u} e => one b (by rw [e]; exact nofun)
  -- the base: the heap without the script
  have dicts : ∀ {b : Addr} {o : Obj} {es : Array DictEntry} {ep : Nat}, s₁.heap.get? b = some o → o.data = .dict es ep → H b = none := fun {b o es ep} e d => by
    cases q : H b with
    | none => rfl
    | some u =>
      rw [tracked q, ha] at e
      cases e
      exact Data.noConfusion d
  have names : ∀ {b : Addr} {m : Str → Option Value}, s₁.heap.Ns b m → (hidT s₁.heap H).Ns b m := fun {b m} ⟨o, es, ep, e, d, z⟩ => ⟨o, es, ep, hidT_get e (dicts e d), d, z⟩
  have written : K.In (hidT s₁.heap H) := fun b o e => hidT_get (KX b o e) (by
    cases q : H b with
    | none => rfl
    | some u =>
      have e2 := hK (by rw [← tracked q, q]; exact nofun)
      rw [← tracked q, e] at e2
      cases e2)
  obtain ⟨mc, l1, l2⟩ := hlim
  have md : Mod K mg (hidT s₁.heap H) := ⟨written, names hns, ⟨mb, names hb, hbb⟩, ⟨mc, names l1, l2⟩⟩
  have none0 : ∀ b ∈ frs ([] : List Env), H b = none := fun b z => nomatch (show b ∈ ([] : List Addr) from z)
  have e0 : Env0 P w K mg (hidT s₁.heap H) callerA [] s₁ H := ⟨rfl, md, fun b o e => of_hidT e, Nat.le_of_eq (hidT_size _ _), trivial, none0, hok, .of_eq hg⟩
  refine codeAny_mono ((F _ written (names hns) (hsd.imp fun _ z => names z)).run callerA [] s₁ H ⟨[.ref a], []⟩ [.ref a] [.ref a] _ hr rfl e0 (hbind s₁ (.ref a)) (.cons rfl .nil) hsp) fun r s' h => ?_
  cases r with
  | error _ => exact False.elim h
  | ok fl => cases fl with
    | ret u =>
      obtain ⟨v, H', os, bare, un, hok', rv, rfl⟩ := h
      cases rv
      refine ⟨rfl, OldK.of_keep fun b o e => ?_, os, bare⟩
      cases q : H b with
      | none => exact un.keep b o e q (fun z => nomatch (show b ∈ ([] : List Addr) from z)) (by simp)
      | some u =>
        rcases hO b with z | ⟨ob, xs, z⟩
        · rw [q] at z; cases z
        · have g1 := (hok b _ z).1
          have g2 := (hok' b _ (un.frzs b ob _ z)).1
          rw [e] at g1
          cases g1
          exact g2
    | _ => exact False.elim h
theorem lawG_call (hns : s₁.heap.Ns mainGlobals mg) (hb : s₁.heap.Ns builtinsNs mb) (hbb : ∀ x : Str, x ≠ "__name__" → mb x = bootBuiltins x) (hlim : s₁.heap.NoLimit) (hg : s₁.gens = #[]) (KX : K.In s₁.heap) (hr : Room k callerA)
    (ha : s₁.heap.get? a = some { cls := .type "list", data := .seq vs.toArray }) (hi : IntsAre vs ns) (hl : ns.length ≤ sizeLine) (hsd : SysD s₁.heap) (F : ∀ base : Heap, K.In base → base.Ns mainGlobals mg → SysD base → FnG P w K mg base k fa fd [x] sp) (hbind : ∀ (s : Shared) (u : Value), BindsTo s fd ⟨[u], []⟩ [(x, u)])
    (hsp : ∀ H : Hp, Only H → SqL K H a (ns.map V.int) → sp [.ref a] H (fun v _ => v = .bl true) E0) : codeAny (model P w) callerA (.call (.ref fa) ⟨[.ref a], []⟩) (Wants s₁) s₁ := by
  have rv := vals_ints hi
  cases hk : K.lookup a with
  | none =>
    -- the script alone is tracked, locked
    have at1 : ∀ b, (if b = a then some (HO.frz { cls := .type "list", data := .seq vs.toArray } (.lst (ns.map V.int))) else none) ≠ none → b = a := fun b z => by
      by_cases e : b = a
      · exact e
      · rw [if_neg e] at z; exact absurd rfl z
    refine lawG_at hns hb hbb hlim hg KX hr ha hsd F hbind (fun b => if b = a then some (HO.frz { cls := .type "list", data := .seq vs.toArray } (.lst (ns.map V.int))) else none) (fun b => ?_) (fun b u z => ?_) at1 (fun _ => hk) (hsp _ (fun b => ?_) (.inl (.inr ⟨_, if_pos rfl⟩)))
    · by_cases e : b = a
      · exact .inr ⟨_, _, if_pos e⟩
      · exact .inl (if_neg e)
    · have e := at1 b (fun y => by rw [show (if b = a then some (HO.frz { cls := .type "list", data := .seq vs.toArray } (.lst (ns.map V.int))) else none) = some u from z] at y; cases y)
      subst e
      have z2 := (if_pos rfl).symm.trans z
      cases z2
      exact ⟨ha, by rw [List.length_map]; exact hl, vs, _, rv, ha⟩
    · by_cases e : b = a
      · exact .inr ⟨_, _, if_pos e⟩
      · exact .inl (if_neg e)
  | some o =>
    have e := KX a o hk
    rw [ha] at e
    cases e
    refine lawG_at hns hb hbb hlim hg KX hr ha hsd F hbind (fun _ => none) (fun _ => .inl rfl) (fun b u z => nomatch (show (none : Option HO) = some u from z)) (fun b z => absurd rfl z) (fun z => absurd rfl z) (hsp _ (fun _ => .inl rfl) (.inr ⟨_, vs.toArray, _, hk, rfl, rfl, rfl, ?_, by simpa using rv⟩))
    rw [List.size_toArray, hi.length]
    exact hl
end
theorem walkG {l : PySem.W.OpenLaw} {n k : Nat} {q : Program} {loose : List Str} {XP : (Str → Option Value) → Heap → Prop} {YP : World → Heap → Prop} {d : DefRec} {K : Params → PySem.W.Frag} {sp : World → Sp} {x : Str} (hn : l.most = some n) (hn2 : n ≤ sizeLine) (hdf : d.params.defaults = []) (hr : Room k callerA) (hi : importsNone q = true)
    (hY : ∀ (w : World) (h : Heap), YP w h → (K w.params).In h)
    (F : ∀ (w : World) (mg : Str → Option Value) (fa : Addr) (h : Heap), (K w.params).In h → h.Ns mainGlobals mg → mg d.name = some (.ref fa) →
      ∃ fd : FuncData, (∀ (s : Shared) (u : Value), BindsTo s fd ⟨[u], []⟩ [(x, u)]) ∧ ∀ base : Heap, (K w.params).In base → base.Ns mainGlobals mg → SysD base → FnG l.prog w (K w.params) mg base k fa fd [x] (sp w))
    (hsp : ∀ (w : World) (H : Hp) (a : Addr) (ns : List Int), ns.length ≤ n → Only H → SqL (K w.params) H a (ns.map V.int) → sp w [.ref a] H (fun v _ => v = .bl true) E0) : PySem.W.WalkO q loose XP YP l.row.toRowW d [] (fun f vs => PySem.call f vs) := by
  refine Att.attach_call hn hdf fun w s₀ s₁ mg mb fa o pm cd doc a vs ns G Y ho hd hcd hmg hobj hints hlen hg => ?_
  obtain ⟨fd, hb, hF⟩ := F w mg fa _ (hY w _ Y) G.T.g hmg
  exact lawG_call G.T.g G.T.b G.T.builtins G.T.nolimit hg (hY w _ Y) hr hobj hints (Nat.le_trans hlen hn2) ((G.T.seer hi).mods.imp fun _ z => z.1) hF hb fun H h1 h2 => hsp w H a ns hlen h1 h2
/-- the script as data -/
theorem script_rp {Y : Yt} {H : Hp} {a : Addr} {ns : List Int} (h : SqL Y.K H a (ns.map V.int)) : ∃ F, StR Y H F [] [] ∧ Rps Y [] F [.fro (ns.map D.int)] [.ref a] := by
  refine ⟨fun b => if b = a then H a else none, ⟨fun b o e => ⟨by simp, ?_⟩, rfl, .nil, fun n b d e => by simp at e⟩, .cons (.fro (vs := ns.map V.int) ?_ (ints_rp ns)) .nil⟩
  · by_cases z : b = a
    · subst z
      have e2 : (if b = b then H b else none) = some o := e
      rwa [if_pos rfl] at e2
    · have e2 : (if b = a then H a else none) = some o := e
      rw [if_neg z] at e2
      cases e2
  · rcases h with (h | ⟨o, h⟩) | h
    · exact .inl (.inl (by show (if a = a then H a else none) = _; rw [if_pos rfl]; exact h))
    · exact .inl (.inr ⟨o, by show (if a = a then H a else none) = _; rw [if_pos rfl]; exact h⟩)
    · exact .inr h
end Rf

set_option Elab.async false
set_option linter.all false
set_option maxRecDepth 100000
/-! R13: signs, {}, several targets at once, constants, by data. -/
namespace Rf
open PySem L2 PyProof.Rows
section
variable {X : Cx} {Y : Yt} {E : XK} {pos : Pos} {a : Expr} {m : M} {es : List Expr} {mr : Rho → Sto → Res (List D)}
def dNeg : D → Sto → Res D := fun x S => match x with
  | .int i => .ok (.int (-i)) S
  | _ => .stuck
theorem i_neg (h : PE X a (iE Y E m)) : PE X (.UnaryOp .USub a pos) (iE Y E (mU dNeg m)) := PE_imp (pe_un un_neg h) fun σ H Q ⟨F, as, ρ, S, t, q⟩ => ⟨F, as, ρ, S, t, (After.bnd q).imp fun v H1 ⟨d, S1, F1, as1, x1, s1, r1, q1⟩ => by
  cases r1 with
  | int i => exact ⟨i, rfl, q1.now s1 (.int _)⟩
  | _ => exact q1.elim⟩
def mDict0 : M := fun _ S => .ok (.dk []) S
theorem i_dict0 : PE X (.Dict [] [] pos) (iE Y E mDict0) := PE_imp pe_dnewK fun σ H Q ⟨F, as, ρ, S, t, q⟩ p hp => by
  have x := Xt.new (o := .dK []) t.st hp
  exact q as _ _ _ x (t.st.new hp) (.dk (ws := []) (kvs := []) (vs := []) upd_same rfl rfl .nil)
def mDict0C : M := fun _ S => .ok (.loc S.length) (S ++ [.dk []])
theorem i_dict0C : PE X (.Dict [] [] pos) (iE Y E mDict0C) := PE_imp pe_dnewK fun σ H Q ⟨F, as, ρ, S, t, q⟩ p hp => by
  have x := Xt.cell (o := .dK []) t.st hp
  have e : (as ++ [p])[S.length]? = some p := by rw [← t.st.len]; simp
  exact q (as ++ [p]) _ _ _ x (t.st.cell hp ⟨[], upd_same, rfl, .nil⟩) (.loc e)
/-- a, b = x, y with plain names -/
def sPar (is : List Nat) (mr : Rho → Sto → Res (List D)) : MS := fun ρ S => (mr ρ S).out fun ds S1 => if ds.length = is.length then .nx ((is.zip ds).foldl (fun r p => r.set p.1 (some p.2)) ρ) S1 else .stuck
theorem is_par2 {i j : Nat} {x y : Str} {b : Expr} {px py pt pt2 : Pos} {kt k2 : Nat} (hc : X.calm = true) (hN : X.N.Nodup) (hi : X.N[i]? = some x) (hj : X.N[j]? = some y) (hij : i ≠ j) (hx : X.env.scope.names.lookup x = some .local) (hy : X.env.scope.names.lookup y = some .local) (ha : PA X [a, b] (iA Y E mr))
    (hw : swappedStores [.Tuple [.Name x px, .Name y py] kt pt] (.Tuple [a, b] k2 pt2) X.env = pure (some [x, y])) (hs : swapsWithSole [.Tuple [.Name x px, .Name y py] kt pt] (.Tuple [a, b] k2 pt2) pos.line X.env = pure false := by rfl) :
    PS X (.Assign [.Tuple [.Name x px, .Name y py] kt pt] (.Tuple [a, b] k2 pt2) pos) (iS Y E (sPar [i, j] mr)) := PS_imp (ps_par hc hN hi hj hij hx hy ha hw hs) fun Dn σ H ⟨F, as, ρ, S, t, q⟩ => ⟨F, as, ρ, S, t, (After.out q).imp fun vs H1 ⟨ds, S1, F1, as1, x1, s1, r1, q1⟩ => by
  split at q1
  · rename_i hl
    cases r1 with
    | nil => cases hl
    | cons h1 r2 => cases r2 with
      | nil => cases hl
      | cons h2 r3 => cases r3 with
        | cons _ _ => simp at hl
        | nil => exact ⟨_, _, rfl, q1 as1 F1 H1 _ (Xt.refl _ _ _) s1 (((t.fr.mo x1).set h1).set h2)⟩
  · exact q1.elim⟩
theorem is_par3 {i j l : Nat} {x y z : Str} {b c : Expr} {px py pz pt pt2 : Pos} {kt k2 : Nat} (hc : X.calm = true) (hN : X.N.Nodup) (hi : X.N[i]? = some x) (hj : X.N[j]? = some y) (hl : X.N[l]? = some z) (hij : i ≠ j) (hil : i ≠ l) (hjl : j ≠ l) (hx : X.env.scope.names.lookup x = some .local) (hy : X.env.scope.names.lookup y = some .local) (hz : X.env.scope.names.lookup z = some .local) (ha : PA X [a, b, c] (iA Y E mr))
    (hw : swappedStores [.Tuple [.Name x px, .Name y py, .Name z pz] kt pt] (.Tuple [a, b, c] k2 pt2) X.env = pure (some [x, y, z])) (hs : swapsWithSole [.Tuple [.Name x px, .Name y py, .Name z pz] kt pt] (.Tuple [a, b, c] k2 pt2) pos.line X.env = pure false := by rfl) :
    PS X (.Assign [.Tuple [.Name x px, .Name y py, .Name z pz] kt pt] (.Tuple [a, b, c] k2 pt2) pos) (iS Y E (sPar [i, j, l] mr)) := PS_imp (ps_par3 hc hN hi hj hl hij hil hjl hx hy hz ha hw hs) fun Dn σ H ⟨F, as, ρ, S, t, q⟩ => ⟨F, as, ρ, S, t, (After.out q).imp fun vs H1 ⟨ds, S1, F1, as1, x1, s1, r1, q1⟩ => by
  split at q1
  · rename_i hl
    cases r1 with
    | nil => cases hl
    | cons h1 r2 => cases r2 with
      | nil => cases hl
      | cons h2 r3 => cases r3 with
        | nil => cases hl
        | cons h3 r4 => cases r4 with
          | cons _ _ => simp at hl
          | nil => exact ⟨_, _, _, rfl, q1 as1 F1 H1 _ (Xt.refl _ _ _) s1 ((((t.fr.mo x1).set h1).set h2).set h3)⟩
  · exact q1.elim⟩
end
end Rf

set_option Elab.async false
set_option linter.all false
set_option maxRecDepth 100000
/-! R14: short words for derivations. -/
namespace Rf
open PySem L2
section
variable {X : Cx} {Y : Yt} {E : XK}
theorem on_blk {s : Shared} {H : Hp} {scope : Scope} {cenv : Env} {fp : List Addr} (o : On X Y) : On (X.blk s H scope cenv fp) Y := ⟨o.K, o.w, o.hu, o.hd, o.calm, o.gd, o.sm⟩
theorem oo_eq (o : On X Y) : OpR X (compareOp .Eq) (rD2 Y E dEq) := o_eq o.K (by have := o.hu; omega)
theorem oo_ne (o : On X Y) : OpR X (compareOp .NotEq) (rD2 Y E dNe) := o_ne o.K (by have := o.hu; omega)
theorem oo_in (o : On X Y) : OpR X (compareOp .In) (rD2 Y E dIn) := o_in o.K (by have := o.hu; omega)
theorem oo_notIn (o : On X Y) : OpR X (compareOp .NotIn) (rD2 Y E dNotIn) := o_notIn o.K (by have := o.hu; omega)
variable {x : Str} {pos : Pos}
theorem i_ty (n : String) (hg : Gl X x) (hm : X.mg x = none) (hv : bootBuiltins x = some (.type n)) (hn : x ≠ "__name__" := by decide) (hd : (x == ("__debug__" : Str)) = false := by decide) : PE X (.Name x pos) (iE Y E (mC (.ty n))) :=
  i_c (pe_bltn (v := .ty n) hg hm hv rfl hn hd) fun _ _ => .ty n
theorem i_gint {i : Int} {t : Tok} (hg : Gl X x) (hm : X.mg x = some (.int i t)) (hd : (x == ("__debug__" : Str)) = false := by decide) : PE X (.Name x pos) (iE Y E (mC (.int i))) :=
  i_c (pe_glob (v := .int i) hg hm ⟨_, rfl⟩ hd) fun _ _ => .int i
theorem i_gstr {z : Str} {t : Tok} (hg : Gl X x) (hm : X.mg x = some (.str z t)) (hd : (x == ("__debug__" : Str)) = false := by decide) : PE X (.Name x pos) (iE Y E (mC (.str z))) :=
  i_c (pe_glob (v := .str z) hg hm ⟨_, rfl⟩ hd) fun _ _ => .str z
end
end Rf

set_option Elab.async false
set_option linter.all false
set_option maxRecDepth 100000
/-! R15: values by plain data; comprehensions and loops without effects. -/
namespace Rf
open PySem L2
mutual
def ofP : PyData → D
  | .none => .non
  | .bool b => .bl b
  | .int i => .int i
  | .str x => .str x
  | .list ps => .lst (ofPs ps)
  | .tuple ps => .tup (ofPs ps)
  | .dict _ => .dk []
def ofPs : List PyData → List D
  | [] => []
  | p :: ps => ofP p :: ofPs ps
end
theorem ofPs_map : ∀ ps : List PyData, ofPs ps = ps.map ofP
  | [] => rfl
  | p :: ps => by rw [ofPs, ofPs_map ps]; rfl
mutual
/-- how far it goes down, and along -/
def wt : PyData → Nat
  | .list ps => 1 + wts ps
  | .tuple ps => 1 + wts ps
  | .none => 1
  | .bool _ => 1
  | .int _ => 1
  | .str _ => 1
  | .dict _ => 1
def wts : List PyData → Nat
  | [] => 1
  | p :: ps => 1 + max (wt p) (wts ps)
end
mutual
/-- no dict but {} -/
def noKv : PyData → Bool
  | .list ps => noKvs ps
  | .tuple ps => noKvs ps
  | .dict kvs => kvs.isEmpty
  | .none => true
  | .bool _ => true
  | .int _ => true
  | .str _ => true
def noKvs : List PyData → Bool
  | [] => true
  | p :: ps => noKv p && noKvs ps
end
mutual
theorem toP_of (S : Sto) : ∀ (n : Nat) (p : PyData), wt p ≤ n → noKv p = true → toP S n (ofP p) = some p
  | 0, p, h, _ => by cases p <;> simp [wt] at h
  | n + 1, .none, _, _ => by simp [ofP, toP]
  | n + 1, .bool b, _, _ => by simp [ofP, toP]
  | n + 1, .int i, _, _ => by simp [ofP, toP]
  | n + 1, .str x, _, _ => by simp [ofP, toP]
  | n + 1, .dict kvs, _, k => by
    cases kvs with
    | nil => simp [ofP, toP]
    | cons a b => simp [noKv] at k
  | n + 1, .list ps, h, k => by
    rw [ofP, toP, toPs_of S n ps (by rw [wt] at h; omega) (by rw [noKv] at k; exact k)]
    rfl
  | n + 1, .tuple ps, h, k => by
    rw [ofP, toP, toPs_of S n ps (by rw [wt] at h; omega) (by rw [noKv] at k; exact k)]
    rfl
theorem toPs_of (S : Sto) : ∀ (n : Nat) (ps : List PyData), wts ps ≤ n → noKvs ps = true → toPs S n (ofPs ps) = some ps
  | 0, ps, h, _ => by cases ps <;> simp [wts] at h
  | n + 1, [], _, _ => by simp [ofPs, toPs]
  | n + 1, p :: ps, h, k => by
    rw [wts] at h
    rw [noKvs, Bool.and_eq_true] at k
    rw [ofPs, toPs, toP_of S n p (by omega) k.1, toPs_of S n ps (by omega) k.2]
end
/-- what repr takes, with bounds: how far, how deep, how much -/
def fin3 (w d b : Nat) (p : PyData) : Bool := noKv p && p.showable && p.leavesShort 13 && decide (wt p ≤ w) && decide (p.depth ≤ d) && decide (p.bulk ≤ b)
theorem fin3_iff {w d b : Nat} {p : PyData} : fin3 w d b p = true ↔ noKv p = true ∧ p.showable = true ∧ p.leavesShort 13 = true ∧ wt p ≤ w ∧ p.depth ≤ d ∧ p.bulk ≤ b := by
  simp only [fin3, Bool.and_eq_true, decide_eq_true_eq, and_assoc]
theorem fin3_up {w d b w' d' b' : Nat} {p : PyData} (h : fin3 w d b p = true) (h1 : w ≤ w') (h2 : d ≤ d') (h3 : b ≤ b') : fin3 w' d' b' p = true := by
  rw [fin3_iff] at h ⊢
  obtain ⟨k1, k2, k3, k4, k5, k6⟩ := h
  exact ⟨k1, k2, k3, by omega, by omega, by omega⟩
theorem finAll {w d b : Nat} : ∀ {ps : List PyData}, (∀ p ∈ ps, fin3 w d b p = true) → noKvs ps = true ∧ PyData.showableAll ps = true ∧ PyData.leavesShortAll 13 ps = true ∧ wts ps ≤ w + ps.length + 1 ∧ PyData.depthAll ps ≤ d ∧ PyData.bulkAll ps ≤ ps.length * (b + 1)
  | [], _ => by simp [noKvs, PyData.showableAll, PyData.leavesShortAll, wts, PyData.depthAll, PyData.bulkAll]
  | p :: ps, h => by
    obtain ⟨a1, a2, a3, a4, a5, a6⟩ := finAll (ps := ps) fun q hq => h q (List.mem_cons_of_mem _ hq)
    obtain ⟨k1, k2, k3, k4, k5, k6⟩ := fin3_iff.mp (h p (List.mem_cons_self ..))
    refine ⟨by rw [noKvs, k1, a1]; rfl, by rw [PyData.showableAll, k2, a2]; rfl, by rw [PyData.leavesShortAll, k3, a3]; rfl, ?_, ?_, ?_⟩
    · rw [wts, List.length_cons]; omega
    · rw [PyData.depthAll]; omega
    · rw [PyData.bulkAll, List.length_cons, Nat.succ_mul]; omega
theorem fin_tup {w d b l : Nat} {ps : List PyData} (h : ∀ p ∈ ps, fin3 w d b p = true) (hl : ps.length ≤ l) : fin3 (w + l + 2) (d + 1) (l * (b + 1)) (.tuple ps) = true := by
  obtain ⟨a1, a2, a3, a4, a5, a6⟩ := finAll h
  have := Nat.mul_le_mul_right (b + 1) hl
  refine fin3_iff.mpr ⟨by rw [noKv]; exact a1, by rw [PyData.showable]; exact a2, by rw [PyData.leavesShort]; exact a3, by rw [wt]; omega, by rw [PyData.depth]; omega, by rw [PyData.bulk]; omega⟩
theorem fin_lst' {w d b l : Nat} {ps : List PyData} (h : ∀ p ∈ ps, fin3 w d b p = true) (hl : ps.length ≤ l) : fin3 (w + l + 2) (d + 1) (l * (b + 1)) (.list ps) = true := by
  obtain ⟨a1, a2, a3, a4, a5, a6⟩ := finAll h
  have := Nat.mul_le_mul_right (b + 1) hl
  refine fin3_iff.mpr ⟨by rw [noKv]; exact a1, by rw [PyData.showable]; exact a2, by rw [PyData.leavesShort]; exact a3, by rw [wt]; omega, by rw [PyData.depth]; omega, by rw [PyData.bulk]; omega⟩
/-- repr of plain data -/
theorem repr_of {S : Sto} {p : PyData} (h : fin3 200 100 60000 p = true) : bRepr [ofP p] S = .ok (.str p.shown) S := by
  obtain ⟨k1, k2, k3, k4, k5, k6⟩ := fin3_iff.mp h
  have hs := PyData.shown_le_bulk 13 (by decide) p k3
  have hf : few p.shown.length = true := decide_eq_true (by omega)
  simp only [bRepr, rpP, toP_of S deep p k4 k1, k2, hf, decide_eq_true k5, Bool.and_self, if_true]
/-- what == takes -/
def eqP (p : PyData) : Bool := noKv p && decide (wt p ≤ 200) && SeqAt.shaped p
theorem shP_of {S : Sto} {p : PyData} (h : eqP p = true) : shP S (ofP p) = some p := by
  simp only [eqP, Bool.and_eq_true, decide_eq_true_eq] at h
  simp only [shP, toP_of S deep p h.1.2 h.1.1, h.2, if_true]
theorem shP_str {S : Sto} {x : Str} (h : PyData.strOk x = true) : shP S (.str x) = some (.str x) := shP_of (p := .str x) (by simp [eqP, noKv, wt, SeqAt.shaped, PyData.canLay0, h, PyData.depth])
/-! ### comprehensions and loops without effects -/
theorem lcL_pure {g : MG} {mt : MT} {me : M} {ρ0 : Rho} {S : Sto} {f : D → D} : ∀ {ds acc : List D}, (∀ d ∈ ds, ∃ ρ1, g d ρ0 S = some (ρ1, S) ∧ mt ρ1 S = .ok true S ∧ me ρ1 S = .ok (f d) S) → acc.length + ds.length ≤ 1000000 →
    lcL free g mt me ρ0 ds acc S = .ok (acc ++ ds.map f) S
  | [], acc, _, _ => by simp [lcL, free]
  | d :: ds, acc, h, hl => by
    obtain ⟨ρ1, h1, h2, h3⟩ := h d (List.mem_cons_self ..)
    rw [List.length_cons] at hl
    have ih := lcL_pure (f := f) (ds := ds) (acc := acc ++ [f d]) (fun e he => h e (List.mem_cons_of_mem _ he)) (by rw [List.length_append]; simp; omega)
    simp only [lcL, free, h1, optR, h2, Res.thn, h3, show acc.length < 1000000 by omega, and_self, if_true]
    show lcL free g mt me ρ0 ds (acc ++ [f d]) S = _
    rw [ih, List.map_cons, List.append_assoc]
    rfl
theorem bools_map {α : Type} {p : α → Bool} {f : α → D} (h : ∀ a, f a = .bl (p a)) : ∀ ds : List α, bools (ds.map f) = some (ds.map p)
  | [] => rfl
  | d :: ds => by rw [List.map_cons, h d, bools, bools_map h ds]; rfl
/-- all of a comprehension without effects -/
theorem all_lc {mi : MI} {g : MG} {me : M} {vs : List Nat} {ρ : Rho} {S : Sto} {items : List D} (p : D → Bool) (hi : mi ρ S = .ok ⟨items, free⟩ S) (hl : items.length ≤ 1000000)
    (h : ∀ d ∈ items, ∃ ρ1, g d (wipeR ρ vs) S = some (ρ1, S) ∧ me ρ1 S = .ok (.bl (p d)) S) :
    mA (bAllAny fun bs => bs.all id) (mCons (mLc mi g mYes me vs) mNil) ρ S = .ok (.bl (items.all p)) S := by
  have e := lcL_pure (g := g) (mt := mYes) (me := me) (ρ0 := wipeR ρ vs) (S := S) (f := fun d => .bl (p d)) (ds := items) (acc := []) (fun d hd => by
    obtain ⟨ρ1, h1, h2⟩ := h d hd
    exact ⟨ρ1, h1, rfl, h2⟩) (by simpa using hl)
  simp only [mA, mCons, mNil, mLc, hi, bndI, e, Res.thn, Res.bnd, List.nil_append, bAllAny, bools_map (p := p) (f := fun d => D.bl (p d)) (fun _ => rfl)]
  congr 2
  rw [List.all_map]
  rfl
/-- a loop without effects, that returns where something fails -/
theorem forL_pure {g : MG} {b : MS} {S : Sto} {p : D → Bool} {r : D} (R : Rho → Prop) : ∀ {ds : List D} {ρ : Rho}, R ρ → (∀ d ∈ ds, ∀ ρ, R ρ → ∃ ρ1, g d ρ S = some (ρ1, S) ∧ R ρ1 ∧ b ρ1 S = if p d = true then .nx ρ1 S else .rt r S) →
    ∃ ρ1, R ρ1 ∧ forL free g b ds ρ S = if ds.all p = true then .nx ρ1 S else .rt r S
  | [], ρ, h, _ => ⟨ρ, h, by simp [forL, free]⟩
  | d :: ds, ρ, h, k => by
    obtain ⟨ρ1, h1, h2, h3⟩ := k d (List.mem_cons_self ..) ρ h
    obtain ⟨ρ2, h4, h5⟩ := forL_pure (g := g) (b := b) (p := p) (r := r) R (ds := ds) h2 fun e he => k e (List.mem_cons_of_mem _ he)
    refine ⟨ρ2, h4, ?_⟩
    simp only [forL, free, if_true, h1, stepL, h3, List.all_cons]
    by_cases hp : p d = true
    · simp only [hp, if_true, turnL, Bool.true_and]; exact h5
    · simp [hp, turnL]
/-! ### ascending whole numbers -/
def asc : List Int → Bool
  | [] => true
  | [_] => true
  | x :: y :: ys => decide (x < y) && asc (y :: ys)
theorem asc_pw : ∀ {xs : List Int}, asc xs = true ↔ xs.Pairwise (· < ·)
  | [] => by simp [asc]
  | [x] => by simp [asc]
  | x :: y :: ys => by
    have ih := asc_pw (xs := y :: ys)
    rw [asc, Bool.and_eq_true, decide_eq_true_eq, ih, List.pairwise_cons (l := y :: ys)]
    constructor
    · rintro ⟨h1, h2⟩
      refine ⟨fun z hz => ?_, h2⟩
      rcases List.mem_cons.mp hz with e | hz
      · rw [e]; exact h1
      · exact Int.lt_trans h1 ((List.pairwise_cons.mp h2).1 z hz)
    · rintro ⟨h1, h2⟩
      exact ⟨h1 y (List.mem_cons_self ..), h2⟩
theorem asc_srt {xs : List Int} : xs = srtI xs ↔ asc xs = true := by
  rw [asc_pw]
  constructor
  · intro h
    rw [h]
    exact pw_srtI
  · intro h
    exact pw_uniq h pw_srtI fun k => mem_srtI.symm
theorem asc_at : ∀ {xs : List Int}, asc xs = (List.range (xs.length - 1)).all fun i => decide (xs.getD i 0 < xs.getD (i + 1) 0)
  | [] => rfl
  | [_] => rfl
  | x :: y :: ys => by
    have ih := asc_at (xs := y :: ys)
    rw [asc, ih]
    simp only [List.length_cons, Nat.add_sub_cancel]
    rw [List.range_succ_eq_map, List.all_cons, List.all_map]
    rfl
/-! ### lists of whole numbers as data -/
theorem intsOf_map : ∀ ns : List Int, intsOf (ns.map D.int) = some ns
  | [] => rfl
  | n :: ns => by rw [List.map_cons, intsOf, intsOf_map ns]; rfl
theorem len_insI {x : Int} : ∀ {ys : List Int}, (insI x ys).length ≤ ys.length + 1
  | [] => by simp [insI]
  | y :: ys => by
    unfold insI
    split
    · simp
    · split
      · simp
      · have := len_insI (x := x) (ys := ys)
        simp only [List.length_cons]
        omega
theorem len_srtI : ∀ {xs : List Int}, (srtI xs).length ≤ xs.length
  | [] => Nat.le_refl _
  | x :: xs => by
    have h1 := len_insI (x := x) (ys := srtI xs)
    have h2 := len_srtI (xs := xs)
    rw [srtI, List.length_cons]
    omega
theorem ints_all : ∀ ns : List Int, noKvs (ns.map PyData.int) = true ∧ PyData.canLayAll0 (ns.map PyData.int) = true ∧ PyData.depthAll (ns.map PyData.int) = 0 ∧ wts (ns.map PyData.int) ≤ ns.length + 2
  | [] => by simp [noKvs, PyData.canLayAll0, PyData.depthAll, wts]
  | n :: ns => by
    obtain ⟨h1, h2, h3, h4⟩ := ints_all ns
    refine ⟨?_, ?_, ?_, ?_⟩
    · rw [List.map_cons, noKvs, h1]; rfl
    · rw [List.map_cons, PyData.canLayAll0, h2]; simp [PyData.canLay0]
    · rw [List.map_cons, PyData.depthAll, h3]; simp [PyData.depth]
    · rw [List.map_cons, wts, List.length_cons]; simp only [wt]; omega
theorem sh_ints {S : Sto} {ns : List Int} (h : ns.length ≤ 60) : shP S (.lst (ns.map D.int)) = some (.list (ns.map .int)) := by
  obtain ⟨h1, h2, h3, h4⟩ := ints_all ns
  have e : ofP (.list (ns.map .int)) = .lst (ns.map D.int) := by rw [ofP, ofPs_map, List.map_map]; rfl
  rw [← e]
  refine shP_of ?_
  have h5 : 1 + wts (ns.map PyData.int) ≤ 200 := by omega
  simp [eqP, noKv, h1, wt, SeqAt.shaped, PyData.canLay0, h2, PyData.depth, h3, h5]
theorem eqv_ints : ∀ {xs ys : List Int}, PyData.eqvAll (xs.map .int) (ys.map .int) = decide (xs = ys)
  | [], [] => rfl
  | [], _ :: _ => rfl
  | _ :: _, [] => rfl
  | x :: xs, y :: ys => by
    rw [List.map_cons, List.map_cons, PyData.eqvAll, eqv_ints (xs := xs) (ys := ys)]
    show ((x == y) && decide (xs = ys)) = _
    by_cases h1 : x = y
    · by_cases h2 : xs = ys
      · simp [h1, h2]
      · simp [h1, h2]
    · simp [h1]
/-- list(t) != sorted(set(t)) -/
theorem ne_srt {S : Sto} {ns : List Int} (h : ns.length ≤ 60) : neD S (.lst (ns.map D.int)) (.lst ((srtI ns).map D.int)) = some (!asc ns) := by
  have h2 := len_srtI (xs := ns)
  simp only [neD, sh_ints h, sh_ints (show (srtI ns).length ≤ 60 by omega)]
  simp only [PyData.eqv, eqv_ints]
  congr 2
  by_cases h3 : asc ns = true
  · rw [h3]; exact decide_eq_true (asc_srt.mpr h3)
  · simp only [Bool.not_eq_true] at h3
    rw [h3]
    exact decide_eq_false fun e => by rw [asc_srt.mp e] at h3; cases h3
theorem sh_int {S : Sto} {i : Int} : shP S (.int i) = some (.int i) := shP_of (p := .int i) rfl
theorem ne_nat {S : Sto} {a : Nat} {b : Nat} : neD S (.int (a : Int)) (.int (b : Int)) = some (!decide (a = b)) := by
  simp only [neD, sh_int, PyData.eqv]
  congr 2
  by_cases h : a = b
  · simp [h]
  · rw [decide_eq_false h]
    exact beq_false_of_ne fun z => h (by omega)
end Rf

set_option Elab.async false
set_option linter.all false
set_option maxRecDepth 100000
/-! R16: loops with an invariant; texts that are the same. -/
namespace Rf
open PySem L2
theorem forL_inv {g : MG} {b : MS} (R : Rho → Sto → Prop) : ∀ {ds : List D} {ρ : Rho} {S : Sto}, R ρ S → (∀ d ∈ ds, ∀ ρ S, R ρ S → ∃ ρ1 S1 ρ2 S2, g d ρ S = some (ρ1, S1) ∧ b ρ1 S1 = .nx ρ2 S2 ∧ R ρ2 S2) →
    ∃ ρ' S', R ρ' S' ∧ forL free g b ds ρ S = .nx ρ' S'
  | [], ρ, S, h, _ => ⟨ρ, S, h, by simp [forL, free]⟩
  | d :: ds, ρ, S, h, k => by
    obtain ⟨ρ1, S1, ρ2, S2, h1, h2, h3⟩ := k d (List.mem_cons_self ..) ρ S h
    obtain ⟨ρ3, S3, h4, h5⟩ := forL_inv (g := g) (b := b) R (ds := ds) h3 fun e he => k e (List.mem_cons_of_mem _ he)
    refine ⟨ρ3, S3, h4, ?_⟩
    simp only [forL, free, if_true, h1, stepL, h2, turnL]
    exact h5
/-- a loop that changes no cell -/
theorem forL_all {g : MG} {b : MS} {S : Sto} (R : Rho → Prop) {ds : List D} {ρ : Rho} (h : R ρ) (k : ∀ d ∈ ds, ∀ ρ, R ρ → ∃ ρ1 ρ2, g d ρ S = some (ρ1, S) ∧ b ρ1 S = .nx ρ2 S ∧ R ρ2) :
    ∃ ρ', R ρ' ∧ forL free g b ds ρ S = .nx ρ' S := by
  obtain ⟨ρ', S', ⟨h1, h2⟩, h3⟩ := forL_inv (g := g) (b := b) (fun ρ S' => R ρ ∧ S' = S) (ds := ds) (ρ := ρ) (S := S) ⟨h, rfl⟩ fun d hd ρ S' hr => by
    obtain ⟨hr, rfl⟩ := hr
    obtain ⟨ρ1, ρ2, h1, h2, h3⟩ := k d hd ρ hr
    exact ⟨ρ1, _, ρ2, _, h1, h2, h3, rfl⟩
  subst h2
  exact ⟨ρ', h1, h3⟩
/-- turns that all say yes -/
theorem lcL_yes {g : MG} {mt : MT} {me : M} {ρ0 : Rho} (I : Nat → Sto → Prop) {N : Nat} (step : ∀ n S, n < N → I n S → ∃ S', I (n + 1) S' ∧ ∀ d, ∃ ρ1, g d ρ0 S = some (ρ1, S) ∧ mt ρ1 S = .ok true S ∧ me ρ1 S = .ok (.bl true) S') :
    ∀ {ds acc : List D} {n : Nat} {S : Sto}, I n S → n + ds.length ≤ N → acc.length + ds.length ≤ 1000000 → ∃ S', I (n + ds.length) S' ∧ lcL free g mt me ρ0 ds acc S = .ok (acc ++ List.replicate ds.length (.bl true)) S'
  | [], acc, n, S, h, _, _ => ⟨S, h, by simp [lcL, free]⟩
  | d :: ds, acc, n, S, h, hn, hl => by
    rw [List.length_cons] at hn hl
    obtain ⟨S1, i1, k⟩ := step n S (by omega) h
    obtain ⟨ρ1, h1, h2, h3⟩ := k d
    obtain ⟨S2, i2, e⟩ := lcL_yes I step (ds := ds) (acc := acc ++ [.bl true]) i1 (by omega) (by rw [List.length_append]; simp; omega)
    refine ⟨S2, by rw [List.length_cons, show n + (ds.length + 1) = n + 1 + ds.length by omega]; exact i2, ?_⟩
    simp only [lcL, free, h1, optR, h2, Res.thn, h3, show acc.length < 1000000 by omega, and_self, if_true]
    show lcL free g mt me ρ0 ds (acc ++ [.bl true]) S1 = _
    rw [e, List.length_cons, List.replicate_succ, List.append_assoc]
    rfl
theorem bools_yes : ∀ n : Nat, bools (List.replicate n (.bl true)) = some (List.replicate n true)
  | 0 => rfl
  | n + 1 => by rw [List.replicate_succ, bools, bools_yes n]; rfl
theorem all_yes {mi : MI} {g : MG} {me : M} {vs : List Nat} {ρ : Rho} {S : Sto} {items : List D} (I : Nat → Sto → Prop) (hi : mi ρ S = .ok ⟨items, free⟩ S) (hl : items.length ≤ 1000000) (h0 : I 0 S)
    (step : ∀ n S, n < items.length → I n S → ∃ S', I (n + 1) S' ∧ ∀ d, ∃ ρ1, g d (wipeR ρ vs) S = some (ρ1, S) ∧ me ρ1 S = .ok (.bl true) S') :
    ∃ S', I items.length S' ∧ mA (bAllAny fun bs => bs.all id) (mCons (mLc mi g mYes me vs) mNil) ρ S = .ok (.bl true) S' := by
  obtain ⟨S', i, e⟩ := lcL_yes (g := g) (mt := mYes) (me := me) (ρ0 := wipeR ρ vs) I (N := items.length) (fun n S hn hI => by
    obtain ⟨S1, h1, h2⟩ := step n S hn hI
    exact ⟨S1, h1, fun d => by
      obtain ⟨ρ1, k1, k2⟩ := h2 d
      exact ⟨ρ1, k1, rfl, k2⟩⟩) (ds := items) (acc := []) h0 (by omega) (by simpa using hl)
  refine ⟨S', by rw [Nat.zero_add] at i; exact i, ?_⟩
  simp only [mA, mCons, mNil, mLc, hi, bndI, e, Res.thn, Res.bnd, List.nil_append, bAllAny, bools_yes]
  congr 2
  simp
theorem ne_same {S : Sto} {x : Str} : neD S (.str x) (.str x) = some false := by
  have e : toP S deep (.str x) = some (.str x) := toP_of S deep (.str x) (by rw [wt]; decide) (by simp [noKv])
  unfold neD shP
  rw [e]
  by_cases h : SeqAt.shaped (.str x) = true
  · simp only [h, if_true, PyData.eqv, beq_self_eq_true, Bool.not_true]
  · simp only [h, if_false]
    simp
theorem repr2 {S : Sto} {b : Bool} : bRepr [.lst [.bl b, .bl b]] S = .ok (.str (PyData.shown (.list [.bool b, .bool b]))) S := repr_of (p := .list [.bool b, .bool b]) (by cases b <;> decide)
end Rf

set_option Elab.async false
set_option linter.all false
set_option maxRecDepth 100000
set_option maxHeartbeats 4000000
namespace K25
open PySem L2 Rf
def top (i : Nat) : Stmt := PySem.Challenge.pw_handkept_k25_rules_of_any_value.main.body.getD i (.Pass ⟨0, 0, 0, 0⟩)
abbrev s_is_word : Stmt := top 2
abbrev s_is_integer : Stmt := top 4
abbrev s_is_tuple_of : Stmt := top 5
abbrev s_is_ascending : Stmt := top 6
abbrev s_is_rule : Stmt := top 9
abbrev s__is_skipped : Stmt := top 10
abbrev s__law_pot : Stmt := top 12
abbrev s__law_take : Stmt := top 13
abbrev s__law_of : Stmt := top 14
abbrev s__law_odd : Stmt := top 15
abbrev s__law_bent : Stmt := top 16
abbrev s__law_is_word : Stmt := top 17
abbrev s__law_due : Stmt := top 18
abbrev s__law_rule : Stmt := top 19
abbrev s__law_right : Stmt := top 20
abbrev s_law : Stmt := top 21
theorem sc_is_word : FnScope ["value", "letter"] ["value"] (defScope s_is_word) := ⟨rfl, rfl, rfl, by decide +kernel, rfl, by decide +kernel, by decide +kernel⟩
theorem sc_is_integer : FnScope ["value"] ["value"] (defScope s_is_integer) := ⟨rfl, rfl, rfl, by decide +kernel, rfl, by decide +kernel, by decide +kernel⟩
theorem sc_is_tuple_of : FnScope ["value", "length"] ["value", "length"] (defScope s_is_tuple_of) := ⟨rfl, rfl, rfl, by decide +kernel, rfl, by decide +kernel, by decide +kernel⟩
theorem sc_is_ascending : FnScope ["values", "at"] ["values"] (defScope s_is_ascending) := ⟨rfl, rfl, rfl, by decide +kernel, rfl, by decide +kernel, by decide +kernel⟩
theorem sc_is_rule : FnScope ["value", "word", "skipped", "under"] ["value"] (defScope s_is_rule) := ⟨rfl, rfl, rfl, by decide +kernel, rfl, by decide +kernel, by decide +kernel⟩
theorem sc__is_skipped : FnScope ["value", "place"] ["value"] (defScope s__is_skipped) := ⟨rfl, rfl, rfl, by decide +kernel, rfl, by decide +kernel, by decide +kernel⟩
theorem sc__law_pot : FnScope ["_law_script", "_law_k", "_law_cell", "_law_own", "_law_mixed"] ["_law_script", "_law_k"] (defScope s__law_pot) := ⟨rfl, rfl, rfl, by decide +kernel, rfl, by decide +kernel, by decide +kernel⟩
theorem sc__law_take : FnScope ["_law_pot_here", "_law_upto", "_law_digit", "_law_prime", "_law_mixed"] ["_law_pot_here", "_law_upto"] (defScope s__law_take) := ⟨rfl, rfl, rfl, by decide +kernel, rfl, by decide +kernel, by decide +kernel⟩
theorem sc__law_of : FnScope ["_law_pot_here", "_law_some"] ["_law_pot_here", "_law_some"] (defScope s__law_of) := ⟨rfl, rfl, rfl, by decide +kernel, rfl, by decide +kernel, by decide +kernel⟩
theorem sc__law_odd : FnScope ["_law_pot_here", "_law_thing", "_law_some"] ["_law_pot_here", "_law_thing"] (defScope s__law_odd) := ⟨rfl, rfl, rfl, by decide +kernel, rfl, by decide +kernel, by decide +kernel⟩
theorem sc__law_bent : FnScope ["_law_pot_here", "_law_thing", "_law_deep", "_law_at"] ["_law_pot_here", "_law_thing", "_law_deep"] (defScope s__law_bent) := ⟨rfl, rfl, rfl, by decide +kernel, rfl, by decide +kernel, by decide +kernel⟩
theorem sc__law_is_word : FnScope ["_law_thing", "_law_sign"] ["_law_thing"] (defScope s__law_is_word) := ⟨rfl, rfl, rfl, by decide +kernel, rfl, by decide +kernel, by decide +kernel⟩
theorem sc__law_due : FnScope ["_law_thing", "_law_word", "_law_skipped", "_law_under", "_law_place"] ["_law_thing"] (defScope s__law_due) := ⟨rfl, rfl, rfl, by decide +kernel, rfl, by decide +kernel, by decide +kernel⟩
theorem sc__law_rule : FnScope ["_law_pot_here", "_law_word", "_law_some", "_law_skipped"] ["_law_pot_here"] (defScope s__law_rule) := ⟨rfl, rfl, rfl, by decide +kernel, rfl, by decide +kernel, by decide +kernel⟩
theorem sc__law_right : FnScope ["_law_pot_here", "_law_rule_here", "_law_thing", "_law_kept", "_law_due_here"] ["_law_pot_here"] (defScope s__law_right) := ⟨rfl, rfl, rfl, by decide +kernel, rfl, by decide +kernel, by decide +kernel⟩
theorem sc_law : FnScope ["_law_script", "_law_k", "_law_pot_here", "_law_turn"] ["_law_script"] (defScope s_law) := ⟨rfl, rfl, rfl, by decide +kernel, rfl, by decide +kernel, by decide +kernel⟩
/-- what the module holds -/
structure Facts (mg : Str → Option Value) : Prop where
  abs : mg "abs" = none
  all : mg "all" = none
  bool : mg "bool" = none
  int : mg "int" = none
  isinstance : mg "isinstance" = none
  len : mg "len" = none
  list : mg "list" = none
  max : mg "max" = none
  min : mg "min" = none
  range : mg "range" = none
  repr : mg "repr" = none
  set : mg "set" = none
  sorted : mg "sorted" = none
  str : mg "str" = none
  tuple : mg "tuple" = none
  MOST_LETTERS : ∃ t, mg "MOST_LETTERS" = some (.int 8 t)
  LAST_PLACE : ∃ t, mg "LAST_PLACE" = some (.int 5 t)
def b_is_word (C : Nat → FA) : MS := (sSeq (sIf (mOr (mNot (mB (mA bIsi (mCons (mV 0) (mCons (mC (.ty "str")) mNil))))) (mNot (mB (mChain dLe dLe (mC (.int 1)) (mA bLen (mCons (mV 0) mNil)) (mC (.int 8))))))
    (sRet (mC (.bl false)))
    sNil)
    (sRet (mA (bAllAny fun bs => bs.all id) (mCons (mLc (mVal (mV 0)) (gV 1) mYes (mChain dLe dLe (mC (.str "a")) (mV 1) (mC (.str "z"))) (([("letter", 1)] : List (Str × Nat)).map (·.2))) mNil))))
def b_is_integer (C : Nat → FA) : MS := (sRet (mAndV (mA bIsi (mCons (mV 0) (mCons (mC (.ty "int")) mNil))) (mNotV (mA bIsi (mCons (mV 0) (mCons (mC (.ty "bool")) mNil))))))
def b_is_tuple_of (C : Nat → FA) : MS := (sRet (mAndV (mA bIsi (mCons (mV 0) (mCons (mC (.ty "tuple")) mNil))) (mOp dEq (mA bLen (mCons (mV 0) mNil)) (mV 1))))
def b_is_ascending (C : Nat → FA) : MS := (sRet (mA (bAllAny fun bs => bs.all id) (mCons (mLc (mRange1 (mCons (mOp dSub (mA bLen (mCons (mV 0) mNil)) (mC (.int 1))) mNil)) (gV 1) mYes (mOp dLt (mOp dIx (mV 0) (mV 1)) (mOp dIx (mV 0) (mOp dAdd (mV 1) (mC (.int 1))))) (([("at", 1)] : List (Str × Nat)).map (·.2))) mNil)))
def b_is_rule (C : Nat → FA) : MS := (sSeq (sIf (mNot (mB (mA (C 2) (mCons (mV 0) (mCons (mC (.int 3)) mNil)))))
    (sRet (mC (.bl false)))
    sNil)
    (sSeq (sAsg (mV 0) (gTp 3 (gsCons (gV 1) (gsCons (gV 2) (gsCons (gV 3) gsNil)))))
    (sRet (mAndV (mOp dIn (mV 1) (mTup (mCons (mC (.str "first")) (mCons (mC (.str "only")) mNil)))) (mAndV (mA (C 5) (mCons (mV 2) mNil)) (mOrV (mOp dEq (mV 3) (mC (.str ""))) (mA (C 0) (mCons (mV 3) mNil))))))))
def b__is_skipped (C : Nat → FA) : MS := (sSeq (sIf (mOr (mNot (mB (mA bIsi (mCons (mV 0) (mCons (mC (.ty "tuple")) mNil))))) (mNot (mB (mA (bAllAny fun bs => bs.all id) (mCons (mLc (mVal (mV 0)) (gV 1) mYes (mAndV (mA (C 1) (mCons (mV 1) mNil)) (mChain dLe dLe (mC (.int 0)) (mV 1) (mC (.int 5)))) (([("place", 1)] : List (Str × Nat)).map (·.2))) mNil)))))
    (sRet (mC (.bl false)))
    sNil)
    (sRet (mA (C 3) (mCons (mV 0) mNil))))
def b__law_pot (C : Nat → FA) : MS := (sSeq (sAsg (mIf (mB (mOp dLt (mV 1) (mA bLen (mCons (mV 0) mNil)))) (mOp dIx (mV 0) (mV 1)) (mOp dAdd (mOp dMul (mC (.int 41)) (mV 1)) (mC (.int 13)))) (gV 2))
    (sSeq (sAsg (mOp dMul (mOp dMod (mA bInt (mCons (mA bAbs (mCons (mV 2) mNil)) mNil)) (mOp dPow (mOp dPow (mC (.int 10)) (mC (.int 60))) (mC (.int 5)))) (mA bInt (mCons (mOp dGe (mA bAbs (mCons (mV 2) mNil)) (mOp dPow (mC (.int 10)) (mC (.int 18)))) mNil))) (gV 3))
    (sSeq (sAsg (mOp dAdd (mOp dAdd (mOp dMul (mOp dMod (mA bInt (mCons (mV 2) mNil)) (mC (.int 2305843009213693951))) (mC (.int 70913))) (mOp dMul (mOp dMul (mC (.int 6701)) (mV 1)) (mV 1))) (mC (.int 59))) (gV 4))
    (sRet (mLstC (mCons (mV 3) (mCons (mOp dMod (mA bInt (mCons (mV 4) mNil)) (mC (.int 2305843009213693921))) (mCons (mC (.int 0)) mNil))))))))
def b__law_take (C : Nat → FA) : MS := (sSeq (sIf (mB (mOp dGt (mOp dIx (mV 0) (mC (.int 0))) (mC (.int 0))))
    (sSeq (sAsg (mOp dMod (mA bInt (mCons (mOp dIx (mV 0) (mC (.int 0))) mNil)) (mV 1)) (gV 2))
    (sSeq (sAsg (mOp dDiv (mOp dIx (mV 0) (mC (.int 0))) (mV 1)) (gIx (mV 0) (mC (.int 0))))
    (sRet (mV 2))))
    sNil)
    (sSeq (sAsg (mOp dAdd (mOp dIx (mV 0) (mC (.int 2))) (mC (.int 1))) (gIx (mV 0) (mC (.int 2))))
    (sSeq (sAsg (mOp dIx (mLst (mCons (mC (.int 2147483647)) (mCons (mC (.int 2147483629)) (mCons (mC (.int 2147483587)) (mCons (mC (.int 2147483579)) (mCons (mC (.int 2147483563)) mNil)))))) (mOp dMod (mA bInt (mCons (mOp dIx (mV 0) (mC (.int 2))) mNil)) (mC (.int 5)))) (gV 3))
    (sSeq (sAsg (mOp dMod (mA bInt (mCons (mOp dPow (mA bInt (mCons (mOp dAdd (mOp dAdd (mOp dIx (mV 0) (mC (.int 1))) (mOp dMul (mOp dMul (mC (.int 98999)) (mOp dIx (mV 0) (mC (.int 2)))) (mOp dIx (mV 0) (mC (.int 2))))) (mC (.int 43))) mNil)) (mC (.int 3))) mNil)) (mV 3)) (gV 4))
    (sSeq (sAsg (mOp dMod (mA bInt (mCons (mOp dMul (mV 4) (mOp dAdd (mOp dMod (mA bInt (mCons (mV 4) mNil)) (mC (.int 10007))) (mOp dMul (mC (.int 79)) (mOp dIx (mV 0) (mC (.int 2)))))) mNil)) (mC (.int 2305843009213693907))) (gV 4))
    (sRet (mOp dMod (mA bInt (mCons (mOp dDiv (mV 4) (mC (.int 103))) mNil)) (mV 1))))))))
def b__law_of (C : Nat → FA) : MS := (sRet (mOp dIx (mV 1) (mA (C 7) (mCons (mV 0) (mCons (mA bLen (mCons (mV 1) mNil)) mNil)))))
def b__law_odd (C : Nat → FA) : MS := (sSeq (sAsg (mLst (mCons (mC .non) (mCons (mC (.bl true)) (mCons (mC (.int 0)) (mCons (mC (.int 1)) (mCons (mU dNeg (mC (.int 1))) (mCons (mC (.str "")) (mCons (mC (.str "x")) (mCons (mC (.str "key")) (mCons (mTup mNil) (mCons (mLst mNil) (mCons mDict0 (mCons (mTup (mCons (mTup mNil) mNil)) (mCons (mTup (mCons (mC (.str "")) mNil)) (mCons (mTup (mCons (mC (.str "come")) mNil)) mNil))))))))))))))) (gV 2))
    (sSeq (sIf (mB (mA bIsi (mCons (mV 1) (mCons (mC (.ty "tuple")) mNil))))
    (sAsg (mOp dAdd (mV 2) (mOp dMul (mLst (mCons (mSl dSl (mV 1) (mPart (mC (.int 1))) mNoP) (mCons (mSl dSl (mV 1) mNoP (mPart (mU dNeg (mC (.int 1))))) (mCons (mU dBack (mV 1)) (mCons (mOp dAdd (mV 1) (mSl dSl (mV 1) (mPart (mU dNeg (mC (.int 1)))) mNoP)) (mCons (mA bList (mCons (mV 1) mNil)) (mCons (mTup (mCons (mV 1) mNil)) mNil))))))) (mC (.int 2)))) (gV 2))
    sNil)
    (sSeq (sIf (mB (mA bIsi (mCons (mV 1) (mCons (mC (.ty "str")) mNil))))
    (sAsg (mOp dAdd (mV 2) (mOp dMul (mLst (mCons (mOp dAdd (mV 1) (mC (.str "a"))) (mCons (mSl dSl (mV 1) (mPart (mC (.int 1))) mNoP) (mCons (mU dUpper (mV 1)) (mCons (mOp dAdd (mV 1) (mC (.str " "))) (mCons (mLst (mCons (mV 1) mNil)) (mCons (mTup (mCons (mV 1) mNil)) mNil))))))) (mC (.int 2)))) (gV 2))
    sNil)
    (sRet (mA (C 8) (mCons (mV 0) (mCons (mV 2) mNil)))))))
def b__law_bent (C : Nat → FA) : MS := (sSeq (sIf (mOr (mB (mOp dEq (mV 2) (mC (.int 0)))) (mOr (mNot (mB (mA bIsi (mCons (mV 1) (mCons (mC (.ty "tuple")) mNil))))) (mOr (mB (mOp dEq (mV 1) (mTup mNil))) (mB (mOp dEq (mA (C 7) (mCons (mV 0) (mCons (mC (.int 5)) mNil))) (mC (.int 0)))))))
    (sRet (mA (C 9) (mCons (mV 0) (mCons (mV 1) mNil))))
    sNil)
    (sSeq (sAsg (mA (C 7) (mCons (mV 0) (mCons (mA bLen (mCons (mV 1) mNil)) mNil))) (gV 3))
    (sRet (mOp dAdd (mOp dAdd (mSl dSl (mV 1) mNoP (mPart (mV 3))) (mTup (mCons (mA (C 10) (mCons (mV 0) (mCons (mOp dIx (mV 1) (mV 3)) (mCons (mOp dSub (mV 2) (mC (.int 1))) mNil)))) mNil))) (mSl dSl (mV 1) (mPart (mOp dAdd (mV 3) (mC (.int 1)))) mNoP)))))
def b__law_is_word (C : Nat → FA) : MS := (sSeq (sIf (mOr (mNot (mB (mA bIsi (mCons (mV 0) (mCons (mC (.ty "str")) mNil))))) (mNot (mB (mChain dLe dLe (mC (.int 1)) (mA bLen (mCons (mV 0) mNil)) (mC (.int 8))))))
    (sRet (mC (.bl false)))
    sNil)
    (sRet (mA (bAllAny fun bs => bs.all id) (mCons (mLc (mVal (mV 0)) (gV 1) mYes (mOp dIn (mV 1) (mC (.str "abcdefghijklmnopqrstuvwxyz"))) (([("_law_sign", 1)] : List (Str × Nat)).map (·.2))) mNil))))
def b__law_due (C : Nat → FA) : MS := (sSeq (sIf (mOr (mNot (mB (mA bIsi (mCons (mV 0) (mCons (mC (.ty "tuple")) mNil))))) (mOr (mB (mOp dNe (mA bLen (mCons (mV 0) mNil)) (mC (.int 3)))) (mNot (mB (mA bIsi (mCons (mOp dIx (mV 0) (mC (.int 0))) (mCons (mC (.ty "str")) mNil)))))))
    (sRet (mC (.bl false)))
    sNil)
    (sSeq (sAsg (mV 0) (gTp 3 (gsCons (gV 1) (gsCons (gV 2) (gsCons (gV 3) gsNil)))))
    (sSeq (sIf (mOr (mB (mOp dNotIn (mV 1) (mTup (mCons (mC (.str "first")) (mCons (mC (.str "only")) mNil))))) (mNot (mB (mA bIsi (mCons (mV 2) (mCons (mC (.ty "tuple")) mNil))))))
    (sRet (mC (.bl false)))
    sNil)
    (sSeq (sFor (mVal (mV 2)) (gV 4)
    (sIf (mOr (mNot (mB (mA bIsi (mCons (mV 4) (mCons (mC (.ty "int")) mNil))))) (mOr (mB (mA bIsi (mCons (mV 4) (mCons (mC (.ty "bool")) mNil)))) (mNot (mB (mChain dLe dLe (mC (.int 0)) (mV 4) (mC (.int 5)))))))
    (sRet (mC (.bl false)))
    sNil))
    (sSeq (sIf (mB (mOp dNe (mA bList (mCons (mV 2) mNil)) (mA bSorted (mCons (mA bSet (mCons (mV 2) mNil)) mNil))))
    (sRet (mC (.bl false)))
    sNil)
    (sRet (mAndV (mA bIsi (mCons (mV 3) (mCons (mC (.ty "str")) mNil))) (mOrV (mOp dEq (mV 3) (mC (.str ""))) (mA (C 11) (mCons (mV 3) mNil))))))))))
def b__law_rule (C : Nat → FA) : MS := (sSeq (sAsg (mA (C 8) (mCons (mV 0) (mCons (mLst (mCons (mC (.str "first")) (mCons (mC (.str "first")) (mCons (mC (.str "only")) (mCons (mC (.str "only")) (mCons (mC (.str "last")) (mCons (mC (.str "")) (mCons (mC .non) mNil)))))))) mNil))) (gV 1))
    (sSeq (sAsg (mLst (mCons (mTup mNil) (mCons (mTup (mCons (mC (.int 0)) mNil)) (mCons (mTup (mCons (mC (.int 1)) (mCons (mC (.int 3)) mNil))) (mCons (mTup (mCons (mC (.int 0)) (mCons (mC (.int 1)) (mCons (mC (.int 2)) (mCons (mC (.int 3)) (mCons (mC (.int 4)) (mCons (mC (.int 5)) mNil))))))) (mCons (mTup (mCons (mC (.int 5)) mNil)) (mCons (mTup (mCons (mC (.int 6)) mNil)) (mCons (mTup (mCons (mU dNeg (mC (.int 1))) mNil)) (mCons (mTup (mCons (mC (.int 1)) (mCons (mC (.int 0)) mNil))) (mCons (mTup (mCons (mC (.int 2)) (mCons (mC (.int 2)) mNil))) (mCons (mTup (mCons (mC (.bl true)) mNil)) (mCons (mLst (mCons (mC (.int 0)) mNil)) (mCons (mTup (mCons (mC (.str "0")) mNil)) mNil))))))))))))) (gV 2))
    (sSeq (sAsg (mA (C 8) (mCons (mV 0) (mCons (mV 2) mNil))) (gV 3))
    (sRet (mTup (mCons (mV 1) (mCons (mV 3) (mCons (mA (C 8) (mCons (mV 0) (mCons (mLst (mCons (mC (.str "")) (mCons (mC (.str "")) (mCons (mC (.str "sec")) (mCons (mC (.str "zzzzzzzz")) (mCons (mC (.str "zzzzzzzzz")) (mCons (mC (.str "S")) (mCons (mC (.str "a b")) (mCons (mC (.str "a1")) (mCons (mC .non) (mCons (mC (.int 0)) mNil))))))))))) mNil))) mNil))))))))
def b__law_right (C : Nat → FA) : MS := (sSeq (sAsg (mA (C 13) (mCons (mV 0) mNil)) (gV 1))
    (sSeq (sFor (mVal (mTup (mCons (mV 1) (mCons (mA (C 10) (mCons (mV 0) (mCons (mV 1) (mCons (mC (.int 2)) mNil)))) (mCons (mA (C 10) (mCons (mV 0) (mCons (mTup (mCons (mC (.str "first")) (mCons (mTup (mCons (mC (.int 0)) (mCons (mC (.int 2)) mNil))) (mCons (mC (.str "x")) mNil)))) (mCons (mC (.int 2)) mNil)))) mNil))))) (gV 2)
    (sSeq (sPar [3, 4] (mCons (mA bRepr (mCons (mV 2) mNil)) (mCons (mA (C 12) (mCons (mV 2) mNil)) mNil)))
    (sIf (mOr (mB (mOp dNe (mA bRepr (mCons (mLst (mCons (mA (C 4) (mCons (mV 2) mNil)) (mCons (mA (C 4) (mCons (mV 2) mNil)) mNil))) mNil)) (mA bRepr (mCons (mLst (mCons (mV 4) (mCons (mV 4) mNil))) mNil)))) (mB (mOp dNe (mA bRepr (mCons (mV 2) mNil)) (mV 3))))
    (sRet (mC (.bl false)))
    sNil)))
    (sRet (mC (.bl true)))))
def b_law (C : Nat → FA) : MS := (sSeq (sFor (mRange1 (mCons (mA bMax2 (mCons (mC (.int 1)) (mCons (mA bMin2 (mCons (mC (.int 3)) (mCons (mA bLen (mCons (mV 0) mNil)) mNil))) mNil))) mNil)) (gV 1)
    (sSeq (sAsg (mA (C 6) (mCons (mV 0) (mCons (mV 1) mNil))) (gV 2))
    (sIf (mNot (mB (mA (bAllAny fun bs => bs.all id) (mCons (mLc (mRange1 (mCons (mC (.int 20)) mNil)) (gV 3) mYes (mA (C 14) (mCons (mV 2) mNil)) (([("_law_turn", 3)] : List (Str × Nat)).map (·.2))) mNil))))
    (sRet (mC (.bl false)))
    sNil)))
    (sRet (mC (.bl true))))
/-- the defs keep what they promise, at a level -/
structure Cs (P : Program) (w : World) (K : PySem.W.Frag) (mg : Str → Option Value) (base : Heap) (Y : Yt) (k : Nat) (C : Nat → FA) : Prop where
  is_word : DefG P w K mg base Y k "is_word" 1 (C 0)
  is_integer : DefG P w K mg base Y k "is_integer" 1 (C 1)
  is_tuple_of : DefG P w K mg base Y k "is_tuple_of" 2 (C 2)
  is_ascending : DefG P w K mg base Y k "is_ascending" 1 (C 3)
  is_rule : DefG P w K mg base Y k "is_rule" 1 (C 4)
  _is_skipped : DefG P w K mg base Y k "_is_skipped" 1 (C 5)
  _law_pot : DefG P w K mg base Y k "_law_pot" 2 (C 6)
  _law_take : DefG P w K mg base Y k "_law_take" 2 (C 7)
  _law_of : DefG P w K mg base Y k "_law_of" 2 (C 8)
  _law_odd : DefG P w K mg base Y k "_law_odd" 2 (C 9)
  _law_bent : DefG P w K mg base Y k "_law_bent" 3 (C 10)
  _law_is_word : DefG P w K mg base Y k "_law_is_word" 1 (C 11)
  _law_due : DefG P w K mg base Y k "_law_due" 1 (C 12)
  _law_rule : DefG P w K mg base Y k "_law_rule" 1 (C 13)
  _law_right : DefG P w K mg base Y k "_law_right" 1 (C 14)
  law : DefG P w K mg base Y k "law" 1 (C 15)
  kis_rule : DefK P w K mg base Y k "is_rule" ["value"] (C 4)
def runF : Nat → Nat → FA
  | 0, _ => fun _ _ => .stuck
  | k + 1, i => match i with
    | 0 => runB 2 (b_is_word (runF k))
    | 1 => runB 1 (b_is_integer (runF k))
    | 2 => runB 2 (b_is_tuple_of (runF k))
    | 3 => runB 2 (b_is_ascending (runF k))
    | 4 => runB 4 (b_is_rule (runF k))
    | 5 => runB 2 (b__is_skipped (runF k))
    | 6 => runB 5 (b__law_pot (runF k))
    | 7 => runB 5 (b__law_take (runF k))
    | 8 => runB 2 (b__law_of (runF k))
    | 9 => runB 3 (b__law_odd (runF k))
    | 10 => runB 4 (b__law_bent (runF k))
    | 11 => runB 2 (b__law_is_word (runF k))
    | 12 => runB 5 (b__law_due (runF k))
    | 13 => runB 4 (b__law_rule (runF k))
    | 14 => runB 5 (b__law_right (runF k))
    | 15 => runB 4 (b_law (runF k))
    | _ => fun _ _ => .stuck
section
variable {P : Program} {w : World} {K : PySem.W.Frag} {mg : Str → Option Value} {base : Heap} {Y : Yt} {k : Nat} {C : Nat → FA}
theorem p_is_word {f : Addr} {cdv : Value} {A : Around} {outer : List Env} {s : Shared} {H : Hp} (T : Facts mg) (G : Cs P w K mg base Y k C) (hr : Room k (cxG P w K mg base ["value", "letter"] "is_word" s_is_word f cdv A outer s H).A) (o : On (cxG P w K mg base ["value", "letter"] "is_word" s_is_word f cdv A outer s H) Y) :
    PSs (cxG P w K mg base ["value", "letter"] "is_word" s_is_word f cdv A outer s H) (defBody s_is_word) (iS Y E0 (b_is_word C)) := by
  obtain ⟨t_MOST_LETTERS, c_MOST_LETTERS⟩ := T.MOST_LETTERS
  exact (is_cons (is_if (PW.pt (iw_or (it_not (it_val (i_callB (c_isi o) (by rfl) T.isinstance (by decide +kernel) (ia_cons (i_var (pv 0)) (ia_cons (i_ty "str" (by rfl) T.str (by decide +kernel)) ia_nil))))) (iw_or1 (it_not (it_chain (o_le) (o_le) i_int (i_callB (c_len o) (by rfl) T.len (by decide +kernel) (ia_cons (i_var (pv 0)) ia_nil)) (i_gint (by rfl) c_MOST_LETTERS))))))
    (is_one (is_ret i_bl))
    is_nil)
    (is_one (is_ret (i_callB (c_all o) (by rfl) T.all (by decide +kernel) (ia_cons (i_lc (own := [("letter", 1)]) o sc_is_word.nd (ii_val o.K (i_var (pv 0))) (blkOk_by (N := ["value", "letter"]) (sc := defScope s_is_word) (by decide +kernel)) (fun _ _ _ _ _ => (ig_name (pg_name (i := 1) sc_is_word.nd rfl (Or.inl rfl)) (by decide))) (fun _ _ _ _ _ => its_nil) (fun _ _ _ _ _ => (i_chain (o_le) (o_le) i_str (i_var (pv 1)) i_str))) ia_nil)))))
theorem p_is_integer {f : Addr} {cdv : Value} {A : Around} {outer : List Env} {s : Shared} {H : Hp} (T : Facts mg) (G : Cs P w K mg base Y k C) (hr : Room k (cxG P w K mg base ["value"] "is_integer" s_is_integer f cdv A outer s H).A) (o : On (cxG P w K mg base ["value"] "is_integer" s_is_integer f cdv A outer s H) Y) :
    PSs (cxG P w K mg base ["value"] "is_integer" s_is_integer f cdv A outer s H) (defBody s_is_integer) (iS Y E0 (b_is_integer C)) := by
  exact (is_one (is_ret (i_and (i_callB (c_isi o) (by rfl) T.isinstance (by decide +kernel) (ia_cons (i_var (pv 0)) (ia_cons (i_ty "int" (by rfl) T.int (by decide +kernel)) ia_nil))) (i_one (i_not (i_callB (c_isi o) (by rfl) T.isinstance (by decide +kernel) (ia_cons (i_var (pv 0)) (ia_cons (i_ty "bool" (by rfl) T.bool (by decide +kernel)) ia_nil))))))))
theorem p_is_tuple_of {f : Addr} {cdv : Value} {A : Around} {outer : List Env} {s : Shared} {H : Hp} (T : Facts mg) (G : Cs P w K mg base Y k C) (hr : Room k (cxG P w K mg base ["value", "length"] "is_tuple_of" s_is_tuple_of f cdv A outer s H).A) (o : On (cxG P w K mg base ["value", "length"] "is_tuple_of" s_is_tuple_of f cdv A outer s H) Y) :
    PSs (cxG P w K mg base ["value", "length"] "is_tuple_of" s_is_tuple_of f cdv A outer s H) (defBody s_is_tuple_of) (iS Y E0 (b_is_tuple_of C)) := by
  exact (is_one (is_ret (i_and (i_callB (c_isi o) (by rfl) T.isinstance (by decide +kernel) (ia_cons (i_var (pv 0)) (ia_cons (i_ty "tuple" (by rfl) T.tuple (by decide +kernel)) ia_nil))) (i_one (i_cmp (oo_eq o) (i_callB (c_len o) (by rfl) T.len (by decide +kernel) (ia_cons (i_var (pv 0)) ia_nil)) (i_var (pv 1)) (nomark _))))))
theorem p_is_ascending {f : Addr} {cdv : Value} {A : Around} {outer : List Env} {s : Shared} {H : Hp} (T : Facts mg) (G : Cs P w K mg base Y k C) (hr : Room k (cxG P w K mg base ["values", "at"] "is_ascending" s_is_ascending f cdv A outer s H).A) (o : On (cxG P w K mg base ["values", "at"] "is_ascending" s_is_ascending f cdv A outer s H) Y) :
    PSs (cxG P w K mg base ["values", "at"] "is_ascending" s_is_ascending f cdv A outer s H) (defBody s_is_ascending) (iS Y E0 (b_is_ascending C)) := by
  exact (is_one (is_ret (i_callB (c_all o) (by rfl) T.all (by decide +kernel) (ia_cons (i_lc (own := [("at", 1)]) o sc_is_ascending.nd (ii_range1 (by rfl) T.range (ia_cons (i_op (o_sub) (i_callB (c_len o) (by rfl) T.len (by decide +kernel) (ia_cons (i_var (pv 0)) ia_nil)) i_int) ia_nil)) (blkOk_by (N := ["values", "at"]) (sc := defScope s_is_ascending) (by decide +kernel)) (fun _ _ _ _ _ => (ig_name (pg_name (i := 1) sc_is_ascending.nd rfl (Or.inl rfl)) (by decide))) (fun _ _ _ _ _ => its_nil) (fun _ _ _ _ _ => (i_cmp (o_lt) (i_ix (x_ix (on_blk o).K) (i_var (pv 0)) (i_var (pv 1)) (fun _ _ => rfl)) (i_ix (x_ix (on_blk o).K) (i_var (pv 0)) (i_op (o_add (on_blk o).K) (i_var (pv 1)) i_int) (fun _ _ => rfl)) (nomark _)))) ia_nil))))
theorem p_is_rule {f : Addr} {cdv : Value} {A : Around} {outer : List Env} {s : Shared} {H : Hp} (T : Facts mg) (G : Cs P w K mg base Y k C) (hr : Room k (cxG P w K mg base ["value", "word", "skipped", "under"] "is_rule" s_is_rule f cdv A outer s H).A) (o : On (cxG P w K mg base ["value", "word", "skipped", "under"] "is_rule" s_is_rule f cdv A outer s H) Y) :
    PSs (cxG P w K mg base ["value", "word", "skipped", "under"] "is_rule" s_is_rule f cdv A outer s H) (defBody s_is_rule) (iS Y E0 (b_is_rule C)) := by
  exact (is_cons (is_if (it_not (it_val (i_call G.is_tuple_of hr o (by rfl) (ia_cons (i_var (pv 0)) (ia_cons i_int ia_nil)) rfl (len_cons (len_cons len_nil)))))
    (is_one (is_ret i_bl))
    is_nil)
    (is_cons (is_asg (vs := [1, 2, 3]) (i_var (pv 0)) (ig_tup o.K o.calm (igs_cons (ig_name (pg_name (i := 1) sc_is_rule.nd rfl (Or.inl rfl)) (by decide)) (igs_cons (ig_name (pg_name (i := 2) sc_is_rule.nd rfl (Or.inl rfl)) (by decide)) (igs_cons (ig_name (pg_name (i := 3) sc_is_rule.nd rfl (Or.inl rfl)) (by decide)) igs_nil)))))
    (is_one (is_ret (i_and (i_cmp (oo_in o) (i_var (pv 1)) (i_tup (ia_cons i_str (ia_cons i_str ia_nil))) rfl) (i_and (i_call G._is_skipped hr o (by rfl) (ia_cons (i_var (pv 2)) ia_nil) rfl (len_cons len_nil)) (i_one (i_or (i_cmp (oo_eq o) (i_var (pv 3)) i_str (nomark _)) (i_one (i_call G.is_word hr o (by rfl) (ia_cons (i_var (pv 3)) ia_nil) rfl (len_cons len_nil)))))))))))
theorem p__is_skipped {f : Addr} {cdv : Value} {A : Around} {outer : List Env} {s : Shared} {H : Hp} (T : Facts mg) (G : Cs P w K mg base Y k C) (hr : Room k (cxG P w K mg base ["value", "place"] "_is_skipped" s__is_skipped f cdv A outer s H).A) (o : On (cxG P w K mg base ["value", "place"] "_is_skipped" s__is_skipped f cdv A outer s H) Y) :
    PSs (cxG P w K mg base ["value", "place"] "_is_skipped" s__is_skipped f cdv A outer s H) (defBody s__is_skipped) (iS Y E0 (b__is_skipped C)) := by
  obtain ⟨t_LAST_PLACE, c_LAST_PLACE⟩ := T.LAST_PLACE
  exact (is_cons (is_if (PW.pt (iw_or (it_not (it_val (i_callB (c_isi o) (by rfl) T.isinstance (by decide +kernel) (ia_cons (i_var (pv 0)) (ia_cons (i_ty "tuple" (by rfl) T.tuple (by decide +kernel)) ia_nil))))) (iw_or1 (it_not (it_val (i_callB (c_all o) (by rfl) T.all (by decide +kernel) (ia_cons (i_lc (own := [("place", 1)]) o sc__is_skipped.nd (ii_val o.K (i_var (pv 0))) (blkOk_by (N := ["value", "place"]) (sc := defScope s__is_skipped) (by decide +kernel)) (fun _ _ _ _ _ => (ig_name (pg_name (i := 1) sc__is_skipped.nd rfl (Or.inl rfl)) (by decide))) (fun _ _ _ _ _ => its_nil) (fun _ _ _ _ _ => (i_and (i_call G.is_integer hr (on_blk o) (by rfl) (ia_cons (i_var (pv 1)) ia_nil) rfl (len_cons len_nil)) (i_one (i_chain (o_le) (o_le) i_int (i_var (pv 1)) (i_gint (by rfl) c_LAST_PLACE)))))) ia_nil)))))))
    (is_one (is_ret i_bl))
    is_nil)
    (is_one (is_ret (i_call G.is_ascending hr o (by rfl) (ia_cons (i_var (pv 0)) ia_nil) rfl (len_cons len_nil)))))
theorem p__law_pot {f : Addr} {cdv : Value} {A : Around} {outer : List Env} {s : Shared} {H : Hp} (T : Facts mg) (G : Cs P w K mg base Y k C) (hr : Room k (cxG P w K mg base ["_law_script", "_law_k", "_law_cell", "_law_own", "_law_mixed"] "_law_pot" s__law_pot f cdv A outer s H).A) (o : On (cxG P w K mg base ["_law_script", "_law_k", "_law_cell", "_law_own", "_law_mixed"] "_law_pot" s__law_pot f cdv A outer s H) Y) :
    PSs (cxG P w K mg base ["_law_script", "_law_k", "_law_cell", "_law_own", "_law_mixed"] "_law_pot" s__law_pot f cdv A outer s H) (defBody s__law_pot) (iS Y E0 (b__law_pot C)) := by
  exact (is_cons (is_set (i := 2) sc__law_pot.nd rfl (Or.inl rfl) (i_ifExp (it_cmp (o_lt) (i_var (pv 1)) (i_callB (c_len o) (by rfl) T.len (by decide +kernel) (ia_cons (i_var (pv 0)) ia_nil)) (nomark _)) (i_ix (x_ix o.K) (i_var (pv 0)) (i_var (pv 1)) (fun _ _ => rfl)) (i_op (o_add o.K) (i_op (o_mul) i_int (i_var (pv 1))) i_int)))
    (is_cons (is_set (i := 3) sc__law_pot.nd rfl (Or.inl rfl) (i_op (o_mul) (i_op (o_mod) (i_callTy (c_int) (by rfl) T.int (by decide +kernel) (ia_cons (i_callB (c_abs) (by rfl) T.abs (by decide +kernel) (ia_cons (i_var (pv 2)) ia_nil)) ia_nil)) (i_op (o_pow) (i_op (o_pow) i_int i_int) i_int)) (i_callTy (c_int) (by rfl) T.int (by decide +kernel) (ia_cons (i_cmp (o_ge) (i_callB (c_abs) (by rfl) T.abs (by decide +kernel) (ia_cons (i_var (pv 2)) ia_nil)) (i_op (o_pow) i_int i_int) (nomark _)) ia_nil))))
    (is_cons (is_set (i := 4) sc__law_pot.nd rfl (Or.inl rfl) (i_op (o_add o.K) (i_op (o_add o.K) (i_op (o_mul) (i_op (o_mod) (i_callTy (c_int) (by rfl) T.int (by decide +kernel) (ia_cons (i_var (pv 2)) ia_nil)) i_int) i_int) (i_op (o_mul) (i_op (o_mul) i_int (i_var (pv 1))) (i_var (pv 1)))) i_int))
    (is_one (is_ret (i_lstC (ia_cons (i_var (pv 3)) (ia_cons (i_op (o_mod) (i_callTy (c_int) (by rfl) T.int (by decide +kernel) (ia_cons (i_var (pv 4)) ia_nil)) i_int) (ia_cons i_int ia_nil)))))))))
theorem p__law_take {f : Addr} {cdv : Value} {A : Around} {outer : List Env} {s : Shared} {H : Hp} (T : Facts mg) (G : Cs P w K mg base Y k C) (hr : Room k (cxG P w K mg base ["_law_pot_here", "_law_upto", "_law_digit", "_law_prime", "_law_mixed"] "_law_take" s__law_take f cdv A outer s H).A) (o : On (cxG P w K mg base ["_law_pot_here", "_law_upto", "_law_digit", "_law_prime", "_law_mixed"] "_law_take" s__law_take f cdv A outer s H) Y) :
    PSs (cxG P w K mg base ["_law_pot_here", "_law_upto", "_law_digit", "_law_prime", "_law_mixed"] "_law_take" s__law_take f cdv A outer s H) (defBody s__law_take) (iS Y E0 (b__law_take C)) := by
  exact (is_cons (is_if (it_cmp (o_gt) (i_ix (x_ix o.K) (i_var (pv 0)) i_int (fun _ _ => rfl)) i_int (nomark _))
    (is_cons (is_set (i := 2) sc__law_take.nd rfl (Or.inl rfl) (i_op (o_mod) (i_callTy (c_int) (by rfl) T.int (by decide +kernel) (ia_cons (i_ix (x_ix o.K) (i_var (pv 0)) i_int (fun _ _ => rfl)) ia_nil)) (i_var (pv 1))))
    (is_cons (is_asg (vs := []) (i_op (o_div) (i_ix (x_ix o.K) (i_var (pv 0)) i_int (fun _ _ => rfl)) (i_var (pv 1))) (ig_ix (E := E0) (i_var (pv 0)) i_int))
    (is_one (is_ret (i_var (pv 2))))))
    is_nil)
    (is_cons (is_asg (vs := []) (i_op (o_add o.K) (i_ix (x_ix o.K) (i_var (pv 0)) i_int (fun _ _ => rfl)) i_int) (ig_ix (E := E0) (i_var (pv 0)) i_int))
    (is_cons (is_set (i := 3) sc__law_take.nd rfl (Or.inl rfl) (i_ix (x_ix o.K) (i_lst (ia_cons i_int (ia_cons i_int (ia_cons i_int (ia_cons i_int (ia_cons i_int ia_nil)))))) (i_op (o_mod) (i_callTy (c_int) (by rfl) T.int (by decide +kernel) (ia_cons (i_ix (x_ix o.K) (i_var (pv 0)) i_int (fun _ _ => rfl)) ia_nil)) i_int) (fun _ _ => rfl)))
    (is_cons (is_set (i := 4) sc__law_take.nd rfl (Or.inl rfl) (i_op (o_mod) (i_callTy (c_int) (by rfl) T.int (by decide +kernel) (ia_cons (i_op (o_pow) (i_callTy (c_int) (by rfl) T.int (by decide +kernel) (ia_cons (i_op (o_add o.K) (i_op (o_add o.K) (i_ix (x_ix o.K) (i_var (pv 0)) i_int (fun _ _ => rfl)) (i_op (o_mul) (i_op (o_mul) i_int (i_ix (x_ix o.K) (i_var (pv 0)) i_int (fun _ _ => rfl))) (i_ix (x_ix o.K) (i_var (pv 0)) i_int (fun _ _ => rfl)))) i_int) ia_nil)) i_int) ia_nil)) (i_var (pv 3))))
    (is_cons (is_set (i := 4) sc__law_take.nd rfl (Or.inl rfl) (i_op (o_mod) (i_callTy (c_int) (by rfl) T.int (by decide +kernel) (ia_cons (i_op (o_mul) (i_var (pv 4)) (i_op (o_add o.K) (i_op (o_mod) (i_callTy (c_int) (by rfl) T.int (by decide +kernel) (ia_cons (i_var (pv 4)) ia_nil)) i_int) (i_op (o_mul) i_int (i_ix (x_ix o.K) (i_var (pv 0)) i_int (fun _ _ => rfl))))) ia_nil)) i_int))
    (is_one (is_ret (i_op (o_mod) (i_callTy (c_int) (by rfl) T.int (by decide +kernel) (ia_cons (i_op (o_div) (i_var (pv 4)) i_int) ia_nil)) (i_var (pv 1))))))))))
theorem p__law_of {f : Addr} {cdv : Value} {A : Around} {outer : List Env} {s : Shared} {H : Hp} (T : Facts mg) (G : Cs P w K mg base Y k C) (hr : Room k (cxG P w K mg base ["_law_pot_here", "_law_some"] "_law_of" s__law_of f cdv A outer s H).A) (o : On (cxG P w K mg base ["_law_pot_here", "_law_some"] "_law_of" s__law_of f cdv A outer s H) Y) :
    PSs (cxG P w K mg base ["_law_pot_here", "_law_some"] "_law_of" s__law_of f cdv A outer s H) (defBody s__law_of) (iS Y E0 (b__law_of C)) := by
  exact (is_one (is_ret (i_ix (x_ix o.K) (i_var (pv 1)) (i_call G._law_take hr o (by rfl) (ia_cons (i_var (pv 0)) (ia_cons (i_callB (c_len o) (by rfl) T.len (by decide +kernel) (ia_cons (i_var (pv 1)) ia_nil)) ia_nil)) rfl (len_cons (len_cons len_nil))) (fun _ _ => rfl))))
theorem p__law_odd {f : Addr} {cdv : Value} {A : Around} {outer : List Env} {s : Shared} {H : Hp} (T : Facts mg) (G : Cs P w K mg base Y k C) (hr : Room k (cxG P w K mg base ["_law_pot_here", "_law_thing", "_law_some"] "_law_odd" s__law_odd f cdv A outer s H).A) (o : On (cxG P w K mg base ["_law_pot_here", "_law_thing", "_law_some"] "_law_odd" s__law_odd f cdv A outer s H) Y) :
    PSs (cxG P w K mg base ["_law_pot_here", "_law_thing", "_law_some"] "_law_odd" s__law_odd f cdv A outer s H) (defBody s__law_odd) (iS Y E0 (b__law_odd C)) := by
  exact (is_cons (is_set (i := 2) sc__law_odd.nd rfl (Or.inl rfl) (i_lst (ia_cons i_non (ia_cons i_bl (ia_cons i_int (ia_cons i_int (ia_cons (i_neg i_int) (ia_cons i_str (ia_cons i_str (ia_cons i_str (ia_cons (i_tup ia_nil) (ia_cons (i_lst ia_nil) (ia_cons i_dict0 (ia_cons (i_tup (ia_cons (i_tup ia_nil) ia_nil)) (ia_cons (i_tup (ia_cons i_str ia_nil)) (ia_cons (i_tup (ia_cons i_str ia_nil)) ia_nil))))))))))))))))
    (is_cons (is_if (it_val (i_callB (c_isi o) (by rfl) T.isinstance (by decide +kernel) (ia_cons (i_var (pv 1)) (ia_cons (i_ty "tuple" (by rfl) T.tuple (by decide +kernel)) ia_nil))))
    (is_one (is_set (i := 2) sc__law_odd.nd rfl (Or.inl rfl) (i_op (o_add o.K) (i_var (pv 2)) (i_op (o_mul) (i_lst (ia_cons (i_slice (s_sl o.K) (i_var (pv 1)) (io_some i_int) io_none) (ia_cons (i_slice (s_sl o.K) (i_var (pv 1)) io_none (io_some (i_neg i_int))) (ia_cons (i_back o.K (i_var (pv 1))) (ia_cons (i_op (o_add o.K) (i_var (pv 1)) (i_slice (s_sl o.K) (i_var (pv 1)) (io_some (i_neg i_int)) io_none)) (ia_cons (i_callTy (c_list o) (by rfl) T.list (by decide +kernel) (ia_cons (i_var (pv 1)) ia_nil)) (ia_cons (i_tup (ia_cons (i_var (pv 1)) ia_nil)) ia_nil))))))) i_int))))
    is_nil)
    (is_cons (is_if (it_val (i_callB (c_isi o) (by rfl) T.isinstance (by decide +kernel) (ia_cons (i_var (pv 1)) (ia_cons (i_ty "str" (by rfl) T.str (by decide +kernel)) ia_nil))))
    (is_one (is_set (i := 2) sc__law_odd.nd rfl (Or.inl rfl) (i_op (o_add o.K) (i_var (pv 2)) (i_op (o_mul) (i_lst (ia_cons (i_op (o_add o.K) (i_var (pv 1)) i_str) (ia_cons (i_slice (s_sl o.K) (i_var (pv 1)) (io_some i_int) io_none) (ia_cons (i_upper (i_var (pv 1))) (ia_cons (i_op (o_add o.K) (i_var (pv 1)) i_str) (ia_cons (i_lst (ia_cons (i_var (pv 1)) ia_nil)) (ia_cons (i_tup (ia_cons (i_var (pv 1)) ia_nil)) ia_nil))))))) i_int))))
    is_nil)
    (is_one (is_ret (i_call G._law_of hr o (by rfl) (ia_cons (i_var (pv 0)) (ia_cons (i_var (pv 2)) ia_nil)) rfl (len_cons (len_cons len_nil))))))))
theorem p__law_bent {f : Addr} {cdv : Value} {A : Around} {outer : List Env} {s : Shared} {H : Hp} (T : Facts mg) (G : Cs P w K mg base Y k C) (hr : Room k (cxG P w K mg base ["_law_pot_here", "_law_thing", "_law_deep", "_law_at"] "_law_bent" s__law_bent f cdv A outer s H).A) (o : On (cxG P w K mg base ["_law_pot_here", "_law_thing", "_law_deep", "_law_at"] "_law_bent" s__law_bent f cdv A outer s H) Y) :
    PSs (cxG P w K mg base ["_law_pot_here", "_law_thing", "_law_deep", "_law_at"] "_law_bent" s__law_bent f cdv A outer s H) (defBody s__law_bent) (iS Y E0 (b__law_bent C)) := by
  exact (is_cons (is_if (PW.pt (iw_or (it_cmp (oo_eq o) (i_var (pv 2)) i_int (nomark _)) (iw_or (it_not (it_val (i_callB (c_isi o) (by rfl) T.isinstance (by decide +kernel) (ia_cons (i_var (pv 1)) (ia_cons (i_ty "tuple" (by rfl) T.tuple (by decide +kernel)) ia_nil))))) (iw_or (it_cmp (oo_eq o) (i_var (pv 1)) (i_tup ia_nil) (nomark _)) (iw_or1 (it_cmp (oo_eq o) (i_call G._law_take hr o (by rfl) (ia_cons (i_var (pv 0)) (ia_cons i_int ia_nil)) rfl (len_cons (len_cons len_nil))) i_int (nomark _)))))))
    (is_one (is_ret (i_call G._law_odd hr o (by rfl) (ia_cons (i_var (pv 0)) (ia_cons (i_var (pv 1)) ia_nil)) rfl (len_cons (len_cons len_nil)))))
    is_nil)
    (is_cons (is_set (i := 3) sc__law_bent.nd rfl (Or.inl rfl) (i_call G._law_take hr o (by rfl) (ia_cons (i_var (pv 0)) (ia_cons (i_callB (c_len o) (by rfl) T.len (by decide +kernel) (ia_cons (i_var (pv 1)) ia_nil)) ia_nil)) rfl (len_cons (len_cons len_nil))))
    (is_one (is_ret (i_op (o_add o.K) (i_op (o_add o.K) (i_slice (s_sl o.K) (i_var (pv 1)) io_none (io_some (i_var (pv 3)))) (i_tup (ia_cons (i_call G._law_bent hr o (by rfl) (ia_cons (i_var (pv 0)) (ia_cons (i_ix (x_ix o.K) (i_var (pv 1)) (i_var (pv 3)) (fun _ _ => rfl)) (ia_cons (i_op (o_sub) (i_var (pv 2)) i_int) ia_nil))) rfl (len_cons (len_cons (len_cons len_nil)))) ia_nil))) (i_slice (s_sl o.K) (i_var (pv 1)) (io_some (i_op (o_add o.K) (i_var (pv 3)) i_int)) io_none))))))
theorem p__law_is_word {f : Addr} {cdv : Value} {A : Around} {outer : List Env} {s : Shared} {H : Hp} (T : Facts mg) (G : Cs P w K mg base Y k C) (hr : Room k (cxG P w K mg base ["_law_thing", "_law_sign"] "_law_is_word" s__law_is_word f cdv A outer s H).A) (o : On (cxG P w K mg base ["_law_thing", "_law_sign"] "_law_is_word" s__law_is_word f cdv A outer s H) Y) :
    PSs (cxG P w K mg base ["_law_thing", "_law_sign"] "_law_is_word" s__law_is_word f cdv A outer s H) (defBody s__law_is_word) (iS Y E0 (b__law_is_word C)) := by
  exact (is_cons (is_if (PW.pt (iw_or (it_not (it_val (i_callB (c_isi o) (by rfl) T.isinstance (by decide +kernel) (ia_cons (i_var (pv 0)) (ia_cons (i_ty "str" (by rfl) T.str (by decide +kernel)) ia_nil))))) (iw_or1 (it_not (it_chain (o_le) (o_le) i_int (i_callB (c_len o) (by rfl) T.len (by decide +kernel) (ia_cons (i_var (pv 0)) ia_nil)) i_int)))))
    (is_one (is_ret i_bl))
    is_nil)
    (is_one (is_ret (i_callB (c_all o) (by rfl) T.all (by decide +kernel) (ia_cons (i_lc (own := [("_law_sign", 1)]) o sc__law_is_word.nd (ii_val o.K (i_var (pv 0))) (blkOk_by (N := ["_law_thing", "_law_sign"]) (sc := defScope s__law_is_word) (by decide +kernel)) (fun _ _ _ _ _ => (ig_name (pg_name (i := 1) sc__law_is_word.nd rfl (Or.inl rfl)) (by decide))) (fun _ _ _ _ _ => its_nil) (fun _ _ _ _ _ => (i_cmp (oo_in (on_blk o)) (i_var (pv 1)) i_str rfl))) ia_nil)))))
theorem p__law_due {f : Addr} {cdv : Value} {A : Around} {outer : List Env} {s : Shared} {H : Hp} (T : Facts mg) (G : Cs P w K mg base Y k C) (hr : Room k (cxG P w K mg base ["_law_thing", "_law_word", "_law_skipped", "_law_under", "_law_place"] "_law_due" s__law_due f cdv A outer s H).A) (o : On (cxG P w K mg base ["_law_thing", "_law_word", "_law_skipped", "_law_under", "_law_place"] "_law_due" s__law_due f cdv A outer s H) Y) :
    PSs (cxG P w K mg base ["_law_thing", "_law_word", "_law_skipped", "_law_under", "_law_place"] "_law_due" s__law_due f cdv A outer s H) (defBody s__law_due) (iS Y E0 (b__law_due C)) := by
  exact (is_cons (is_if (PW.pt (iw_or (it_not (it_val (i_callB (c_isi o) (by rfl) T.isinstance (by decide +kernel) (ia_cons (i_var (pv 0)) (ia_cons (i_ty "tuple" (by rfl) T.tuple (by decide +kernel)) ia_nil))))) (iw_or (it_cmp (oo_ne o) (i_callB (c_len o) (by rfl) T.len (by decide +kernel) (ia_cons (i_var (pv 0)) ia_nil)) i_int (nomark _)) (iw_or1 (it_not (it_val (i_callB (c_isi o) (by rfl) T.isinstance (by decide +kernel) (ia_cons (i_ix (x_ix o.K) (i_var (pv 0)) i_int (fun _ _ => rfl)) (ia_cons (i_ty "str" (by rfl) T.str (by decide +kernel)) ia_nil)))))))))
    (is_one (is_ret i_bl))
    is_nil)
    (is_cons (is_asg (vs := [1, 2, 3]) (i_var (pv 0)) (ig_tup o.K o.calm (igs_cons (ig_name (pg_name (i := 1) sc__law_due.nd rfl (Or.inl rfl)) (by decide)) (igs_cons (ig_name (pg_name (i := 2) sc__law_due.nd rfl (Or.inl rfl)) (by decide)) (igs_cons (ig_name (pg_name (i := 3) sc__law_due.nd rfl (Or.inl rfl)) (by decide)) igs_nil)))))
    (is_cons (is_if (PW.pt (iw_or (it_cmp (oo_notIn o) (i_var (pv 1)) (i_tup (ia_cons i_str (ia_cons i_str ia_nil))) rfl) (iw_or1 (it_not (it_val (i_callB (c_isi o) (by rfl) T.isinstance (by decide +kernel) (ia_cons (i_var (pv 2)) (ia_cons (i_ty "tuple" (by rfl) T.tuple (by decide +kernel)) ia_nil))))))))
    (is_one (is_ret i_bl))
    is_nil)
    (is_cons (is_for (vs := [4]) PassesOwn.never o (ii_val o.K (i_var (pv 2))) (ig_name (pg_name (i := 4) sc__law_due.nd rfl (Or.inl rfl)) (by decide))
    (is_one (is_if (PW.pt (iw_or (it_not (it_val (i_callB (c_isi o) (by rfl) T.isinstance (by decide +kernel) (ia_cons (i_var (pv 4)) (ia_cons (i_ty "int" (by rfl) T.int (by decide +kernel)) ia_nil))))) (iw_or (it_val (i_callB (c_isi o) (by rfl) T.isinstance (by decide +kernel) (ia_cons (i_var (pv 4)) (ia_cons (i_ty "bool" (by rfl) T.bool (by decide +kernel)) ia_nil)))) (iw_or1 (it_not (it_chain (o_le) (o_le) i_int (i_var (pv 4)) i_int))))))
    (is_one (is_ret i_bl))
    is_nil)))
    (is_cons (is_if (it_cmp (oo_ne o) (i_callTy (c_list o) (by rfl) T.list (by decide +kernel) (ia_cons (i_var (pv 2)) ia_nil)) (i_callB (c_sorted o) (by rfl) T.sorted (by decide +kernel) (ia_cons (i_callTy (c_set o) (by rfl) T.set (by decide +kernel) (ia_cons (i_var (pv 2)) ia_nil)) ia_nil)) (nomark _))
    (is_one (is_ret i_bl))
    is_nil)
    (is_one (is_ret (i_and (i_callB (c_isi o) (by rfl) T.isinstance (by decide +kernel) (ia_cons (i_var (pv 3)) (ia_cons (i_ty "str" (by rfl) T.str (by decide +kernel)) ia_nil))) (i_one (i_or (i_cmp (oo_eq o) (i_var (pv 3)) i_str (nomark _)) (i_one (i_call G._law_is_word hr o (by rfl) (ia_cons (i_var (pv 3)) ia_nil) rfl (len_cons len_nil)))))))))))))
theorem p__law_rule {f : Addr} {cdv : Value} {A : Around} {outer : List Env} {s : Shared} {H : Hp} (T : Facts mg) (G : Cs P w K mg base Y k C) (hr : Room k (cxG P w K mg base ["_law_pot_here", "_law_word", "_law_some", "_law_skipped"] "_law_rule" s__law_rule f cdv A outer s H).A) (o : On (cxG P w K mg base ["_law_pot_here", "_law_word", "_law_some", "_law_skipped"] "_law_rule" s__law_rule f cdv A outer s H) Y) :
    PSs (cxG P w K mg base ["_law_pot_here", "_law_word", "_law_some", "_law_skipped"] "_law_rule" s__law_rule f cdv A outer s H) (defBody s__law_rule) (iS Y E0 (b__law_rule C)) := by
  exact (is_cons (is_set (i := 1) sc__law_rule.nd rfl (Or.inl rfl) (i_call G._law_of hr o (by rfl) (ia_cons (i_var (pv 0)) (ia_cons (i_lst (ia_cons i_str (ia_cons i_str (ia_cons i_str (ia_cons i_str (ia_cons i_str (ia_cons i_str (ia_cons i_non ia_nil)))))))) ia_nil)) rfl (len_cons (len_cons len_nil))))
    (is_cons (is_set (i := 2) sc__law_rule.nd rfl (Or.inl rfl) (i_lst (ia_cons (i_tup ia_nil) (ia_cons (i_tup (ia_cons i_int ia_nil)) (ia_cons (i_tup (ia_cons i_int (ia_cons i_int ia_nil))) (ia_cons (i_tup (ia_cons i_int (ia_cons i_int (ia_cons i_int (ia_cons i_int (ia_cons i_int (ia_cons i_int ia_nil))))))) (ia_cons (i_tup (ia_cons i_int ia_nil)) (ia_cons (i_tup (ia_cons i_int ia_nil)) (ia_cons (i_tup (ia_cons (i_neg i_int) ia_nil)) (ia_cons (i_tup (ia_cons i_int (ia_cons i_int ia_nil))) (ia_cons (i_tup (ia_cons i_int (ia_cons i_int ia_nil))) (ia_cons (i_tup (ia_cons i_bl ia_nil)) (ia_cons (i_lst (ia_cons i_int ia_nil)) (ia_cons (i_tup (ia_cons i_str ia_nil)) ia_nil))))))))))))))
    (is_cons (is_set (i := 3) sc__law_rule.nd rfl (Or.inl rfl) (i_call G._law_of hr o (by rfl) (ia_cons (i_var (pv 0)) (ia_cons (i_var (pv 2)) ia_nil)) rfl (len_cons (len_cons len_nil))))
    (is_one (is_ret (i_tup (ia_cons (i_var (pv 1)) (ia_cons (i_var (pv 3)) (ia_cons (i_call G._law_of hr o (by rfl) (ia_cons (i_var (pv 0)) (ia_cons (i_lst (ia_cons i_str (ia_cons i_str (ia_cons i_str (ia_cons i_str (ia_cons i_str (ia_cons i_str (ia_cons i_str (ia_cons i_str (ia_cons i_non (ia_cons i_int ia_nil))))))))))) ia_nil)) rfl (len_cons (len_cons len_nil))) ia_nil)))))))))
theorem p__law_right {f : Addr} {cdv : Value} {A : Around} {outer : List Env} {s : Shared} {H : Hp} (T : Facts mg) (G : Cs P w K mg base Y k C) (hr : Room k (cxG P w K mg base ["_law_pot_here", "_law_rule_here", "_law_thing", "_law_kept", "_law_due_here"] "_law_right" s__law_right f cdv A outer s H).A) (o : On (cxG P w K mg base ["_law_pot_here", "_law_rule_here", "_law_thing", "_law_kept", "_law_due_here"] "_law_right" s__law_right f cdv A outer s H) Y) :
    PSs (cxG P w K mg base ["_law_pot_here", "_law_rule_here", "_law_thing", "_law_kept", "_law_due_here"] "_law_right" s__law_right f cdv A outer s H) (defBody s__law_right) (iS Y E0 (b__law_right C)) := by
  exact (is_cons (is_set (i := 1) sc__law_right.nd rfl (Or.inl rfl) (i_call G._law_rule hr o (by rfl) (ia_cons (i_var (pv 0)) ia_nil) rfl (len_cons len_nil)))
    (is_cons (is_for (vs := [2]) PassesOwn.never o (ii_val o.K (i_tup (ia_cons (i_var (pv 1)) (ia_cons (i_call G._law_bent hr o (by rfl) (ia_cons (i_var (pv 0)) (ia_cons (i_var (pv 1)) (ia_cons i_int ia_nil))) rfl (len_cons (len_cons (len_cons len_nil)))) (ia_cons (i_call G._law_bent hr o (by rfl) (ia_cons (i_var (pv 0)) (ia_cons (i_tup (ia_cons i_str (ia_cons (i_tup (ia_cons i_int (ia_cons i_int ia_nil))) (ia_cons i_str ia_nil)))) (ia_cons i_int ia_nil))) rfl (len_cons (len_cons (len_cons len_nil)))) ia_nil))))) (ig_name (pg_name (i := 2) sc__law_right.nd rfl (Or.inl rfl)) (by decide))
    (is_cons (is_par2 o.calm sc__law_right.nd rfl rfl (by decide) rfl rfl (ia_cons (i_callB (c_repr o) (by rfl) T.repr (by decide +kernel) (ia_cons (i_var (pv 2)) ia_nil)) (ia_cons (i_call G._law_due hr o (by rfl) (ia_cons (i_var (pv 2)) ia_nil) rfl (len_cons len_nil)) ia_nil)) rfl)
    (is_one (is_if (PW.pt (iw_or (it_cmp (oo_ne o) (i_callB (c_repr o) (by rfl) T.repr (by decide +kernel) (ia_cons (i_lst (ia_cons (i_call G.is_rule hr o (by rfl) (ia_cons (i_var (pv 2)) ia_nil) rfl (len_cons len_nil)) (ia_cons (i_callK G.kis_rule hr o (by rfl) (ik_cons (i_var (pv 2)) ik_nil) (len_cons len_nil)) ia_nil))) ia_nil)) (i_callB (c_repr o) (by rfl) T.repr (by decide +kernel) (ia_cons (i_lst (ia_cons (i_var (pv 4)) (ia_cons (i_var (pv 4)) ia_nil))) ia_nil)) (nomark _)) (iw_or1 (it_cmp (oo_ne o) (i_callB (c_repr o) (by rfl) T.repr (by decide +kernel) (ia_cons (i_var (pv 2)) ia_nil)) (i_var (pv 3)) (nomark _)))))
    (is_one (is_ret i_bl))
    is_nil))))
    (is_one (is_ret i_bl))))
theorem p_law {f : Addr} {cdv : Value} {A : Around} {outer : List Env} {s : Shared} {H : Hp} (T : Facts mg) (G : Cs P w K mg base Y k C) (hr : Room k (cxG P w K mg base ["_law_script", "_law_k", "_law_pot_here", "_law_turn"] "law" s_law f cdv A outer s H).A) (o : On (cxG P w K mg base ["_law_script", "_law_k", "_law_pot_here", "_law_turn"] "law" s_law f cdv A outer s H) Y) :
    PSs (cxG P w K mg base ["_law_script", "_law_k", "_law_pot_here", "_law_turn"] "law" s_law f cdv A outer s H) (defBody s_law) (iS Y E0 (b_law C)) := by
  exact (is_cons (is_for (vs := [1]) PassesOwn.never o (ii_range1 (by rfl) T.range (ia_cons (i_callB (c_max2 o) (by rfl) T.max (by decide +kernel) (ia_cons i_int (ia_cons (i_callB (c_min2 o) (by rfl) T.min (by decide +kernel) (ia_cons i_int (ia_cons (i_callB (c_len o) (by rfl) T.len (by decide +kernel) (ia_cons (i_var (pv 0)) ia_nil)) ia_nil))) ia_nil))) ia_nil)) (ig_name (pg_name (i := 1) sc_law.nd rfl (Or.inl rfl)) (by decide))
    (is_cons (is_set (i := 2) sc_law.nd rfl (Or.inr rfl) (i_call G._law_pot hr o (by rfl) (ia_cons (i_var (pv 0)) (ia_cons (i_var (pv 1)) ia_nil)) rfl (len_cons (len_cons len_nil))))
    (is_one (is_if (it_not (it_val (i_callB (c_all o) (by rfl) T.all (by decide +kernel) (ia_cons (i_lc (own := [("_law_turn", 3)]) o sc_law.nd (ii_range1 (by rfl) T.range (ia_cons i_int ia_nil)) (blkOk_by (N := ["_law_script", "_law_k", "_law_pot_here", "_law_turn"]) (sc := defScope s_law) (by decide +kernel)) (fun _ _ _ _ _ => (ig_name (pg_name (i := 3) sc_law.nd rfl (Or.inl rfl)) (by decide))) (fun _ _ _ _ _ => its_nil) (fun _ _ _ _ _ => (i_call G._law_right hr (on_blk o) (by rfl) (ia_cons (i_var (pv 2)) ia_nil) rfl (len_cons len_nil)))) ia_nil))))
    (is_one (is_ret i_bl))
    is_nil))))
    (is_one (is_ret i_bl)))
/-- where each def stands -/
structure Ds (K : PySem.W.Frag) (mg : Str → Option Value) : Prop where
  is_word : ∃ f fd, mg "is_word" = some (.ref f) ∧ Fun K "is_word" "is_word" s_is_word f fd
  is_integer : ∃ f fd, mg "is_integer" = some (.ref f) ∧ Fun K "is_integer" "is_integer" s_is_integer f fd
  is_tuple_of : ∃ f fd, mg "is_tuple_of" = some (.ref f) ∧ Fun K "is_tuple_of" "is_tuple_of" s_is_tuple_of f fd
  is_ascending : ∃ f fd, mg "is_ascending" = some (.ref f) ∧ Fun K "is_ascending" "is_ascending" s_is_ascending f fd
  is_rule : ∃ f fd, mg "is_rule" = some (.ref f) ∧ Fun K "is_rule" "is_rule" s_is_rule f fd
  _is_skipped : ∃ f fd, mg "_is_skipped" = some (.ref f) ∧ Fun K "_is_skipped" "_is_skipped" s__is_skipped f fd
  _law_pot : ∃ f fd, mg "_law_pot" = some (.ref f) ∧ Fun K "_law_pot" "_law_pot" s__law_pot f fd
  _law_take : ∃ f fd, mg "_law_take" = some (.ref f) ∧ Fun K "_law_take" "_law_take" s__law_take f fd
  _law_of : ∃ f fd, mg "_law_of" = some (.ref f) ∧ Fun K "_law_of" "_law_of" s__law_of f fd
  _law_odd : ∃ f fd, mg "_law_odd" = some (.ref f) ∧ Fun K "_law_odd" "_law_odd" s__law_odd f fd
  _law_bent : ∃ f fd, mg "_law_bent" = some (.ref f) ∧ Fun K "_law_bent" "_law_bent" s__law_bent f fd
  _law_is_word : ∃ f fd, mg "_law_is_word" = some (.ref f) ∧ Fun K "_law_is_word" "_law_is_word" s__law_is_word f fd
  _law_due : ∃ f fd, mg "_law_due" = some (.ref f) ∧ Fun K "_law_due" "_law_due" s__law_due f fd
  _law_rule : ∃ f fd, mg "_law_rule" = some (.ref f) ∧ Fun K "_law_rule" "_law_rule" s__law_rule f fd
  _law_right : ∃ f fd, mg "_law_right" = some (.ref f) ∧ Fun K "_law_right" "_law_right" s__law_right f fd
  law : ∃ f fd, mg "law" = some (.ref f) ∧ Fun K "law" "law" s_law f fd
theorem vac {f : Addr} {fd : FuncData} {ps : List Str} {n : Nat} (h : ps.length = n) : FnG P w K mg base 0 f fd ps (spM Y n fun _ _ => .stuck) := ⟨fun vs H Q E z => by rw [spM_len z, h], fun A outer s H args us vs Q _ _ _ _ _ ⟨F, as, S, ds, st, r, e, q⟩ => q.elim⟩
theorem bd_is_word {f : Addr} {fd : FuncData} (F : Fun K "is_word" "is_word" s_is_word f fd) : Binds K fd ["value"] [] := F.binds fun _ _ _ _ _ _ us hl => match us, hl with | [_], _ => rfl
theorem bd_is_integer {f : Addr} {fd : FuncData} (F : Fun K "is_integer" "is_integer" s_is_integer f fd) : Binds K fd ["value"] [] := F.binds fun _ _ _ _ _ _ us hl => match us, hl with | [_], _ => rfl
theorem bd_is_tuple_of {f : Addr} {fd : FuncData} (F : Fun K "is_tuple_of" "is_tuple_of" s_is_tuple_of f fd) : Binds K fd ["value", "length"] [] := F.binds fun _ _ _ _ _ _ us hl => match us, hl with | [_, _], _ => rfl
theorem bd_is_ascending {f : Addr} {fd : FuncData} (F : Fun K "is_ascending" "is_ascending" s_is_ascending f fd) : Binds K fd ["values"] [] := F.binds fun _ _ _ _ _ _ us hl => match us, hl with | [_], _ => rfl
theorem bd_is_rule {f : Addr} {fd : FuncData} (F : Fun K "is_rule" "is_rule" s_is_rule f fd) : Binds K fd ["value"] [] := F.binds fun _ _ _ _ _ _ us hl => match us, hl with | [_], _ => rfl
theorem bd__is_skipped {f : Addr} {fd : FuncData} (F : Fun K "_is_skipped" "_is_skipped" s__is_skipped f fd) : Binds K fd ["value"] [] := F.binds fun _ _ _ _ _ _ us hl => match us, hl with | [_], _ => rfl
theorem bd__law_pot {f : Addr} {fd : FuncData} (F : Fun K "_law_pot" "_law_pot" s__law_pot f fd) : Binds K fd ["_law_script", "_law_k"] [] := F.binds fun _ _ _ _ _ _ us hl => match us, hl with | [_, _], _ => rfl
theorem bd__law_take {f : Addr} {fd : FuncData} (F : Fun K "_law_take" "_law_take" s__law_take f fd) : Binds K fd ["_law_pot_here", "_law_upto"] [] := F.binds fun _ _ _ _ _ _ us hl => match us, hl with | [_, _], _ => rfl
theorem bd__law_of {f : Addr} {fd : FuncData} (F : Fun K "_law_of" "_law_of" s__law_of f fd) : Binds K fd ["_law_pot_here", "_law_some"] [] := F.binds fun _ _ _ _ _ _ us hl => match us, hl with | [_, _], _ => rfl
theorem bd__law_odd {f : Addr} {fd : FuncData} (F : Fun K "_law_odd" "_law_odd" s__law_odd f fd) : Binds K fd ["_law_pot_here", "_law_thing"] [] := F.binds fun _ _ _ _ _ _ us hl => match us, hl with | [_, _], _ => rfl
theorem bd__law_bent {f : Addr} {fd : FuncData} (F : Fun K "_law_bent" "_law_bent" s__law_bent f fd) : Binds K fd ["_law_pot_here", "_law_thing", "_law_deep"] [] := F.binds fun _ _ _ _ _ _ us hl => match us, hl with | [_, _, _], _ => rfl
theorem bd__law_is_word {f : Addr} {fd : FuncData} (F : Fun K "_law_is_word" "_law_is_word" s__law_is_word f fd) : Binds K fd ["_law_thing"] [] := F.binds fun _ _ _ _ _ _ us hl => match us, hl with | [_], _ => rfl
theorem bd__law_due {f : Addr} {fd : FuncData} (F : Fun K "_law_due" "_law_due" s__law_due f fd) : Binds K fd ["_law_thing"] [] := F.binds fun _ _ _ _ _ _ us hl => match us, hl with | [_], _ => rfl
theorem bd__law_rule {f : Addr} {fd : FuncData} (F : Fun K "_law_rule" "_law_rule" s__law_rule f fd) : Binds K fd ["_law_pot_here"] [] := F.binds fun _ _ _ _ _ _ us hl => match us, hl with | [_], _ => rfl
theorem bd__law_right {f : Addr} {fd : FuncData} (F : Fun K "_law_right" "_law_right" s__law_right f fd) : Binds K fd ["_law_pot_here"] [] := F.binds fun _ _ _ _ _ _ us hl => match us, hl with | [_], _ => rfl
theorem bd_law {f : Addr} {fd : FuncData} (F : Fun K "law" "law" s_law f fd) : Binds K fd ["_law_script"] [] := F.binds fun _ _ _ _ _ _ us hl => match us, hl with | [_], _ => rfl
theorem bk_is_rule {f : Addr} {fd : FuncData} (F : Fun K "is_rule" "is_rule" s_is_rule f fd) (s : Shared) (us : List Value) (hl : us.length = (["value"] : List Str).length) : BindsTo s fd ⟨[], (["value"] : List Str).zip us⟩ ((["value"] : List Str).zip us) := by
  obtain ⟨oc, od, kV, doc, pm, an, cdv, ct, osl, rfl, lk, hcd⟩ := F.ex
  exact .of_eq (match us, hl with | [_], _ => rfl)
theorem all_ok (hK : K = Y.K) (hw : w = Y.w) (sm : SysD base) (T : Facts mg) (D : Ds K mg) : ∀ k, Cs P w K mg base Y k (runF k)
  | 0 => {
    is_word := let ⟨f, fd, h1, h2⟩ := D.is_word; ⟨f, fd, _, h1, h2.kp, vac rfl, bd_is_word h2⟩
    is_integer := let ⟨f, fd, h1, h2⟩ := D.is_integer; ⟨f, fd, _, h1, h2.kp, vac rfl, bd_is_integer h2⟩
    is_tuple_of := let ⟨f, fd, h1, h2⟩ := D.is_tuple_of; ⟨f, fd, _, h1, h2.kp, vac rfl, bd_is_tuple_of h2⟩
    is_ascending := let ⟨f, fd, h1, h2⟩ := D.is_ascending; ⟨f, fd, _, h1, h2.kp, vac rfl, bd_is_ascending h2⟩
    is_rule := let ⟨f, fd, h1, h2⟩ := D.is_rule; ⟨f, fd, _, h1, h2.kp, vac rfl, bd_is_rule h2⟩
    _is_skipped := let ⟨f, fd, h1, h2⟩ := D._is_skipped; ⟨f, fd, _, h1, h2.kp, vac rfl, bd__is_skipped h2⟩
    _law_pot := let ⟨f, fd, h1, h2⟩ := D._law_pot; ⟨f, fd, _, h1, h2.kp, vac rfl, bd__law_pot h2⟩
    _law_take := let ⟨f, fd, h1, h2⟩ := D._law_take; ⟨f, fd, _, h1, h2.kp, vac rfl, bd__law_take h2⟩
    _law_of := let ⟨f, fd, h1, h2⟩ := D._law_of; ⟨f, fd, _, h1, h2.kp, vac rfl, bd__law_of h2⟩
    _law_odd := let ⟨f, fd, h1, h2⟩ := D._law_odd; ⟨f, fd, _, h1, h2.kp, vac rfl, bd__law_odd h2⟩
    _law_bent := let ⟨f, fd, h1, h2⟩ := D._law_bent; ⟨f, fd, _, h1, h2.kp, vac rfl, bd__law_bent h2⟩
    _law_is_word := let ⟨f, fd, h1, h2⟩ := D._law_is_word; ⟨f, fd, _, h1, h2.kp, vac rfl, bd__law_is_word h2⟩
    _law_due := let ⟨f, fd, h1, h2⟩ := D._law_due; ⟨f, fd, _, h1, h2.kp, vac rfl, bd__law_due h2⟩
    _law_rule := let ⟨f, fd, h1, h2⟩ := D._law_rule; ⟨f, fd, _, h1, h2.kp, vac rfl, bd__law_rule h2⟩
    _law_right := let ⟨f, fd, h1, h2⟩ := D._law_right; ⟨f, fd, _, h1, h2.kp, vac rfl, bd__law_right h2⟩
    law := let ⟨f, fd, h1, h2⟩ := D.law; ⟨f, fd, _, h1, h2.kp, vac rfl, bd_law h2⟩
    kis_rule := let ⟨f, fd, h1, h2⟩ := D.is_rule; ⟨f, fd, h1, h2.kp, vac rfl, bk_is_rule h2⟩
  }
  | k + 1 => have G := all_ok hK hw sm T D k; {
    is_word := let ⟨f, fd, h1, h2⟩ := D.is_word; ⟨f, fd, _, h1, h2.kp, fnG_of h2 sc_is_word rfl hK hw sm fun cdv A outer s H hr o => p_is_word T G hr o, bd_is_word h2⟩
    is_integer := let ⟨f, fd, h1, h2⟩ := D.is_integer; ⟨f, fd, _, h1, h2.kp, fnG_of h2 sc_is_integer rfl hK hw sm fun cdv A outer s H hr o => p_is_integer T G hr o, bd_is_integer h2⟩
    is_tuple_of := let ⟨f, fd, h1, h2⟩ := D.is_tuple_of; ⟨f, fd, _, h1, h2.kp, fnG_of h2 sc_is_tuple_of rfl hK hw sm fun cdv A outer s H hr o => p_is_tuple_of T G hr o, bd_is_tuple_of h2⟩
    is_ascending := let ⟨f, fd, h1, h2⟩ := D.is_ascending; ⟨f, fd, _, h1, h2.kp, fnG_of h2 sc_is_ascending rfl hK hw sm fun cdv A outer s H hr o => p_is_ascending T G hr o, bd_is_ascending h2⟩
    is_rule := let ⟨f, fd, h1, h2⟩ := D.is_rule; ⟨f, fd, _, h1, h2.kp, fnG_of h2 sc_is_rule rfl hK hw sm fun cdv A outer s H hr o => p_is_rule T G hr o, bd_is_rule h2⟩
    _is_skipped := let ⟨f, fd, h1, h2⟩ := D._is_skipped; ⟨f, fd, _, h1, h2.kp, fnG_of h2 sc__is_skipped rfl hK hw sm fun cdv A outer s H hr o => p__is_skipped T G hr o, bd__is_skipped h2⟩
    _law_pot := let ⟨f, fd, h1, h2⟩ := D._law_pot; ⟨f, fd, _, h1, h2.kp, fnG_of h2 sc__law_pot rfl hK hw sm fun cdv A outer s H hr o => p__law_pot T G hr o, bd__law_pot h2⟩
    _law_take := let ⟨f, fd, h1, h2⟩ := D._law_take; ⟨f, fd, _, h1, h2.kp, fnG_of h2 sc__law_take rfl hK hw sm fun cdv A outer s H hr o => p__law_take T G hr o, bd__law_take h2⟩
    _law_of := let ⟨f, fd, h1, h2⟩ := D._law_of; ⟨f, fd, _, h1, h2.kp, fnG_of h2 sc__law_of rfl hK hw sm fun cdv A outer s H hr o => p__law_of T G hr o, bd__law_of h2⟩
    _law_odd := let ⟨f, fd, h1, h2⟩ := D._law_odd; ⟨f, fd, _, h1, h2.kp, fnG_of h2 sc__law_odd rfl hK hw sm fun cdv A outer s H hr o => p__law_odd T G hr o, bd__law_odd h2⟩
    _law_bent := let ⟨f, fd, h1, h2⟩ := D._law_bent; ⟨f, fd, _, h1, h2.kp, fnG_of h2 sc__law_bent rfl hK hw sm fun cdv A outer s H hr o => p__law_bent T G hr o, bd__law_bent h2⟩
    _law_is_word := let ⟨f, fd, h1, h2⟩ := D._law_is_word; ⟨f, fd, _, h1, h2.kp, fnG_of h2 sc__law_is_word rfl hK hw sm fun cdv A outer s H hr o => p__law_is_word T G hr o, bd__law_is_word h2⟩
    _law_due := let ⟨f, fd, h1, h2⟩ := D._law_due; ⟨f, fd, _, h1, h2.kp, fnG_of h2 sc__law_due rfl hK hw sm fun cdv A outer s H hr o => p__law_due T G hr o, bd__law_due h2⟩
    _law_rule := let ⟨f, fd, h1, h2⟩ := D._law_rule; ⟨f, fd, _, h1, h2.kp, fnG_of h2 sc__law_rule rfl hK hw sm fun cdv A outer s H hr o => p__law_rule T G hr o, bd__law_rule h2⟩
    _law_right := let ⟨f, fd, h1, h2⟩ := D._law_right; ⟨f, fd, _, h1, h2.kp, fnG_of h2 sc__law_right rfl hK hw sm fun cdv A outer s H hr o => p__law_right T G hr o, bd__law_right h2⟩
    law := let ⟨f, fd, h1, h2⟩ := D.law; ⟨f, fd, _, h1, h2.kp, fnG_of h2 sc_law rfl hK hw sm fun cdv A outer s H hr o => p_law T G hr o, bd_law h2⟩
    kis_rule := let ⟨f, fd, h1, h2⟩ := D.is_rule; ⟨f, fd, h1, h2.kp, fnG_of h2 sc_is_rule rfl hK hw sm fun cdv A outer s H hr o => p_is_rule T G hr o, bk_is_rule h2⟩
  }
end
end K25

set_option Elab.async false
set_option linter.all false
set_option maxRecDepth 100000
set_option maxHeartbeats 1000000
set_option exponentiation.threshold 2000
namespace K25
open PySem L2 Rf
/-! ### draws -/
structure Pot (S : Sto) (p : Nat) (a b c : Int) : Prop where
  at_ : S[p]? = some (.lst [.int a, .int b, .int c])
  a0 : 0 ≤ a
  a1 : a.natAbs < 2 ^ 1000
  b0 : 0 ≤ b
  b1 : b < 2305843009213693952
  c0 : 0 ≤ c
theorem Pot.lt {S : Sto} {p : Nat} {a b c : Int} (h : Pot S p a b c) : p < S.length := (List.getElem?_eq_some_iff.mp h.at_).1
theorem Pot.set {S : Sto} {p : Nat} {a b c a' b' c' : Int} (h : Pot S p a b c) (a0 : 0 ≤ a') (a1 : a'.natAbs < 2 ^ 1000) (b0 : 0 ≤ b') (b1 : b' < 2305843009213693952) (c0 : 0 ≤ c') : Pot (S.set p (.lst [.int a', .int b', .int c'])) p a' b' c' :=
  ⟨by rw [List.getElem?_set_self h.lt], a0, a1, b0, b1, c0⟩
theorem at0 {a b c : D} : atI [a, b, c] 0 = some a := rfl
theorem at1 {a b c : D} : atI [a, b, c] 1 = some b := rfl
theorem at2 {a b c : D} : atI [a, b, c] 2 = some c := rfl
theorem okI_of {x : Int} {n : Nat} (h : x.natAbs < 2 ^ n) (h0 : 0 < n) (h1 : n ≤ 400000) : okI x = true := decide_eq_true (Nat.lt_of_lt_of_le (PySem.Flt.log2_lt_of h0 h) h1)
theorem five (k : Int) : ∃ z : Int, atI [D.int 2147483647, .int 2147483629, .int 2147483587, .int 2147483579, .int 2147483563] (k % 5) = some (.int z) ∧ 0 < z ∧ z < 2147483648 := by
  have h0 : 0 ≤ k % 5 := Int.emod_nonneg _ (by decide)
  have h1 : k % 5 < 5 := Int.emod_lt_of_pos _ (by decide)
  have h : k % 5 = 0 ∨ k % 5 = 1 ∨ k % 5 = 2 ∨ k % 5 = 3 ∨ k % 5 = 4 := by omega
  rcases h with e | e | e | e | e <;> rw [e]
  · exact ⟨_, rfl, by decide, by decide⟩
  · exact ⟨_, rfl, by decide, by decide⟩
  · exact ⟨_, rfl, by decide, by decide⟩
  · exact ⟨_, rfl, by decide, by decide⟩
  · exact ⟨_, rfl, by decide, by decide⟩
theorem log_n {n : Int} (n1 : n < 1000000) (n0 : 0 < n) : n.natAbs.log2 < 9000 := Nat.lt_of_lt_of_le (PySem.Flt.log2_lt_of (k := 20) (by decide) (show n.natAbs < 2 ^ 20 by omega)) (by decide)
theorem take1 {k p : Nat} {S : Sto} {a b c n : Int} (h : Pot S p a b c) (n0 : 0 < n) (n1 : n < 1000000) (ha : 0 < a) : runF (k + 1) 7 [.loc p, .int n] S = .ok (.int (a % n)) (S.set p (.lst [.int (a / n), .int b, .int c])) := by
  have hp := h.at_
  show runB 5 (b__law_take (runF k)) _ _ = _
  have h9 := log_n n1 n0
  have i0 : ixN 3 0 = some 0 := rfl
  simp only [b__law_take, runB, sNil, sSeq, sPass, sRet, sRetN, sExpr, sIf, sAsg, sPar, sFor, outI, forL, stepL, turnL, gV, gIx, gTp, gsCons, gsNil, mV, mC, mOp, mU, mA, mCons, mNil, mTup, mLst, mLstC, mDict0, mSl, mPart, mNoP, mB, mAnd, mOr, mNot, mAndV, mOrV, mNotV, mIf, mChain, mVal, mRange1, mRange2, mLc, mYes, bndI, wipeR, lcL, optR, Res.thn, Res.bnd, Res.out, Rf.cellOf, Rf.intOf, Rf.lstOf, seqOf, srcOf, free, dIx, dSl, dBack, dNeg, dUpper, dAdd, dSub, dMul, dMod, dDiv, dPow, cmpI, dLt, dLe, dGt, dGe, dEq, dNe, dIn, dNotIn, dIsN, dNotN, ofB, bIsi, bLen, lenOf, bInt, bAbs, bMax2, bMin2, bList, bTuple, bAllAny, bRepr, bSet, bSorted, tyOf, List.map_cons, List.map_nil, List.replicate, List.cons_append, List.nil_append, List.getElem?_cons_zero, List.getElem?_cons_succ, List.set_cons_zero, List.set_cons_succ, List.length_cons, List.length_nil, hp, at0, at1, at2, ha, decide_eq_true, n0, h9, i0, ↓reduceIte, and_self]
theorem take2 {k p : Nat} {S : Sto} {a b c n : Int} (h : Pot S p a b c) (n0 : 0 < n) (n1 : n < 1000000) (c1 : c < 1000000) (ha : ¬ 0 < a) : ∃ d, runF (k + 1) 7 [.loc p, .int n] S = .ok (.int d) (S.set p (.lst [.int a, .int b, .int (c + 1)])) ∧ 0 ≤ d ∧ d < n := by
  obtain ⟨hp, a0, a1, b0, b1, c0⟩ := id h
  obtain ⟨z5, h5, z0, z1⟩ := five (c + 1)
  have hp2 : (S.set p (.lst [.int a, .int b, .int (c + 1)]))[p]? = some (.lst [.int a, .int b, .int (c + 1)]) := List.getElem?_set_self h.lt
  have hF : decide (0 < a) = false := decide_eq_false ha
  have i2 : ixN 3 2 = some 2 := rfl
  have f5 : (0 : Int) < 5 := by decide
  have q0 : 0 ≤ (c + 1) * (c + 1) := Int.mul_nonneg (by omega) (by omega)
  have q1 : (c + 1) * (c + 1) ≤ 1000000 * 1000000 := Int.mul_le_mul (by omega) (by omega) (by omega) (by omega)
  have q2 : 98999 * (c + 1) * (c + 1) = 98999 * ((c + 1) * (c + 1)) := Int.mul_assoc _ _ _
  have k1 : okI 98999 = true := okI_of (n := 64) (by decide) (by decide) (by decide)
  have k2 : okI (c + 1) = true := okI_of (n := 64) (by omega) (by decide) (by decide)
  have k3 : okI (98999 * (c + 1)) = true := okI_of (n := 64) (by omega) (by decide) (by decide)
  have pw : (0 : Int) ≤ 3 ∧ (Builtin.Int.intBits (b + 98999 * (c + 1) * (c + 1) + 43) : Int) * 3 ≤ 2 ^ 27 := by
    refine ⟨by decide, ?_⟩
    have hb : Builtin.Int.intBits (b + 98999 * (c + 1) * (c + 1) + 43) ≤ 63 := by
      have y := PySem.Flt.log2_lt_of (k := 63) (by decide) (show (b + 98999 * (c + 1) * (c + 1) + 43).natAbs < 2 ^ 63 by rw [q2]; omega)
      unfold Builtin.Int.intBits
      split <;> omega
    omega
  have tt : (3 : Int).toNat = 3 := rfl
  generalize hbig : (b + 98999 * (c + 1) * (c + 1) + 43) ^ (3 : Int).toNat = big
  have m0 : 0 ≤ big % z5 := Int.emod_nonneg _ (by omega)
  have m1 : big % z5 < z5 := Int.emod_lt_of_pos _ z0
  have k4 : okI (big % z5) = true := okI_of (n := 64) (by omega) (by decide) (by decide)
  have k5 : okI 79 = true := okI_of (n := 64) (by decide) (by decide) (by decide)
  have r0 : 0 ≤ big % z5 % 10007 := Int.emod_nonneg _ (by decide)
  have r1 : big % z5 % 10007 < 10007 := Int.emod_lt_of_pos _ (by decide)
  have k6 : okI (big % z5 % 10007 + 79 * (c + 1)) = true := okI_of (n := 64) (by omega) (by decide) (by decide)
  have f1 : (0 : Int) < 10007 := by decide
  have f2 : (0 : Int) < 2305843009213693907 := by decide
  have f3 : (0 : Int) < 103 ∧ (103 : Int).natAbs.log2 < 9000 := by decide
  have few5 : few 5 = true := rfl
  refine ⟨big % z5 * (big % z5 % 10007 + 79 * (c + 1)) % 2305843009213693907 / 103 % n, ?_, Int.emod_nonneg _ (by omega), Int.emod_lt_of_pos _ n0⟩
  show runB 5 (b__law_take (runF k)) _ _ = _
  simp only [b__law_take, runB, sNil, sSeq, sPass, sRet, sRetN, sExpr, sIf, sAsg, sPar, sFor, outI, forL, stepL, turnL, gV, gIx, gTp, gsCons, gsNil, mV, mC, mOp, mU, mA, mCons, mNil, mTup, mLst, mLstC, mDict0, mSl, mPart, mNoP, mB, mAnd, mOr, mNot, mAndV, mOrV, mNotV, mIf, mChain, mVal, mRange1, mRange2, mLc, mYes, bndI, wipeR, lcL, optR, Res.thn, Res.bnd, Res.out, Rf.cellOf, Rf.intOf, Rf.lstOf, seqOf, srcOf, free, dIx, dSl, dBack, dNeg, dUpper, dAdd, dSub, dMul, dMod, dDiv, dPow, cmpI, dLt, dLe, dGt, dGe, dEq, dNe, dIn, dNotIn, dIsN, dNotN, ofB, bIsi, bLen, lenOf, bInt, bAbs, bMax2, bMin2, bList, bTuple, bAllAny, bRepr, bSet, bSorted, tyOf, List.map_cons, List.map_nil, List.replicate, List.cons_append, List.nil_append, List.getElem?_cons_zero, List.getElem?_cons_succ, List.set_cons_zero, List.set_cons_succ, List.length_cons, List.length_nil, hp, hp2, at0, at1, at2, hF, n0, i2, h5, z0, k1, k2, k3, k4, k5, k6, pw, f1, f2, f3, f5, hbig, Nat.reduceAdd, few5, Bool.false_eq_true, ↓reduceIte, and_self]
/-- a draw: a digit below n -/
theorem take_ok {k p : Nat} {S : Sto} {a b c n : Int} (h : Pot S p a b c) (n0 : 0 < n) (n1 : n < 1000000) (c1 : c < 1000000) : ∃ d a' c', runF (k + 1) 7 [.loc p, .int n] S = .ok (.int d) (S.set p (.lst [.int a', .int b, .int c'])) ∧ 0 ≤ d ∧ d < n ∧ Pot (S.set p (.lst [.int a', .int b, .int c'])) p a' b c' ∧ c' ≤ c + 1 := by
  obtain ⟨hp, a0, a1, b0, b1, c0⟩ := id h
  by_cases ha : 0 < a
  · have e0 : 0 ≤ a / n := Int.ediv_nonneg a0 (by omega)
    have e1 : a / n ≤ a := Int.ediv_le_self _ a0
    exact ⟨_, _, _, take1 h n0 n1 ha, Int.emod_nonneg _ (by omega), Int.emod_lt_of_pos _ n0, h.set e0 (by omega) b0 b1 c0, by omega⟩
  · obtain ⟨d, e, d0, d1⟩ := take2 (k := k) h n0 n1 c1 ha
    exact ⟨d, _, _, e, d0, d1, h.set a0 a1 b0 b1 (by omega), Int.le_refl _⟩
theorem atI_mem {α : Type} {xs : List α} {d : Int} (h0 : 0 ≤ d) (h1 : d < xs.length) : ∃ v, atI xs d = some v ∧ v ∈ xs := by
  obtain ⟨n, rfl⟩ := Int.eq_ofNat_of_zero_le h0
  have hn : n < xs.length := by omega
  exact ⟨xs[n], atI_nat (by rw [List.getElem?_eq_getElem hn]), List.getElem_mem hn⟩
/-- an item of a list -/
theorem of_ok {k p : Nat} {S : Sto} {a b c : Int} {xs : List D} (h : Pot S p a b c) (x0 : 0 < xs.length) (x1 : xs.length < 1000000) (c1 : c < 1000000) : ∃ v a' c', runF (k + 2) 8 [.loc p, .lst xs] S = .ok v (S.set p (.lst [.int a', .int b, .int c'])) ∧ v ∈ xs ∧ Pot (S.set p (.lst [.int a', .int b, .int c'])) p a' b c' ∧ c' ≤ c + 1 := by
  obtain ⟨d, a', c', e, d0, d1, P, hc⟩ := take_ok (k := k) (n := (xs.length : Int)) h (by omega) (by omega) c1
  obtain ⟨v, hv, hm⟩ := atI_mem (xs := xs) d0 d1
  refine ⟨v, a', c', ?_, hm, P, hc⟩
  show runB 2 (b__law_of (runF (k + 1))) _ _ = _
  simp only [b__law_of, runB, sNil, sSeq, sPass, sRet, sRetN, sExpr, sIf, sAsg, sPar, sFor, outI, forL, stepL, turnL, gV, gIx, gTp, gsCons, gsNil, mV, mC, mOp, mU, mA, mCons, mNil, mTup, mLst, mLstC, mDict0, mSl, mPart, mNoP, mB, mAnd, mOr, mNot, mAndV, mOrV, mNotV, mIf, mChain, mVal, mRange1, mRange2, mLc, mYes, bndI, wipeR, lcL, optR, Res.thn, Res.bnd, Res.out, Rf.cellOf, Rf.intOf, Rf.lstOf, seqOf, srcOf, free, dIx, dSl, dBack, dNeg, dUpper, dAdd, dSub, dMul, dMod, dDiv, dPow, cmpI, dLt, dLe, dGt, dGe, dEq, dNe, dIn, dNotIn, dIsN, dNotN, ofB, bIsi, bLen, lenOf, bInt, bAbs, bMax2, bMin2, bList, bTuple, bAllAny, bRepr, bSet, bSorted, tyOf, List.map_cons, List.map_nil, List.replicate, List.cons_append, List.nil_append, List.getElem?_cons_zero, List.getElem?_cons_succ, List.set_cons_zero, List.set_cons_succ, List.length_cons, List.length_nil, Option.map_some, e, hv]
theorem atI_map {ns : List Int} {j : Int} (h0 : 0 ≤ j) (h1 : j < ns.length) : ∃ x : Int, atI (ns.map D.int) j = some (.int x) := by
  obtain ⟨v, hv, hm⟩ := atI_mem (xs := ns.map D.int) h0 (by rw [List.length_map]; exact h1)
  obtain ⟨x, _, rfl⟩ := List.mem_map.mp hm
  exact ⟨x, hv⟩
theorem own_ok (x : Int) (q : Bool) : 0 ≤ x % ((10 : Int) ^ 60) ^ 5 ∧ (x % ((10 : Int) ^ 60) ^ 5).natAbs < 2 ^ 1000 ∧ 0 ≤ x % ((10 : Int) ^ 60) ^ 5 * (if q = true then 1 else 0) ∧ (x % ((10 : Int) ^ 60) ^ 5 * (if q = true then 1 else 0)).natAbs < 2 ^ 1000 := by
  have o0 : 0 ≤ x % ((10 : Int) ^ 60) ^ 5 := Int.emod_nonneg _ (by decide)
  have o1 : x % ((10 : Int) ^ 60) ^ 5 < ((10 : Int) ^ 60) ^ 5 := Int.emod_lt_of_pos _ (by decide)
  have o2 : (((10 : Int) ^ 60) ^ 5).natAbs < 2 ^ 1000 := by decide
  generalize (((10 : Int) ^ 60) ^ 5) = M at *
  generalize x % M = y at *
  have h : y.natAbs < 2 ^ 1000 := by omega
  cases q
  · simpa using ⟨o0, h⟩
  · simp only [if_true, Int.mul_one]
    exact ⟨o0, h, o0, h⟩
theorem pot_ok {k : Nat} {S : Sto} {ns : List Int} {j : Int} (hl : ns.length ≤ 63) (j0 : 0 ≤ j) (j1 : j < 100) : ∃ a b, runF (k + 1) 6 [.fro (ns.map D.int), .int j] S = .ok (.loc S.length) (S ++ [.lst [.int a, .int b, .int 0]]) ∧ Pot (S ++ [.lst [.int a, .int b, .int 0]]) S.length a b 0 := by
  have pot : ∀ cell : Int, ∃ a b, (Res.ok (D.loc S.length) (S ++ [.lst [.int (((if cell < 0 then -cell else cell) % ((10 : Int) ^ 60) ^ 5) * (if decide ((10 : Int) ^ 18 ≤ (if cell < 0 then -cell else cell)) = true then 1 else 0)), .int ((cell % 2305843009213693951 * 70913 + 6701 * j * j + 59) % 2305843009213693921), .int 0]])) = .ok (.loc S.length) (S ++ [.lst [.int a, .int b, .int 0]]) ∧ Pot (S ++ [.lst [.int a, .int b, .int 0]]) S.length a b 0 := fun cell => by
    refine ⟨_, _, rfl, by simp, (own_ok _ _).2.2.1, (own_ok _ _).2.2.2, Int.emod_nonneg _ (by decide), Int.lt_trans (Int.emod_lt_of_pos _ (by decide)) (by decide), by decide⟩
  have k1 : okI 70913 = true := okI_of (n := 64) (by decide) (by decide) (by decide)
  have k2 : okI 6701 = true := okI_of (n := 64) (by decide) (by decide) (by decide)
  have k3 : okI j = true := okI_of (n := 64) (by omega) (by decide) (by decide)
  have k4 : okI (6701 * j) = true := okI_of (n := 64) (by omega) (by decide) (by decide)
  have k5 : okI 41 = true := okI_of (n := 64) (by decide) (by decide) (by decide)
  have k6 : ∀ x : Int, okI (x % 2305843009213693951) = true := fun x => okI_of (n := 64) (by have := Int.emod_nonneg x (show (2305843009213693951 : Int) ≠ 0 by decide); have := Int.emod_lt_of_pos x (show (0 : Int) < 2305843009213693951 by decide); omega) (by decide) (by decide)
  have k7 : ∀ x : Int, okI (x % ((10 : Int) ^ 60) ^ 5) = true := fun x => okI_of (n := 1000) (own_ok x true).2.1 (by decide) (by decide)
  have k8 : ∀ q : Bool, okI (if q = true then 1 else 0) = true := fun q => by cases q <;> exact okI_of (n := 64) (by decide) (by decide) (by decide)
  have p1 : (0 : Int) ≤ 60 ∧ (Builtin.Int.intBits 10 : Int) * 60 ≤ 2 ^ 27 := by decide
  have p2 : (0 : Int) ≤ 5 ∧ (Builtin.Int.intBits ((10 : Int) ^ 60) : Int) * 5 ≤ 2 ^ 27 := by decide +kernel
  have p3 : (0 : Int) ≤ 18 ∧ (Builtin.Int.intBits 10 : Int) * 18 ≤ 2 ^ 27 := by decide
  have t1 : (60 : Int).toNat = 60 := rfl
  have t2 : (5 : Int).toNat = 5 := rfl
  have t3 : (18 : Int).toNat = 18 := rfl
  have f1 : (0 : Int) < ((10 : Int) ^ 60) ^ 5 := by decide
  have f2 : (0 : Int) < 2305843009213693951 := by decide
  have f3 : (0 : Int) < 2305843009213693921 := by decide
  have few3 : few 3 = true := rfl
  show ∃ a b, runB 5 (b__law_pot (runF k)) _ _ = _ ∧ _
  by_cases hj : j < ns.length
  · obtain ⟨x, hx⟩ := atI_map j0 hj
    obtain ⟨a, b, e, P⟩ := pot x
    refine ⟨a, b, ?_, P⟩
    rw [← e]
    have hd : decide (j < (ns.length : Int)) = true := decide_eq_true hj
    simp only [b__law_pot, runB, sNil, sSeq, sPass, sRet, sRetN, sExpr, sIf, sAsg, sPar, sFor, outI, forL, stepL, turnL, gV, gIx, gTp, gsCons, gsNil, mV, mC, mOp, mU, mA, mCons, mNil, mTup, mLst, mLstC, mDict0, mSl, mPart, mNoP, mB, mAnd, mOr, mNot, mAndV, mOrV, mNotV, mIf, mChain, mVal, mRange1, mRange2, mLc, mYes, bndI, wipeR, lcL, optR, Res.thn, Res.bnd, Res.out, Rf.cellOf, Rf.intOf, Rf.lstOf, seqOf, srcOf, free, dIx, dSl, dBack, dNeg, dUpper, dAdd, dSub, dMul, dMod, dDiv, dPow, cmpI, dLt, dLe, dGt, dGe, dEq, dNe, dIn, dNotIn, dIsN, dNotN, ofB, bIsi, bLen, lenOf, bInt, bAbs, bMax2, bMin2, bList, bTuple, bAllAny, bRepr, bSet, bSorted, tyOf, List.map_cons, List.map_nil, List.replicate, List.cons_append, List.nil_append, List.getElem?_cons_zero, List.getElem?_cons_succ, List.set_cons_zero, List.set_cons_succ, List.length_cons, List.length_nil, List.length_map, Option.map_some, hd, hx, k1, k2, k3, k4, k5, k6, k7, k8, p1, p2, p3, t1, t2, t3, f1, f2, f3, Nat.reduceAdd, few3, ↓reduceIte, and_self]
  · obtain ⟨a, b, e, P⟩ := pot (41 * j + 13)
    refine ⟨a, b, ?_, P⟩
    rw [← e]
    have hd : decide (j < (ns.length : Int)) = false := decide_eq_false hj
    simp only [b__law_pot, runB, sNil, sSeq, sPass, sRet, sRetN, sExpr, sIf, sAsg, sPar, sFor, outI, forL, stepL, turnL, gV, gIx, gTp, gsCons, gsNil, mV, mC, mOp, mU, mA, mCons, mNil, mTup, mLst, mLstC, mDict0, mSl, mPart, mNoP, mB, mAnd, mOr, mNot, mAndV, mOrV, mNotV, mIf, mChain, mVal, mRange1, mRange2, mLc, mYes, bndI, wipeR, lcL, optR, Res.thn, Res.bnd, Res.out, Rf.cellOf, Rf.intOf, Rf.lstOf, seqOf, srcOf, free, dIx, dSl, dBack, dNeg, dUpper, dAdd, dSub, dMul, dMod, dDiv, dPow, cmpI, dLt, dLe, dGt, dGe, dEq, dNe, dIn, dNotIn, dIsN, dNotN, ofB, bIsi, bLen, lenOf, bInt, bAbs, bMax2, bMin2, bList, bTuple, bAllAny, bRepr, bSet, bSorted, tyOf, List.map_cons, List.map_nil, List.replicate, List.cons_append, List.nil_append, List.getElem?_cons_zero, List.getElem?_cons_succ, List.set_cons_zero, List.set_cons_succ, List.length_cons, List.length_nil, List.length_map, Option.map_some, hd, k1, k2, k3, k4, k5, k6, k7, k8, p1, p2, p3, t1, t2, t3, f1, f2, f3, Nat.reduceAdd, few3, Bool.false_eq_true, ↓reduceIte, and_self]

end K25

set_option Elab.async false
set_option linter.all false
set_option maxRecDepth 100000
set_option maxHeartbeats 1000000
namespace K25
open PySem L2 Rf
/-- a word -/
def low (c : Nat) : Bool := decide (97 ≤ c) && decide (c ≤ 122)
def wordS (x : Str) : Bool := decide (1 ≤ x.length ∧ x.length ≤ 8) && x.cps.toList.all low
def lowD : D → Bool
  | .str z => low (z.cps.getD 0 0)
  | _ => false
theorem low_all (x : Str) : (x.cps.toList.map fun c => D.str ⟨#[c]⟩).all lowD = x.cps.toList.all low := by
  rw [List.all_map]
  rfl
theorem lt1 (a b : Nat) : decide (([a] : List Nat) < [b]) = decide (a < b) := by
  simp [List.cons_lt_cons_iff]
theorem isi_mem : ("str" ∈ kinds7) = True ∧ ("tuple" ∈ kinds7) = True ∧ ("int" ∈ kinds7) = True ∧ ("bool" ∈ kinds7) = True := by
  refine ⟨?_, ?_, ?_, ?_⟩ <;> exact eq_true (by decide)
theorem mem_str : ("str" ∈ kinds7) = True := isi_mem.1
theorem mem_tup : ("tuple" ∈ kinds7) = True := isi_mem.2.1
theorem mem_int : ("int" ∈ kinds7) = True := isi_mem.2.2.1
theorem mem_bool : ("bool" ∈ kinds7) = True := isi_mem.2.2.2
theorem word_no {k : Nat} {S : Sto} {d : D} {t : String} (ht : tyOf S d = some t) (hs : isa t "str" = false) : runF (k + 1) 0 [d] S = .ok (.bl false) S := by
  show runB 2 (b_is_word (runF k)) _ _ = _
  simp only [b_is_word, runB, sNil, sSeq, sPass, sRet, sRetN, sExpr, sIf, sAsg, sPar, sFor, outI, forL, stepL, turnL, gV, gIx, gTp, gsCons, gsNil, mV, mC, mOp, mU, mA, mCons, mNil, mTup, mLst, mLstC, mDict0, mSl, mPart, mNoP, mB, mAnd, mOr, mNot, mAndV, mOrV, mNotV, mIf, mChain, mVal, mRange1, mRange2, mLc, mYes, bndI, wipeR, lcL, optR, Res.thn, Res.bnd, Res.out, Rf.cellOf, Rf.intOf, Rf.lstOf, seqOf, srcOf, free, dIx, dSl, dBack, dNeg, dUpper, dAdd, dSub, dMul, dMod, dDiv, dPow, cmpI, dLt, dLe, dGt, dGe, dEq, dNe, dIn, dNotIn, dIsN, dNotN, ofB, bIsi, bLen, lenOf, bInt, bAbs, bMax2, bMin2, bList, bTuple, bAllAny, bRepr, bSet, bSorted, List.map_cons, List.map_nil, List.replicate, List.cons_append, List.nil_append, List.getElem?_cons_zero, List.getElem?_cons_succ, List.set_cons_zero, List.set_cons_succ, List.length_cons, List.length_nil, ht, hs, mem_str, Bool.not_false, ↓reduceIte]
theorem word_str {k : Nat} {S : Sto} {x : Str} (hf : few x.length = true) : runF (k + 1) 0 [.str x] S = .ok (.bl (wordS x)) S := by
  show runB 2 (b_is_word (runF k)) _ _ = _
  unfold b_is_word
  generalize hL : (mA (bAllAny fun bs => bs.all id) (mCons (mLc (mVal (mV 0)) (gV 1) mYes (mChain dLe dLe (mC (.str "a")) (mV 1) (mC (.str "z"))) (([("letter", 1)] : List (Str × Nat)).map (·.2))) mNil)) = L
  have hA : L [some (.str x), none] S = .ok (.bl (x.cps.toList.all low)) S := by
    rw [← hL, ← low_all]
    refine all_lc lowD rfl (by simp only [List.length_map]; have := of_decide_eq_true hf; exact this) fun d hd => ?_
    obtain ⟨c, _, rfl⟩ := List.mem_map.mp hd
    refine ⟨_, rfl, ?_⟩
    have e1 : ("a" : Str).cps.toList = [97] := by decide
    have e2 : ("z" : Str).cps.toList = [122] := by decide
    have e3 : (⟨#[c]⟩ : Str).cps.getD 0 0 = c := rfl
    simp only [runB, sNil, sSeq, sPass, sRet, sRetN, sExpr, sIf, sAsg, sPar, sFor, outI, forL, stepL, turnL, gV, gIx, gTp, gsCons, gsNil, mV, mC, mOp, mU, mA, mCons, mNil, mTup, mLst, mLstC, mDict0, mSl, mPart, mNoP, mB, mAnd, mOr, mNot, mAndV, mOrV, mNotV, mIf, mChain, mVal, mRange1, mRange2, mLc, mYes, bndI, wipeR, lcL, optR, Res.thn, Res.bnd, Res.out, Rf.cellOf, Rf.intOf, Rf.lstOf, seqOf, srcOf, free, dIx, dSl, dBack, dNeg, dUpper, dAdd, dSub, dMul, dMod, dDiv, dPow, cmpI, dLt, dLe, dGt, dGe, dEq, dNe, dIn, dNotIn, dIsN, dNotN, ofB, bIsi, bLen, lenOf, bInt, bAbs, bMax2, bMin2, bList, bTuple, bAllAny, bRepr, bSet, bSorted, tyOf, List.map_cons, List.map_nil, List.replicate, List.cons_append, List.nil_append, List.getElem?_cons_zero, List.getElem?_cons_succ, List.set_cons_zero, List.set_cons_succ, List.length_cons, List.length_nil, e1, e2, e3, lt1, lowD, low, Bool.not_eq_eq_eq_not]
    by_cases h1 : c < 97
    · have h2 : ¬ 97 ≤ c := by omega
      simp [h1, h2]
    · have h2 : 97 ≤ c := by omega
      by_cases h3 : 122 < c
      · have h4 : ¬ c ≤ 122 := by omega
        simp [h1, h2, h3, h4]
      · have h4 : c ≤ 122 := by omega
        simp [h1, h2, h3, h4]
  have hi : isa "str" "str" = true := by decide
  by_cases h1 : 1 ≤ x.length
  · have q1 : decide ((1 : Int) ≤ (x.length : Int)) = true := decide_eq_true (by omega)
    by_cases h2 : x.length ≤ 8
    · have q2 : decide ((x.length : Int) ≤ 8) = true := decide_eq_true (by omega)
      simp only [runB, sNil, sSeq, sPass, sRet, sRetN, sExpr, sIf, sAsg, sPar, sFor, outI, forL, stepL, turnL, gV, gIx, gTp, gsCons, gsNil, mV, mC, mOp, mU, mA, mCons, mNil, mTup, mLst, mLstC, mDict0, mSl, mPart, mNoP, mB, mAnd, mOr, mNot, mAndV, mOrV, mNotV, mIf, mChain, mVal, mRange1, mRange2, mLc, mYes, bndI, wipeR, lcL, optR, Res.thn, Res.bnd, Res.out, Rf.cellOf, Rf.intOf, Rf.lstOf, seqOf, srcOf, free, dIx, dSl, dBack, dNeg, dUpper, dAdd, dSub, dMul, dMod, dDiv, dPow, cmpI, dLt, dLe, dGt, dGe, dEq, dNe, dIn, dNotIn, dIsN, dNotN, ofB, bIsi, bLen, lenOf, bInt, bAbs, bMax2, bMin2, bList, bTuple, bAllAny, bRepr, bSet, bSorted, tyOf, List.map_cons, List.map_nil, List.replicate, List.cons_append, List.nil_append, List.getElem?_cons_zero, List.getElem?_cons_succ, List.set_cons_zero, List.set_cons_succ, List.length_cons, List.length_nil, hf, hi, mem_str, q1, q2, hA, wordS, h1, h2, and_self, decide_true, Bool.not_true, Bool.true_and, Bool.false_eq_true, ↓reduceIte]
    · have q2 : decide ((x.length : Int) ≤ 8) = false := decide_eq_false (by omega)
      simp only [runB, sNil, sSeq, sPass, sRet, sRetN, sExpr, sIf, sAsg, sPar, sFor, outI, forL, stepL, turnL, gV, gIx, gTp, gsCons, gsNil, mV, mC, mOp, mU, mA, mCons, mNil, mTup, mLst, mLstC, mDict0, mSl, mPart, mNoP, mB, mAnd, mOr, mNot, mAndV, mOrV, mNotV, mIf, mChain, mVal, mRange1, mRange2, mLc, mYes, bndI, wipeR, lcL, optR, Res.thn, Res.bnd, Res.out, Rf.cellOf, Rf.intOf, Rf.lstOf, seqOf, srcOf, free, dIx, dSl, dBack, dNeg, dUpper, dAdd, dSub, dMul, dMod, dDiv, dPow, cmpI, dLt, dLe, dGt, dGe, dEq, dNe, dIn, dNotIn, dIsN, dNotN, ofB, bIsi, bLen, lenOf, bInt, bAbs, bMax2, bMin2, bList, bTuple, bAllAny, bRepr, bSet, bSorted, tyOf, List.map_cons, List.map_nil, List.replicate, List.cons_append, List.nil_append, List.getElem?_cons_zero, List.getElem?_cons_succ, List.set_cons_zero, List.set_cons_succ, List.length_cons, List.length_nil, hf, hi, mem_str, q1, q2, hA, wordS, h1, h2, and_false, decide_false, Bool.not_true, Bool.not_false, Bool.false_and, Bool.false_eq_true, ↓reduceIte]
  · have q1 : decide ((1 : Int) ≤ (x.length : Int)) = false := decide_eq_false (by omega)
    simp only [runB, sNil, sSeq, sPass, sRet, sRetN, sExpr, sIf, sAsg, sPar, sFor, outI, forL, stepL, turnL, gV, gIx, gTp, gsCons, gsNil, mV, mC, mOp, mU, mA, mCons, mNil, mTup, mLst, mLstC, mDict0, mSl, mPart, mNoP, mB, mAnd, mOr, mNot, mAndV, mOrV, mNotV, mIf, mChain, mVal, mRange1, mRange2, mLc, mYes, bndI, wipeR, lcL, optR, Res.thn, Res.bnd, Res.out, Rf.cellOf, Rf.intOf, Rf.lstOf, seqOf, srcOf, free, dIx, dSl, dBack, dNeg, dUpper, dAdd, dSub, dMul, dMod, dDiv, dPow, cmpI, dLt, dLe, dGt, dGe, dEq, dNe, dIn, dNotIn, dIsN, dNotN, ofB, bIsi, bLen, lenOf, bInt, bAbs, bMax2, bMin2, bList, bTuple, bAllAny, bRepr, bSet, bSorted, tyOf, List.map_cons, List.map_nil, List.replicate, List.cons_append, List.nil_append, List.getElem?_cons_zero, List.getElem?_cons_succ, List.set_cons_zero, List.set_cons_succ, List.length_cons, List.length_nil, hf, hi, mem_str, q1, hA, wordS, h1, false_and, decide_false, Bool.not_true, Bool.not_false, Bool.false_and, Bool.false_eq_true, ↓reduceIte]
end K25

set_option Elab.async false
set_option linter.all false
set_option maxRecDepth 100000
set_option maxHeartbeats 1000000
namespace K25
open PySem L2 Rf
theorem strOk_at {x : Str} (h : PyData.strOk x = true) {c : Nat} (hc : c ∈ x.cps.toList) : PyData.strOk ⟨#[c]⟩ = true := by
  unfold PyData.strOk at h ⊢
  rw [← Array.all_toList] at h ⊢
  simpa using (List.all_eq_true.mp h) c hc
theorem letters_mem (c : Nat) : decide (c ∈ ("abcdefghijklmnopqrstuvwxyz" : Str).cps.toList) = low c := by
  have e : ("abcdefghijklmnopqrstuvwxyz" : Str).cps.toList = (List.range 26).map (· + 97) := by decide
  rw [e]
  by_cases h : 97 ≤ c ∧ c ≤ 122
  · have : c ∈ (List.range 26).map (· + 97) := List.mem_map.mpr ⟨c - 97, List.mem_range.mpr (by omega), by omega⟩
    rw [decide_eq_true this]
    simp [low, h.1, h.2]
  · have : ¬ c ∈ (List.range 26).map (· + 97) := fun hm => by
      obtain ⟨i, hi, e⟩ := List.mem_map.mp hm
      have := List.mem_range.mp hi
      omega
    rw [decide_eq_false this]
    by_cases h1 : 97 ≤ c
    · have h2 : ¬ c ≤ 122 := fun z => h ⟨h1, z⟩
      simp [low, h1, h2]
    · simp [low, h1]
theorem lword_no {k : Nat} {S : Sto} {d : D} {t : String} (ht : tyOf S d = some t) (hs : isa t "str" = false) : runF (k + 1) 11 [d] S = .ok (.bl false) S := by
  show runB 2 (b__law_is_word (runF k)) _ _ = _
  simp only [b__law_is_word, runB, sNil, sSeq, sPass, sRet, sRetN, sExpr, sIf, sAsg, sPar, sFor, outI, forL, stepL, turnL, gV, gIx, gTp, gsCons, gsNil, mV, mC, mOp, mU, mA, mCons, mNil, mTup, mLst, mLstC, mDict0, mSl, mPart, mNoP, mB, mAnd, mOr, mNot, mAndV, mOrV, mNotV, mIf, mChain, mVal, mRange1, mRange2, mLc, mYes, bndI, wipeR, lcL, optR, Res.thn, Res.bnd, Res.out, Rf.cellOf, Rf.intOf, Rf.lstOf, seqOf, srcOf, free, dIx, dSl, dBack, dNeg, dUpper, dAdd, dSub, dMul, dMod, dDiv, dPow, cmpI, dLt, dLe, dGt, dGe, dEq, dNe, dIn, dNotIn, dIsN, dNotN, ofB, bIsi, bLen, lenOf, bInt, bAbs, bMax2, bMin2, bList, bTuple, bAllAny, bRepr, bSet, bSorted, List.map_cons, List.map_nil, List.replicate, List.cons_append, List.nil_append, List.getElem?_cons_zero, List.getElem?_cons_succ, List.set_cons_zero, List.set_cons_succ, List.length_cons, List.length_nil, ht, hs, mem_str, Bool.not_false, ↓reduceIte]
theorem lword_str {k : Nat} {S : Sto} {x : Str} (hf : few x.length = true) (ho : PyData.strOk x = true) : runF (k + 1) 11 [.str x] S = .ok (.bl (wordS x)) S := by
  show runB 2 (b__law_is_word (runF k)) _ _ = _
  unfold b__law_is_word
  generalize hL : (mA (bAllAny fun bs => bs.all id) (mCons (mLc (mVal (mV 0)) (gV 1) mYes (mOp dIn (mV 1) (mC (.str "abcdefghijklmnopqrstuvwxyz"))) (([("_law_sign", 1)] : List (Str × Nat)).map (·.2))) mNil)) = L
  have hA : L [some (.str x), none] S = .ok (.bl (x.cps.toList.all low)) S := by
    rw [← hL, ← low_all]
    refine all_lc lowD rfl (by simp only [List.length_map]; have := of_decide_eq_true hf; exact this) fun d hd => ?_
    obtain ⟨c, hc, rfl⟩ := List.mem_map.mp hd
    refine ⟨_, rfl, ?_⟩
    have s1 := shP_str (S := S) (strOk_at ho hc)
    have s2 := shP_str (S := S) (x := "abcdefghijklmnopqrstuvwxyz") (by decide +kernel)
    have e3 : (⟨#[c]⟩ : Str).cps.getD 0 0 = c := rfl
    have e4 : (⟨#[c]⟩ : Str).cps.size = 1 := rfl
    simp only [runB, sNil, sSeq, sPass, sRet, sRetN, sExpr, sIf, sAsg, sPar, sFor, outI, forL, stepL, turnL, gV, gIx, gTp, gsCons, gsNil, mV, mC, mOp, mU, mA, mCons, mNil, mTup, mLst, mLstC, mDict0, mSl, mPart, mNoP, mB, mAnd, mOr, mNot, mAndV, mOrV, mNotV, mIf, mChain, mVal, mRange1, mRange2, mLc, mYes, bndI, wipeR, lcL, optR, Res.thn, Res.bnd, Res.out, Rf.cellOf, Rf.intOf, Rf.lstOf, seqOf, srcOf, free, dIx, dSl, dBack, dNeg, dUpper, dAdd, dSub, dMul, dMod, dDiv, dPow, cmpI, dLt, dLe, dGt, dGe, dEq, dNe, dIn, dNotIn, dIsN, dNotN, ofB, bIsi, bLen, lenOf, bInt, bAbs, bMax2, bMin2, bList, bTuple, bAllAny, bRepr, bSet, bSorted, tyOf, List.map_cons, List.map_nil, List.replicate, List.cons_append, List.nil_append, List.getElem?_cons_zero, List.getElem?_cons_succ, List.set_cons_zero, List.set_cons_succ, List.length_cons, List.length_nil, inD, s1, s2, e3, e4, lowD, letters_mem, ↓reduceIte]
  have hi : isa "str" "str" = true := by decide
  by_cases h1 : 1 ≤ x.length
  · have q1 : decide ((1 : Int) ≤ (x.length : Int)) = true := decide_eq_true (by omega)
    by_cases h2 : x.length ≤ 8
    · have q2 : decide ((x.length : Int) ≤ 8) = true := decide_eq_true (by omega)
      simp only [runB, sNil, sSeq, sPass, sRet, sRetN, sExpr, sIf, sAsg, sPar, sFor, outI, forL, stepL, turnL, gV, gIx, gTp, gsCons, gsNil, mV, mC, mOp, mU, mA, mCons, mNil, mTup, mLst, mLstC, mDict0, mSl, mPart, mNoP, mB, mAnd, mOr, mNot, mAndV, mOrV, mNotV, mIf, mChain, mVal, mRange1, mRange2, mLc, mYes, bndI, wipeR, lcL, optR, Res.thn, Res.bnd, Res.out, Rf.cellOf, Rf.intOf, Rf.lstOf, seqOf, srcOf, free, dIx, dSl, dBack, dNeg, dUpper, dAdd, dSub, dMul, dMod, dDiv, dPow, cmpI, dLt, dLe, dGt, dGe, dEq, dNe, dIn, dNotIn, dIsN, dNotN, ofB, bIsi, bLen, lenOf, bInt, bAbs, bMax2, bMin2, bList, bTuple, bAllAny, bRepr, bSet, bSorted, tyOf, List.map_cons, List.map_nil, List.replicate, List.cons_append, List.nil_append, List.getElem?_cons_zero, List.getElem?_cons_succ, List.set_cons_zero, List.set_cons_succ, List.length_cons, List.length_nil, hf, hi, mem_str, q1, q2, hA, wordS, h1, h2, and_self, decide_true, Bool.not_true, Bool.true_and, Bool.false_eq_true, ↓reduceIte]
    · have q2 : decide ((x.length : Int) ≤ 8) = false := decide_eq_false (by omega)
      simp only [runB, sNil, sSeq, sPass, sRet, sRetN, sExpr, sIf, sAsg, sPar, sFor, outI, forL, stepL, turnL, gV, gIx, gTp, gsCons, gsNil, mV, mC, mOp, mU, mA, mCons, mNil, mTup, mLst, mLstC, mDict0, mSl, mPart, mNoP, mB, mAnd, mOr, mNot, mAndV, mOrV, mNotV, mIf, mChain, mVal, mRange1, mRange2, mLc, mYes, bndI, wipeR, lcL, optR, Res.thn, Res.bnd, Res.out, Rf.cellOf, Rf.intOf, Rf.lstOf, seqOf, srcOf, free, dIx, dSl, dBack, dNeg, dUpper, dAdd, dSub, dMul, dMod, dDiv, dPow, cmpI, dLt, dLe, dGt, dGe, dEq, dNe, dIn, dNotIn, dIsN, dNotN, ofB, bIsi, bLen, lenOf, bInt, bAbs, bMax2, bMin2, bList, bTuple, bAllAny, bRepr, bSet, bSorted, tyOf, List.map_cons, List.map_nil, List.replicate, List.cons_append, List.nil_append, List.getElem?_cons_zero, List.getElem?_cons_succ, List.set_cons_zero, List.set_cons_succ, List.length_cons, List.length_nil, hf, hi, mem_str, q1, q2, hA, wordS, h1, h2, and_false, decide_false, Bool.not_true, Bool.not_false, Bool.false_and, Bool.false_eq_true, ↓reduceIte]
  · have q1 : decide ((1 : Int) ≤ (x.length : Int)) = false := decide_eq_false (by omega)
    simp only [runB, sNil, sSeq, sPass, sRet, sRetN, sExpr, sIf, sAsg, sPar, sFor, outI, forL, stepL, turnL, gV, gIx, gTp, gsCons, gsNil, mV, mC, mOp, mU, mA, mCons, mNil, mTup, mLst, mLstC, mDict0, mSl, mPart, mNoP, mB, mAnd, mOr, mNot, mAndV, mOrV, mNotV, mIf, mChain, mVal, mRange1, mRange2, mLc, mYes, bndI, wipeR, lcL, optR, Res.thn, Res.bnd, Res.out, Rf.cellOf, Rf.intOf, Rf.lstOf, seqOf, srcOf, free, dIx, dSl, dBack, dNeg, dUpper, dAdd, dSub, dMul, dMod, dDiv, dPow, cmpI, dLt, dLe, dGt, dGe, dEq, dNe, dIn, dNotIn, dIsN, dNotN, ofB, bIsi, bLen, lenOf, bInt, bAbs, bMax2, bMin2, bList, bTuple, bAllAny, bRepr, bSet, bSorted, tyOf, List.map_cons, List.map_nil, List.replicate, List.cons_append, List.nil_append, List.getElem?_cons_zero, List.getElem?_cons_succ, List.set_cons_zero, List.set_cons_succ, List.length_cons, List.length_nil, hf, hi, mem_str, q1, hA, wordS, h1, false_and, decide_false, Bool.not_true, Bool.not_false, Bool.false_and, Bool.false_eq_true, ↓reduceIte]
/-! ### places -/
def tyP : PyData → String
  | .none => "NoneType"
  | .bool _ => "bool"
  | .int _ => "int"
  | .str _ => "str"
  | .list _ => "list"
  | .tuple _ => "tuple"
  | .dict _ => "dict"
theorem tyOf_p {S : Sto} {p : PyData} : tyOf S (ofP p) = some (tyP p) := by
  cases p <;> rfl
def placeP : PyData → Bool
  | .int i => decide (0 ≤ i) && decide (i ≤ 5)
  | _ => false
def placeD : D → Bool
  | .int i => decide (0 ≤ i) && decide (i ≤ 5)
  | _ => false
theorem placeD_p (p : PyData) : placeD (ofP p) = placeP p := by
  cases p <;> rfl
theorem int_ok {k : Nat} {S : Sto} {p : PyData} : runF (k + 1) 1 [ofP p] S = .ok (.bl (match p with | .int _ => true | _ => false)) S := by
  show runB 1 (b_is_integer (runF k)) _ _ = _
  have ht := tyOf_p (S := S) (p := p)
  simp only [b_is_integer, runB, sNil, sSeq, sPass, sRet, sRetN, sExpr, sIf, sAsg, sPar, sFor, outI, forL, stepL, turnL, gV, gIx, gTp, gsCons, gsNil, mV, mC, mOp, mU, mA, mCons, mNil, mTup, mLst, mLstC, mDict0, mSl, mPart, mNoP, mB, mAnd, mOr, mNot, mAndV, mOrV, mNotV, mIf, mChain, mVal, mRange1, mRange2, mLc, mYes, bndI, wipeR, lcL, optR, Res.thn, Res.bnd, Res.out, Rf.cellOf, Rf.intOf, Rf.lstOf, seqOf, srcOf, free, dIx, dSl, dBack, dNeg, dUpper, dAdd, dSub, dMul, dMod, dDiv, dPow, cmpI, dLt, dLe, dGt, dGe, dEq, dNe, dIn, dNotIn, dIsN, dNotN, ofB, bIsi, bLen, lenOf, bInt, bAbs, bMax2, bMin2, bList, bTuple, bAllAny, bRepr, bSet, bSorted, List.map_cons, List.map_nil, List.replicate, List.cons_append, List.nil_append, List.getElem?_cons_zero, List.getElem?_cons_succ, List.set_cons_zero, List.set_cons_succ, List.length_cons, List.length_nil, ht, mem_int, mem_bool, ↓reduceIte]
  cases p <;> rfl
def is3 : PyData → Bool
  | .tuple ps => decide (ps.length = 3)
  | _ => false
theorem tupof_ok {k : Nat} {S : Sto} {p : PyData} : runF (k + 1) 2 [ofP p, .int 3] S = .ok (.bl (is3 p)) S := by
  show runB 2 (b_is_tuple_of (runF k)) _ _ = _
  have ht := tyOf_p (S := S) (p := p)
  cases p with
  | tuple ps =>
    have s1 : ∀ i : Int, shP S (.int i) = some (.int i) := fun i => shP_of (p := .int i) rfl
    have i1 : isa (tyP (.tuple ps)) "tuple" = true := (by decide : isa "tuple" "tuple" = true)
    have hl : (ofPs ps).length = ps.length := by rw [ofPs_map, List.length_map]
    have e : (PyData.eqv (.int (ps.length : Int)) (.int 3)) = decide (ps.length = 3) := by
      show ((ps.length : Int) == 3) = _
      by_cases h : ps.length = 3
      · rw [h]; rfl
      · rw [decide_eq_false h]
        exact beq_false_of_ne fun z => h (by omega)
    simp only [ofP] at ht ⊢
    simp only [b_is_tuple_of, runB, sNil, sSeq, sPass, sRet, sRetN, sExpr, sIf, sAsg, sPar, sFor, outI, forL, stepL, turnL, gV, gIx, gTp, gsCons, gsNil, mV, mC, mOp, mU, mA, mCons, mNil, mTup, mLst, mLstC, mDict0, mSl, mPart, mNoP, mB, mAnd, mOr, mNot, mAndV, mOrV, mNotV, mIf, mChain, mVal, mRange1, mRange2, mLc, mYes, bndI, wipeR, lcL, optR, Res.thn, Res.bnd, Res.out, Rf.cellOf, Rf.intOf, Rf.lstOf, seqOf, srcOf, free, dIx, dSl, dBack, dNeg, dUpper, dAdd, dSub, dMul, dMod, dDiv, dPow, cmpI, dLt, dLe, dGt, dGe, dEq, dNe, dIn, dNotIn, dIsN, dNotN, ofB, bIsi, bLen, lenOf, bInt, bAbs, bMax2, bMin2, bList, bTuple, bAllAny, bRepr, bSet, bSorted, List.map_cons, List.map_nil, List.replicate, List.cons_append, List.nil_append, List.getElem?_cons_zero, List.getElem?_cons_succ, List.set_cons_zero, List.set_cons_succ, List.length_cons, List.length_nil, ht, mem_tup, i1, Option.map_some, eqD, s1, hl, e, is3, ↓reduceIte]
  | _ =>
    simp only [b_is_tuple_of, runB, sNil, sSeq, sPass, sRet, sRetN, sExpr, sIf, sAsg, sPar, sFor, outI, forL, stepL, turnL, gV, gIx, gTp, gsCons, gsNil, mV, mC, mOp, mU, mA, mCons, mNil, mTup, mLst, mLstC, mDict0, mSl, mPart, mNoP, mB, mAnd, mOr, mNot, mAndV, mOrV, mNotV, mIf, mChain, mVal, mRange1, mRange2, mLc, mYes, bndI, wipeR, lcL, optR, Res.thn, Res.bnd, Res.out, Rf.cellOf, Rf.intOf, Rf.lstOf, seqOf, srcOf, free, dIx, dSl, dBack, dNeg, dUpper, dAdd, dSub, dMul, dMod, dDiv, dPow, cmpI, dLt, dLe, dGt, dGe, dEq, dNe, dIn, dNotIn, dIsN, dNotN, ofB, bIsi, bLen, lenOf, bInt, bAbs, bMax2, bMin2, bList, bTuple, bAllAny, bRepr, bSet, bSorted, List.map_cons, List.map_nil, List.replicate, List.cons_append, List.nil_append, List.getElem?_cons_zero, List.getElem?_cons_succ, List.set_cons_zero, List.set_cons_succ, List.length_cons, List.length_nil, ht, mem_tup, ↓reduceIte]
    rfl
end K25

set_option Elab.async false
set_option linter.all false
set_option maxRecDepth 100000
set_option maxHeartbeats 1000000
namespace K25
open PySem L2 Rf
/-! ### ascending, skipped -/
def upD (ns : List Int) : D → Bool
  | .int j => decide (ns.getD j.toNat 0 < ns.getD (j.toNat + 1) 0)
  | _ => false
theorem up_all (ns : List Int) : ((List.range (ns.length - 1)).map fun (i : Nat) => D.int (0 + (i : Int))).all (upD ns) = asc ns := by
  rw [asc_at, List.all_map]
  congr 1
  funext i
  show decide (ns.getD ((0 : Int) + (i : Int)).toNat 0 < ns.getD (((0 : Int) + (i : Int)).toNat + 1) 0) = _
  rw [show ((0 : Int) + (i : Int)).toNat = i by omega]
theorem int_at {ns : List Int} {i : Nat} (h : i < ns.length) : atI (ns.map D.int) (i : Int) = some (.int (ns.getD i 0)) := by
  refine atI_nat ?_
  rw [List.getElem?_map, List.getElem?_eq_getElem h, List.getD_eq_getElem?_getD, List.getElem?_eq_getElem h]
  rfl
theorem asc_ok {k : Nat} {S : Sto} {ns : List Int} (hl : ns.length ≤ 60) : runF (k + 1) 3 [.tup (ns.map D.int)] S = .ok (.bl (asc ns)) S := by
  show runB 2 (b_is_ascending (runF k)) _ _ = _
  unfold b_is_ascending
  generalize hL : (mA (bAllAny fun bs => bs.all id) (mCons (mLc (mRange1 (mCons (mOp dSub (mA bLen (mCons (mV 0) mNil)) (mC (.int 1))) mNil)) (gV 1) mYes (mOp dLt (mOp dIx (mV 0) (mV 1)) (mOp dIx (mV 0) (mOp dAdd (mV 1) (mC (.int 1))))) (([("at", 1)] : List (Str × Nat)).map (·.2))) mNil)) = L
  have hA : L [some (.tup (ns.map D.int)), none] S = .ok (.bl (asc ns)) S := by
    rw [← hL, ← up_all]
    have hr : -(2 ^ 62) ≤ (ns.length : Int) - 1 ∧ (ns.length : Int) - 1 < 2 ^ 62 := by omega
    have ht : ((ns.length : Int) - 1).toNat = ns.length - 1 := by omega
    refine all_lc (upD ns) ?_ (by rw [List.length_map, List.length_range]; omega) fun d hd => ?_
    · simp only [runB, sNil, sSeq, sPass, sRet, sRetN, sExpr, sIf, sAsg, sPar, sFor, outI, forL, stepL, turnL, gV, gIx, gTp, gsCons, gsNil, mV, mC, mOp, mU, mA, mCons, mNil, mTup, mLst, mLstC, mDict0, mSl, mPart, mNoP, mB, mAnd, mOr, mNot, mAndV, mOrV, mNotV, mIf, mChain, mVal, mRange1, mRange2, mLc, mYes, bndI, wipeR, lcL, optR, Res.thn, Res.bnd, Res.out, Rf.cellOf, Rf.intOf, Rf.lstOf, seqOf, srcOf, free, dIx, dSl, dBack, dNeg, dUpper, dAdd, dSub, dMul, dMod, dDiv, dPow, cmpI, dLt, dLe, dGt, dGe, dEq, dNe, dIn, dNotIn, dIsN, dNotN, ofB, bIsi, bLen, lenOf, bInt, bAbs, bMax2, bMin2, bList, bTuple, bAllAny, bRepr, bSet, bSorted, tyOf, List.map_cons, List.map_nil, List.replicate, List.cons_append, List.nil_append, List.getElem?_cons_zero, List.getElem?_cons_succ, List.set_cons_zero, List.set_cons_succ, List.length_cons, List.length_nil, List.length_map, Option.map_some, hr, ht, and_self, ↓reduceIte]
    · obtain ⟨i, hi, rfl⟩ := List.mem_map.mp hd
      have hi := List.mem_range.mp hi
      refine ⟨_, rfl, ?_⟩
      have e1 : (0 : Int) + (i : Int) = ((i : Nat) : Int) := by omega
      have e2 : (0 : Int) + (i : Int) + 1 = ((i + 1 : Nat) : Int) := by omega
      have e3 : ((0 : Int) + (i : Int)).toNat = i := by omega
      have a1 := int_at (ns := ns) (i := i) (by omega)
      have a2 := int_at (ns := ns) (i := i + 1) (by omega)
      rw [← e1] at a1
      rw [← e2] at a2
      simp only [runB, sNil, sSeq, sPass, sRet, sRetN, sExpr, sIf, sAsg, sPar, sFor, outI, forL, stepL, turnL, gV, gIx, gTp, gsCons, gsNil, mV, mC, mOp, mU, mA, mCons, mNil, mTup, mLst, mLstC, mDict0, mSl, mPart, mNoP, mB, mAnd, mOr, mNot, mAndV, mOrV, mNotV, mIf, mChain, mVal, mRange1, mRange2, mLc, mYes, bndI, wipeR, lcL, optR, Res.thn, Res.bnd, Res.out, Rf.cellOf, Rf.intOf, Rf.lstOf, seqOf, srcOf, free, dIx, dSl, dBack, dNeg, dUpper, dAdd, dSub, dMul, dMod, dDiv, dPow, cmpI, dLt, dLe, dGt, dGe, dEq, dNe, dIn, dNotIn, dIsN, dNotN, ofB, bIsi, bLen, lenOf, bInt, bAbs, bMax2, bMin2, bList, bTuple, bAllAny, bRepr, bSet, bSorted, tyOf, List.map_cons, List.map_nil, List.replicate, List.cons_append, List.nil_append, List.getElem?_cons_zero, List.getElem?_cons_succ, List.set_cons_zero, List.set_cons_succ, List.length_cons, List.length_nil, a1, a2, upD, e3]
  simp only [runB, sRet, hA, Res.out, List.map_cons, List.map_nil, List.replicate, List.cons_append, List.nil_append, List.getElem?_cons_zero, List.getElem?_cons_succ, List.set_cons_zero, List.set_cons_succ, List.length_cons, List.length_nil]
def intP : PyData → Int
  | .int i => i
  | _ => 0
def intsP (ps : List PyData) : List Int := ps.map intP
theorem ints_of : ∀ {ps : List PyData}, ps.all placeP = true → ofPs ps = (intsP ps).map D.int
  | [], _ => rfl
  | p :: ps, h => by
    rw [List.all_cons, Bool.and_eq_true] at h
    rw [ofPs, ints_of h.2]
    cases p with
    | int i => rfl
    | _ => exact absurd h.1 Bool.false_ne_true
def skP : PyData → Bool
  | .tuple ps => ps.all placeP && asc (intsP ps)
  | _ => false
def notLong : PyData → Bool
  | .tuple ps => decide (ps.length ≤ 60)
  | _ => true
theorem places_all (ps : List PyData) : (ofPs ps).all placeD = ps.all placeP := by
  rw [ofPs_map, List.all_map]
  congr 1
  funext p
  exact placeD_p p
theorem skip_ok {k : Nat} {S : Sto} {p : PyData} (h : notLong p = true) : runF (k + 2) 5 [ofP p] S = .ok (.bl (skP p)) S := by
  show runB 2 (b__is_skipped (runF (k + 1))) _ _ = _
  have ht := tyOf_p (S := S) (p := p)
  cases p with
  | tuple ps =>
    have h : ps.length ≤ 60 := of_decide_eq_true h
    have i1 : isa (tyP (.tuple ps)) "tuple" = true := (by decide : isa "tuple" "tuple" = true)
    simp only [ofP] at ht ⊢
    unfold b__is_skipped
    generalize hL : (mA (bAllAny fun bs => bs.all id) (mCons (mLc (mVal (mV 0)) (gV 1) mYes (mAndV (mA (runF (k + 1) 1) (mCons (mV 1) mNil)) (mChain dLe dLe (mC (.int 0)) (mV 1) (mC (.int 5)))) (([("place", 1)] : List (Str × Nat)).map (·.2))) mNil)) = L
    have hA : L [some (.tup (ofPs ps)), none] S = .ok (.bl (ps.all placeP)) S := by
      rw [← hL, ← places_all]
      refine all_lc placeD rfl (by rw [ofPs_map, List.length_map]; omega) fun d hd => ?_
      rw [ofPs_map] at hd
      obtain ⟨q, _, rfl⟩ := List.mem_map.mp hd
      refine ⟨_, rfl, ?_⟩
      have hq := int_ok (k := k) (S := S) (p := q)
      cases q with
      | int i =>
        simp only [ofP] at hq ⊢
        simp only [runB, sNil, sSeq, sPass, sRet, sRetN, sExpr, sIf, sAsg, sPar, sFor, outI, forL, stepL, turnL, gV, gIx, gTp, gsCons, gsNil, mV, mC, mOp, mU, mA, mCons, mNil, mTup, mLst, mLstC, mDict0, mSl, mPart, mNoP, mB, mAnd, mOr, mNot, mAndV, mOrV, mNotV, mIf, mChain, mVal, mRange1, mRange2, mLc, mYes, bndI, wipeR, lcL, optR, Res.thn, Res.bnd, Res.out, Rf.cellOf, Rf.intOf, Rf.lstOf, seqOf, srcOf, free, dIx, dSl, dBack, dNeg, dUpper, dAdd, dSub, dMul, dMod, dDiv, dPow, cmpI, dLt, dLe, dGt, dGe, dEq, dNe, dIn, dNotIn, dIsN, dNotN, ofB, bIsi, bLen, lenOf, bInt, bAbs, bMax2, bMin2, bList, bTuple, bAllAny, bRepr, bSet, bSorted, tyOf, List.map_cons, List.map_nil, List.replicate, List.cons_append, List.nil_append, List.getElem?_cons_zero, List.getElem?_cons_succ, List.set_cons_zero, List.set_cons_succ, List.length_cons, List.length_nil, hq, placeD, ↓reduceIte]
        by_cases h0 : 0 ≤ i
        · simp [h0]
        · simp [h0]
      | _ =>
        simp only [ofP] at hq ⊢
        simp only [runB, sNil, sSeq, sPass, sRet, sRetN, sExpr, sIf, sAsg, sPar, sFor, outI, forL, stepL, turnL, gV, gIx, gTp, gsCons, gsNil, mV, mC, mOp, mU, mA, mCons, mNil, mTup, mLst, mLstC, mDict0, mSl, mPart, mNoP, mB, mAnd, mOr, mNot, mAndV, mOrV, mNotV, mIf, mChain, mVal, mRange1, mRange2, mLc, mYes, bndI, wipeR, lcL, optR, Res.thn, Res.bnd, Res.out, Rf.cellOf, Rf.intOf, Rf.lstOf, seqOf, srcOf, free, dIx, dSl, dBack, dNeg, dUpper, dAdd, dSub, dMul, dMod, dDiv, dPow, cmpI, dLt, dLe, dGt, dGe, dEq, dNe, dIn, dNotIn, dIsN, dNotN, ofB, bIsi, bLen, lenOf, bInt, bAbs, bMax2, bMin2, bList, bTuple, bAllAny, bRepr, bSet, bSorted, tyOf, List.map_cons, List.map_nil, List.replicate, List.cons_append, List.nil_append, List.getElem?_cons_zero, List.getElem?_cons_succ, List.set_cons_zero, List.set_cons_succ, List.length_cons, List.length_nil, hq, placeD, Bool.false_eq_true, ↓reduceIte]
    by_cases hp : ps.all placeP = true
    · have e := ints_of hp
      have ha := asc_ok (k := k) (S := S) (ns := intsP ps) (by rw [intsP, List.length_map]; exact h)
      rw [← e] at ha
      simp only [runB, sNil, sSeq, sPass, sRet, sRetN, sExpr, sIf, sAsg, sPar, sFor, outI, forL, stepL, turnL, gV, gIx, gTp, gsCons, gsNil, mV, mC, mOp, mU, mA, mCons, mNil, mTup, mLst, mLstC, mDict0, mSl, mPart, mNoP, mB, mAnd, mOr, mNot, mAndV, mOrV, mNotV, mIf, mChain, mVal, mRange1, mRange2, mLc, mYes, bndI, wipeR, lcL, optR, Res.thn, Res.bnd, Res.out, Rf.cellOf, Rf.intOf, Rf.lstOf, seqOf, srcOf, free, dIx, dSl, dBack, dNeg, dUpper, dAdd, dSub, dMul, dMod, dDiv, dPow, cmpI, dLt, dLe, dGt, dGe, dEq, dNe, dIn, dNotIn, dIsN, dNotN, ofB, bIsi, bLen, lenOf, bInt, bAbs, bMax2, bMin2, bList, bTuple, bAllAny, bRepr, bSet, bSorted, List.map_cons, List.map_nil, List.replicate, List.cons_append, List.nil_append, List.getElem?_cons_zero, List.getElem?_cons_succ, List.set_cons_zero, List.set_cons_succ, List.length_cons, List.length_nil, ht, mem_tup, i1, hA, hp, ha, skP, Bool.not_true, Bool.true_and, Bool.false_eq_true, ↓reduceIte]
    · have hp := Bool.not_eq_true _ ▸ hp
      simp only [runB, sNil, sSeq, sPass, sRet, sRetN, sExpr, sIf, sAsg, sPar, sFor, outI, forL, stepL, turnL, gV, gIx, gTp, gsCons, gsNil, mV, mC, mOp, mU, mA, mCons, mNil, mTup, mLst, mLstC, mDict0, mSl, mPart, mNoP, mB, mAnd, mOr, mNot, mAndV, mOrV, mNotV, mIf, mChain, mVal, mRange1, mRange2, mLc, mYes, bndI, wipeR, lcL, optR, Res.thn, Res.bnd, Res.out, Rf.cellOf, Rf.intOf, Rf.lstOf, seqOf, srcOf, free, dIx, dSl, dBack, dNeg, dUpper, dAdd, dSub, dMul, dMod, dDiv, dPow, cmpI, dLt, dLe, dGt, dGe, dEq, dNe, dIn, dNotIn, dIsN, dNotN, ofB, bIsi, bLen, lenOf, bInt, bAbs, bMax2, bMin2, bList, bTuple, bAllAny, bRepr, bSet, bSorted, List.map_cons, List.map_nil, List.replicate, List.cons_append, List.nil_append, List.getElem?_cons_zero, List.getElem?_cons_succ, List.set_cons_zero, List.set_cons_succ, List.length_cons, List.length_nil, ht, mem_tup, i1, hA, hp, skP, Bool.not_true, Bool.not_false, Bool.false_and, Bool.false_eq_true, ↓reduceIte]
  | _ =>
    have i1 : ∀ t, t ≠ "tuple" → t ≠ "bool" → isa t "tuple" = false := fun t h1 h2 => by simp [isa, h1]
    simp only [b__is_skipped, runB, sNil, sSeq, sPass, sRet, sRetN, sExpr, sIf, sAsg, sPar, sFor, outI, forL, stepL, turnL, gV, gIx, gTp, gsCons, gsNil, mV, mC, mOp, mU, mA, mCons, mNil, mTup, mLst, mLstC, mDict0, mSl, mPart, mNoP, mB, mAnd, mOr, mNot, mAndV, mOrV, mNotV, mIf, mChain, mVal, mRange1, mRange2, mLc, mYes, bndI, wipeR, lcL, optR, Res.thn, Res.bnd, Res.out, Rf.cellOf, Rf.intOf, Rf.lstOf, seqOf, srcOf, free, dIx, dSl, dBack, dNeg, dUpper, dAdd, dSub, dMul, dMod, dDiv, dPow, cmpI, dLt, dLe, dGt, dGe, dEq, dNe, dIn, dNotIn, dIsN, dNotN, ofB, bIsi, bLen, lenOf, bInt, bAbs, bMax2, bMin2, bList, bTuple, bAllAny, bRepr, bSet, bSorted, List.map_cons, List.map_nil, List.replicate, List.cons_append, List.nil_append, List.getElem?_cons_zero, List.getElem?_cons_succ, List.set_cons_zero, List.set_cons_succ, List.length_cons, List.length_nil, ht, mem_tup, ↓reduceIte]
    rfl
end K25

set_option Elab.async false
set_option linter.all false
set_option maxRecDepth 100000
set_option maxHeartbeats 1000000
namespace K25
open PySem L2 Rf
/-! ### rules -/
def firstP : PyData → Bool
  | .str w => (("first" : Str) == w) || (("only" : Str) == w)
  | _ => false
def underP : PyData → Bool
  | .str u => (u == ("" : Str)) || wordS u
  | _ => false
def ruleP : PyData → Bool
  | .tuple [x, y, z] => firstP x && skP y && underP z
  | _ => false
/-- what stands first or last of three: plain, or {} -/
def endP (p : PyData) : Bool := (eqP p || match p with
  | .dict _ => true
  | _ => false) && match p with
  | .str x => few x.length && PyData.strOk x
  | _ => true
def goodP : PyData → Bool
  | .tuple [x, y, z] => endP x && notLong y && endP z
  | _ => true
theorem sh_two {S : Sto} : shP S (.tup [.str "first", .str "only"]) = some (.tuple [.str "first", .str "only"]) := shP_of (p := .tuple [.str "first", .str "only"]) (by decide +kernel)
theorem sh_no {S : Sto} : shP S (.str "") = some (.str "") := shP_of (p := .str "") (by decide +kernel)
theorem sh_dict {S : Sto} : shP S (.dk []) = none := by
  have e : toP S deep (.dk []) = some (.dict []) := toP_of S deep (.dict []) (by decide) (by decide)
  have h : SeqAt.shaped (.dict []) = false := by decide
  simp only [shP, e, h, Bool.false_eq_true, if_false]
theorem in_two {S : Sto} {p : PyData} (h : endP p = true) : inD S (ofP p) (.tup [.str "first", .str "only"]) = some (firstP p) := by
  simp only [endP, Bool.and_eq_true, Bool.or_eq_true] at h
  by_cases he : eqP p = true
  · simp only [inD, shP_of he, sh_two, List.any_cons, List.any_nil, Bool.or_false]
    cases p <;> simp [PyData.eqv, firstP]
  · cases p with
    | dict kvs =>
      simp only [ofP]
      simp only [inD, sh_dict, sh_two, isD, List.all_cons, List.all_nil, isS, Bool.and_self, if_true, firstP]
    | _ => exact absurd h.1 (by simp [he])
def isNo : PyData → Bool
  | .str u => u == ("" : Str)
  | _ => false
def wordP : PyData → Bool
  | .str u => wordS u
  | _ => false
theorem eq_no {S : Sto} {p : PyData} (h : endP p = true) : eqD S (ofP p) (.str "") = some (isNo p) := by
  simp only [endP, Bool.and_eq_true, Bool.or_eq_true] at h
  by_cases he : eqP p = true
  · simp only [eqD, shP_of he, sh_no]
    cases p <;> simp [PyData.eqv, isNo]
  · cases p with
    | dict kvs =>
      simp only [ofP]
      simp only [isNo, eqD, sh_dict, sh_no, isD, isS, Bool.and_self, if_true]
    | _ => exact absurd h.1 (by simp [he])
theorem not_str {p : PyData} (h : ∀ x, p ≠ .str x) : isa (tyP p) "str" = false := by
  cases p with
  | str x => exact absurd rfl (h x)
  | _ => simp only [tyP]; decide
theorem not_tup {p : PyData} (h : ∀ x, p ≠ .tuple x) : isa (tyP p) "tuple" = false := by
  cases p with
  | tuple x => exact absurd rfl (h x)
  | _ => simp only [tyP]; decide
theorem under_ok {k : Nat} {S : Sto} {p : PyData} (h : endP p = true) : runF (k + 1) 0 [ofP p] S = .ok (.bl (wordP p)) S := by
  cases p with
  | str u =>
    simp only [endP, Bool.and_eq_true] at h
    exact word_str h.2.1
  | _ => exact word_no tyOf_p (by simp only [tyP]; decide)
theorem rule_ok {k : Nat} {S : Sto} {p : PyData} (h : goodP p = true) : runF (k + 3) 4 [ofP p] S = .ok (.bl (ruleP p)) S := by
  have h3 := tupof_ok (k := k + 1) (S := S) (p := p)
  show runB 4 (b_is_rule (runF (k + 2))) _ _ = _
  by_cases hc : ∃ x y z, p = .tuple [x, y, z]
  · obtain ⟨x, y, z, rfl⟩ := hc
    simp only [goodP, Bool.and_eq_true] at h
    obtain ⟨⟨hx, hy⟩, hz⟩ := h
    have i2 := in_two (S := S) hx
    have q1 := skip_ok (k := k) (S := S) hy
    have e1 := eq_no (S := S) hz
    have u1 : runF (k + 2) 0 [ofP z] S = _ := under_ok (k := k + 1) (S := S) hz
    have few2 : few 2 = true := rfl
    have hd : is3 (.tuple [x, y, z]) = true := rfl
    simp only [hd, ofP, ofPs] at h3 ⊢
    have h3 : runF (k + 2) 2 [.tup [ofP x, ofP y, ofP z], .int 3] S = _ := h3
    simp only [b_is_rule, runB, sNil, sSeq, sPass, sRet, sRetN, sExpr, sIf, sAsg, sPar, sFor, outI, forL, stepL, turnL, gV, gIx, gTp, gsCons, gsNil, mV, mC, mOp, mU, mA, mCons, mNil, mTup, mLst, mLstC, mDict0, mSl, mPart, mNoP, mB, mAnd, mOr, mNot, mAndV, mOrV, mNotV, mIf, mChain, mVal, mRange1, mRange2, mLc, mYes, bndI, wipeR, lcL, optR, Res.thn, Res.bnd, Res.out, Rf.cellOf, Rf.intOf, Rf.lstOf, seqOf, srcOf, free, dIx, dSl, dBack, dNeg, dUpper, dAdd, dSub, dMul, dMod, dDiv, dPow, cmpI, dLt, dLe, dGt, dGe, dEq, dNe, dIn, dNotIn, dIsN, dNotN, ofB, bIsi, bLen, lenOf, bInt, bAbs, bMax2, bMin2, bList, bTuple, bAllAny, bRepr, bSet, bSorted, tyOf, List.map_cons, List.map_nil, List.replicate, List.cons_append, List.nil_append, List.getElem?_cons_zero, List.getElem?_cons_succ, List.set_cons_zero, List.set_cons_succ, List.length_cons, List.length_nil, h3, i2, q1, e1, u1, Nat.reduceAdd, few2, Bool.not_true, Bool.false_eq_true, ↓reduceIte]
    cases b1 : firstP x with
    | false => simp only [ruleP, b1, Bool.false_and, Bool.false_eq_true, ↓reduceIte]
    | true =>
      cases b2 : skP y with
      | false => simp only [ruleP, b1, b2, Bool.true_and, Bool.false_and, Bool.false_eq_true, ↓reduceIte]
      | true =>
        simp only [ruleP, b1, b2, Bool.true_and, ↓reduceIte]
        cases z with
        | str u =>
          simp only [underP, isNo, wordP]
          by_cases hq : (u == ("" : Str)) = true
          · simp only [hq, Bool.true_or, ↓reduceIte]
          · simp only [Bool.not_eq_true] at hq
            simp only [hq, Bool.false_or, Bool.false_eq_true, ↓reduceIte]
        | _ => simp only [underP, isNo, wordP, Bool.false_eq_true, ↓reduceIte]
  · have hr : ruleP p = false := by
      unfold ruleP
      split
      · rename_i x y z
        exact absurd ⟨x, y, z, rfl⟩ hc
      · rfl
    have h4 : is3 p = false := by
      cases p with
      | tuple ps =>
        refine decide_eq_false fun hl => hc ?_
        match ps, hl with
        | [x, y, z], _ => exact ⟨x, y, z, rfl⟩
      | _ => rfl
    rw [h4] at h3
    simp only [b_is_rule, runB, sNil, sSeq, sPass, sRet, sRetN, sExpr, sIf, sAsg, sPar, sFor, outI, forL, stepL, turnL, gV, gIx, gTp, gsCons, gsNil, mV, mC, mOp, mU, mA, mCons, mNil, mTup, mLst, mLstC, mDict0, mSl, mPart, mNoP, mB, mAnd, mOr, mNot, mAndV, mOrV, mNotV, mIf, mChain, mVal, mRange1, mRange2, mLc, mYes, bndI, wipeR, lcL, optR, Res.thn, Res.bnd, Res.out, Rf.cellOf, Rf.intOf, Rf.lstOf, seqOf, srcOf, free, dIx, dSl, dBack, dNeg, dUpper, dAdd, dSub, dMul, dMod, dDiv, dPow, cmpI, dLt, dLe, dGt, dGe, dEq, dNe, dIn, dNotIn, dIsN, dNotN, ofB, bIsi, bLen, lenOf, bInt, bAbs, bMax2, bMin2, bList, bTuple, bAllAny, bRepr, bSet, bSorted, tyOf, List.map_cons, List.map_nil, List.replicate, List.cons_append, List.nil_append, List.getElem?_cons_zero, List.getElem?_cons_succ, List.set_cons_zero, List.set_cons_succ, List.length_cons, List.length_nil, h3, hr, Bool.not_false, ↓reduceIte]
end K25

set_option Elab.async false
set_option linter.all false
set_option maxRecDepth 100000
set_option maxHeartbeats 1000000
namespace K25
open PySem L2 Rf
/-! ### what is due -/
theorem due_for {S : Sto} {t x z : D} {ps : List PyData} : ∃ x4, (sFor (mVal (mV 2)) (gV 4)
    (sIf (mOr (mNot (mB (mA bIsi (mCons (mV 4) (mCons (mC (.ty "int")) mNil))))) (mOr (mB (mA bIsi (mCons (mV 4) (mCons (mC (.ty "bool")) mNil)))) (mNot (mB (mChain dLe dLe (mC (.int 0)) (mV 4) (mC (.int 5)))))))
    (sRet (mC (.bl false)))
    sNil)) [some t, some x, some (.tup (ofPs ps)), some z, none] S = if ps.all placeP = true then .nx [some t, some x, some (.tup (ofPs ps)), some z, x4] S else .rt (.bl false) S := by
  have hi : isa "int" "int" = true := by decide
  have hj : isa "int" "bool" = false := by decide
  obtain ⟨ρ1, ⟨x4, rfl⟩, h⟩ := forL_pure (g := gV 4) (b := (sIf (mOr (mNot (mB (mA bIsi (mCons (mV 4) (mCons (mC (.ty "int")) mNil))))) (mOr (mB (mA bIsi (mCons (mV 4) (mCons (mC (.ty "bool")) mNil)))) (mNot (mB (mChain dLe dLe (mC (.int 0)) (mV 4) (mC (.int 5)))))))
    (sRet (mC (.bl false)))
    sNil)) (S := S) (p := placeD) (r := .bl false) (fun ρ => ∃ x4, ρ = [some t, some x, some (.tup (ofPs ps)), some z, x4]) (ds := ofPs ps) (ρ := [some t, some x, some (.tup (ofPs ps)), some z, none]) ⟨none, rfl⟩ fun d hd ρ hρ => by
    obtain ⟨x4, rfl⟩ := hρ
    rw [ofPs_map] at hd
    obtain ⟨q, _, rfl⟩ := List.mem_map.mp hd
    have ht := tyOf_p (S := S) (p := q)
    refine ⟨[some t, some x, some (.tup (ofPs ps)), some z, some (ofP q)], rfl, ⟨_, rfl⟩, ?_⟩
    cases q with
    | int i =>
      simp only [ofP, tyP] at ht ⊢
      by_cases h0 : 0 ≤ i
      · by_cases h5 : i ≤ 5
        · simp [runB, sNil, sSeq, sPass, sRet, sRetN, sExpr, sIf, sAsg, sPar, sFor, outI, forL, stepL, turnL, gV, gIx, gTp, gsCons, gsNil, mV, mC, mOp, mU, mA, mCons, mNil, mTup, mLst, mLstC, mDict0, mSl, mPart, mNoP, mB, mAnd, mOr, mNot, mAndV, mOrV, mNotV, mIf, mChain, mVal, mRange1, mRange2, mLc, mYes, bndI, wipeR, lcL, optR, Res.thn, Res.bnd, Res.out, Rf.cellOf, Rf.intOf, Rf.lstOf, seqOf, srcOf, free, dIx, dSl, dBack, dNeg, dUpper, dAdd, dSub, dMul, dMod, dDiv, dPow, cmpI, dLt, dLe, dGt, dGe, dEq, dNe, dIn, dNotIn, dIsN, dNotN, ofB, bIsi, bLen, lenOf, bInt, bAbs, bMax2, bMin2, bList, bTuple, bAllAny, bRepr, bSet, bSorted, List.map_cons, List.map_nil, List.replicate, List.cons_append, List.nil_append, List.getElem?_cons_zero, List.getElem?_cons_succ, List.set_cons_zero, List.set_cons_succ, List.length_cons, List.length_nil, ht, mem_int, mem_bool, hi, hj, placeD, h0, h5]
        · simp [runB, sNil, sSeq, sPass, sRet, sRetN, sExpr, sIf, sAsg, sPar, sFor, outI, forL, stepL, turnL, gV, gIx, gTp, gsCons, gsNil, mV, mC, mOp, mU, mA, mCons, mNil, mTup, mLst, mLstC, mDict0, mSl, mPart, mNoP, mB, mAnd, mOr, mNot, mAndV, mOrV, mNotV, mIf, mChain, mVal, mRange1, mRange2, mLc, mYes, bndI, wipeR, lcL, optR, Res.thn, Res.bnd, Res.out, Rf.cellOf, Rf.intOf, Rf.lstOf, seqOf, srcOf, free, dIx, dSl, dBack, dNeg, dUpper, dAdd, dSub, dMul, dMod, dDiv, dPow, cmpI, dLt, dLe, dGt, dGe, dEq, dNe, dIn, dNotIn, dIsN, dNotN, ofB, bIsi, bLen, lenOf, bInt, bAbs, bMax2, bMin2, bList, bTuple, bAllAny, bRepr, bSet, bSorted, List.map_cons, List.map_nil, List.replicate, List.cons_append, List.nil_append, List.getElem?_cons_zero, List.getElem?_cons_succ, List.set_cons_zero, List.set_cons_succ, List.length_cons, List.length_nil, ht, mem_int, mem_bool, hi, hj, placeD, h0, h5]
      · simp [runB, sNil, sSeq, sPass, sRet, sRetN, sExpr, sIf, sAsg, sPar, sFor, outI, forL, stepL, turnL, gV, gIx, gTp, gsCons, gsNil, mV, mC, mOp, mU, mA, mCons, mNil, mTup, mLst, mLstC, mDict0, mSl, mPart, mNoP, mB, mAnd, mOr, mNot, mAndV, mOrV, mNotV, mIf, mChain, mVal, mRange1, mRange2, mLc, mYes, bndI, wipeR, lcL, optR, Res.thn, Res.bnd, Res.out, Rf.cellOf, Rf.intOf, Rf.lstOf, seqOf, srcOf, free, dIx, dSl, dBack, dNeg, dUpper, dAdd, dSub, dMul, dMod, dDiv, dPow, cmpI, dLt, dLe, dGt, dGe, dEq, dNe, dIn, dNotIn, dIsN, dNotN, ofB, bIsi, bLen, lenOf, bInt, bAbs, bMax2, bMin2, bList, bTuple, bAllAny, bRepr, bSet, bSorted, List.map_cons, List.map_nil, List.replicate, List.cons_append, List.nil_append, List.getElem?_cons_zero, List.getElem?_cons_succ, List.set_cons_zero, List.set_cons_succ, List.length_cons, List.length_nil, ht, mem_int, mem_bool, hi, hj, placeD, h0]
    | bool c =>
      simp only [ofP, tyP] at ht ⊢
      have h1 : isa "bool" "int" = true := by decide
      have h2 : isa "bool" "bool" = true := by decide
      simp only [runB, sNil, sSeq, sPass, sRet, sRetN, sExpr, sIf, sAsg, sPar, sFor, outI, forL, stepL, turnL, gV, gIx, gTp, gsCons, gsNil, mV, mC, mOp, mU, mA, mCons, mNil, mTup, mLst, mLstC, mDict0, mSl, mPart, mNoP, mB, mAnd, mOr, mNot, mAndV, mOrV, mNotV, mIf, mChain, mVal, mRange1, mRange2, mLc, mYes, bndI, wipeR, lcL, optR, Res.thn, Res.bnd, Res.out, Rf.cellOf, Rf.intOf, Rf.lstOf, seqOf, srcOf, free, dIx, dSl, dBack, dNeg, dUpper, dAdd, dSub, dMul, dMod, dDiv, dPow, cmpI, dLt, dLe, dGt, dGe, dEq, dNe, dIn, dNotIn, dIsN, dNotN, ofB, bIsi, bLen, lenOf, bInt, bAbs, bMax2, bMin2, bList, bTuple, bAllAny, bRepr, bSet, bSorted, List.map_cons, List.map_nil, List.replicate, List.cons_append, List.nil_append, List.getElem?_cons_zero, List.getElem?_cons_succ, List.set_cons_zero, List.set_cons_succ, List.length_cons, List.length_nil, ht, mem_int, mem_bool, h1, h2, placeD, Bool.not_true, Bool.false_eq_true, ↓reduceIte]
    | none =>
      simp only [ofP, tyP] at ht ⊢
      have h1 : isa "NoneType" "int" = false := by decide
      simp only [runB, sNil, sSeq, sPass, sRet, sRetN, sExpr, sIf, sAsg, sPar, sFor, outI, forL, stepL, turnL, gV, gIx, gTp, gsCons, gsNil, mV, mC, mOp, mU, mA, mCons, mNil, mTup, mLst, mLstC, mDict0, mSl, mPart, mNoP, mB, mAnd, mOr, mNot, mAndV, mOrV, mNotV, mIf, mChain, mVal, mRange1, mRange2, mLc, mYes, bndI, wipeR, lcL, optR, Res.thn, Res.bnd, Res.out, Rf.cellOf, Rf.intOf, Rf.lstOf, seqOf, srcOf, free, dIx, dSl, dBack, dNeg, dUpper, dAdd, dSub, dMul, dMod, dDiv, dPow, cmpI, dLt, dLe, dGt, dGe, dEq, dNe, dIn, dNotIn, dIsN, dNotN, ofB, bIsi, bLen, lenOf, bInt, bAbs, bMax2, bMin2, bList, bTuple, bAllAny, bRepr, bSet, bSorted, List.map_cons, List.map_nil, List.replicate, List.cons_append, List.nil_append, List.getElem?_cons_zero, List.getElem?_cons_succ, List.set_cons_zero, List.set_cons_succ, List.length_cons, List.length_nil, ht, mem_int, mem_bool, h1, placeD, Bool.not_false, Bool.false_eq_true, ↓reduceIte]
    | str c =>
      simp only [ofP, tyP] at ht ⊢
      have h1 : isa "str" "int" = false := by decide
      simp only [runB, sNil, sSeq, sPass, sRet, sRetN, sExpr, sIf, sAsg, sPar, sFor, outI, forL, stepL, turnL, gV, gIx, gTp, gsCons, gsNil, mV, mC, mOp, mU, mA, mCons, mNil, mTup, mLst, mLstC, mDict0, mSl, mPart, mNoP, mB, mAnd, mOr, mNot, mAndV, mOrV, mNotV, mIf, mChain, mVal, mRange1, mRange2, mLc, mYes, bndI, wipeR, lcL, optR, Res.thn, Res.bnd, Res.out, Rf.cellOf, Rf.intOf, Rf.lstOf, seqOf, srcOf, free, dIx, dSl, dBack, dNeg, dUpper, dAdd, dSub, dMul, dMod, dDiv, dPow, cmpI, dLt, dLe, dGt, dGe, dEq, dNe, dIn, dNotIn, dIsN, dNotN, ofB, bIsi, bLen, lenOf, bInt, bAbs, bMax2, bMin2, bList, bTuple, bAllAny, bRepr, bSet, bSorted, List.map_cons, List.map_nil, List.replicate, List.cons_append, List.nil_append, List.getElem?_cons_zero, List.getElem?_cons_succ, List.set_cons_zero, List.set_cons_succ, List.length_cons, List.length_nil, ht, mem_int, mem_bool, h1, placeD, Bool.not_false, Bool.false_eq_true, ↓reduceIte]
    | list c =>
      simp only [ofP, tyP] at ht ⊢
      have h1 : isa "list" "int" = false := by decide
      simp only [runB, sNil, sSeq, sPass, sRet, sRetN, sExpr, sIf, sAsg, sPar, sFor, outI, forL, stepL, turnL, gV, gIx, gTp, gsCons, gsNil, mV, mC, mOp, mU, mA, mCons, mNil, mTup, mLst, mLstC, mDict0, mSl, mPart, mNoP, mB, mAnd, mOr, mNot, mAndV, mOrV, mNotV, mIf, mChain, mVal, mRange1, mRange2, mLc, mYes, bndI, wipeR, lcL, optR, Res.thn, Res.bnd, Res.out, Rf.cellOf, Rf.intOf, Rf.lstOf, seqOf, srcOf, free, dIx, dSl, dBack, dNeg, dUpper, dAdd, dSub, dMul, dMod, dDiv, dPow, cmpI, dLt, dLe, dGt, dGe, dEq, dNe, dIn, dNotIn, dIsN, dNotN, ofB, bIsi, bLen, lenOf, bInt, bAbs, bMax2, bMin2, bList, bTuple, bAllAny, bRepr, bSet, bSorted, List.map_cons, List.map_nil, List.replicate, List.cons_append, List.nil_append, List.getElem?_cons_zero, List.getElem?_cons_succ, List.set_cons_zero, List.set_cons_succ, List.length_cons, List.length_nil, ht, mem_int, mem_bool, h1, placeD, Bool.not_false, Bool.false_eq_true, ↓reduceIte]
    | tuple c =>
      simp only [ofP, tyP] at ht ⊢
      have h1 : isa "tuple" "int" = false := by decide
      simp only [runB, sNil, sSeq, sPass, sRet, sRetN, sExpr, sIf, sAsg, sPar, sFor, outI, forL, stepL, turnL, gV, gIx, gTp, gsCons, gsNil, mV, mC, mOp, mU, mA, mCons, mNil, mTup, mLst, mLstC, mDict0, mSl, mPart, mNoP, mB, mAnd, mOr, mNot, mAndV, mOrV, mNotV, mIf, mChain, mVal, mRange1, mRange2, mLc, mYes, bndI, wipeR, lcL, optR, Res.thn, Res.bnd, Res.out, Rf.cellOf, Rf.intOf, Rf.lstOf, seqOf, srcOf, free, dIx, dSl, dBack, dNeg, dUpper, dAdd, dSub, dMul, dMod, dDiv, dPow, cmpI, dLt, dLe, dGt, dGe, dEq, dNe, dIn, dNotIn, dIsN, dNotN, ofB, bIsi, bLen, lenOf, bInt, bAbs, bMax2, bMin2, bList, bTuple, bAllAny, bRepr, bSet, bSorted, List.map_cons, List.map_nil, List.replicate, List.cons_append, List.nil_append, List.getElem?_cons_zero, List.getElem?_cons_succ, List.set_cons_zero, List.set_cons_succ, List.length_cons, List.length_nil, ht, mem_int, mem_bool, h1, placeD, Bool.not_false, Bool.false_eq_true, ↓reduceIte]
    | dict c =>
      simp only [ofP, tyP] at ht ⊢
      have h1 : isa "dict" "int" = false := by decide
      simp only [runB, sNil, sSeq, sPass, sRet, sRetN, sExpr, sIf, sAsg, sPar, sFor, outI, forL, stepL, turnL, gV, gIx, gTp, gsCons, gsNil, mV, mC, mOp, mU, mA, mCons, mNil, mTup, mLst, mLstC, mDict0, mSl, mPart, mNoP, mB, mAnd, mOr, mNot, mAndV, mOrV, mNotV, mIf, mChain, mVal, mRange1, mRange2, mLc, mYes, bndI, wipeR, lcL, optR, Res.thn, Res.bnd, Res.out, Rf.cellOf, Rf.intOf, Rf.lstOf, seqOf, srcOf, free, dIx, dSl, dBack, dNeg, dUpper, dAdd, dSub, dMul, dMod, dDiv, dPow, cmpI, dLt, dLe, dGt, dGe, dEq, dNe, dIn, dNotIn, dIsN, dNotN, ofB, bIsi, bLen, lenOf, bInt, bAbs, bMax2, bMin2, bList, bTuple, bAllAny, bRepr, bSet, bSorted, List.map_cons, List.map_nil, List.replicate, List.cons_append, List.nil_append, List.getElem?_cons_zero, List.getElem?_cons_succ, List.set_cons_zero, List.set_cons_succ, List.length_cons, List.length_nil, ht, mem_int, mem_bool, h1, placeD, Bool.not_false, Bool.false_eq_true, ↓reduceIte]
  refine ⟨x4, ?_⟩
  rw [places_all] at h
  exact h
theorem lunder_ok {k : Nat} {S : Sto} {p : PyData} (h : endP p = true) : runF (k + 1) 11 [ofP p] S = .ok (.bl (wordP p)) S := by
  cases p with
  | str u =>
    simp only [endP, Bool.and_eq_true] at h
    exact lword_str h.2.1 h.2.2
  | _ => exact lword_no tyOf_p (by simp only [tyP]; decide)
theorem ruleP_no {p : PyData} (hc : ¬ ∃ x y z, p = .tuple [x, y, z]) : ruleP p = false := by
  unfold ruleP
  split
  · rename_i x y z
    exact absurd ⟨x, y, z, rfl⟩ hc
  · rfl
theorem due_ok {k : Nat} {S : Sto} {p : PyData} (h : goodP p = true) : runF (k + 2) 12 [ofP p] S = .ok (.bl (ruleP p)) S := by
  have ht := tyOf_p (S := S) (p := p)
  have hs : isa "str" "str" = true := by decide
  have htt : isa "tuple" "tuple" = true := by decide
  show runB 5 (b__law_due (runF (k + 1))) _ _ = _
  by_cases hc : ∃ x y z, p = .tuple [x, y, z]
  · obtain ⟨x, y, z, rfl⟩ := hc
    simp only [goodP, Bool.and_eq_true] at h
    obtain ⟨⟨hx, hy⟩, hz⟩ := h
    have n3 : neD S (.int ((3 : Nat) : Int)) (.int 3) = some false := ne_nat (S := S) (a := 3) (b := 3)
    have few2 : few 2 = true := rfl
    have i0 : ∀ a b c : D, atI [a, b, c] 0 = some a := fun _ _ _ => rfl
    have hT : ∀ ds : List D, tyOf S (.tup ds) = some "tuple" := fun _ => rfl
    have tx := tyOf_p (S := S) (p := x)
    by_cases hw : ∃ w, x = .str w
    · obtain ⟨w, rfl⟩ := hw
      have i2 := in_two (S := S) hx
      simp only [ofP, ofPs, tyP] at tx i2 ⊢
      by_cases b1 : firstP (.str w) = true
      · rw [b1] at i2
        by_cases hyt : ∃ ps, y = .tuple ps
        · obtain ⟨ps, rfl⟩ := hyt
          have hl : ps.length ≤ 60 := of_decide_eq_true hy
          have ty := tyOf_p (S := S) (p := .tuple ps)
          obtain ⟨x4, hF⟩ := due_for (S := S) (t := .tup [.str w, .tup (ofPs ps), ofP z]) (x := .str w) (z := ofP z) (ps := ps)
          have e1 := eq_no (S := S) hz
          have u1 := lunder_ok (k := k) (S := S) hz
          have tz := tyOf_p (S := S) (p := z)
          simp only [ofP, tyP] at ty ⊢
          unfold b__law_due
          generalize hL : (sFor (mVal (mV 2)) (gV 4)
    (sIf (mOr (mNot (mB (mA bIsi (mCons (mV 4) (mCons (mC (.ty "int")) mNil))))) (mOr (mB (mA bIsi (mCons (mV 4) (mCons (mC (.ty "bool")) mNil)))) (mNot (mB (mChain dLe dLe (mC (.int 0)) (mV 4) (mC (.int 5)))))))
    (sRet (mC (.bl false)))
    sNil)) = L at hF
          by_cases hp : ps.all placeP = true
          · rw [hp] at hF
            simp only [if_true] at hF
            have e := ints_of hp
            have hn : (intsP ps).length ≤ 60 := by rw [intsP, List.length_map]; exact hl
            have ho : intsOf (ofPs ps) = some (intsP ps) := by rw [e]; exact intsOf_map _
            have n4 : neD S (.lst (ofPs ps)) (.lst ((srtI (intsP ps)).map D.int)) = some (!asc (intsP ps)) := by rw [e]; exact ne_srt hn
            by_cases ha : asc (intsP ps) = true
            · rw [ha] at n4
              have hr : ruleP (.tuple [.str w, .tuple ps, z]) = underP z := by simp only [ruleP, b1, skP, hp, ha, Bool.true_and]
              rw [hr]
              simp only [runB, sNil, sSeq, sPass, sRet, sRetN, sExpr, sIf, sAsg, sPar, sFor, outI, forL, stepL, turnL, gV, gIx, gTp, gsCons, gsNil, mV, mC, mOp, mU, mA, mCons, mNil, mTup, mLst, mLstC, mDict0, mSl, mPart, mNoP, mB, mAnd, mOr, mNot, mAndV, mOrV, mNotV, mIf, mChain, mVal, mRange1, mRange2, mLc, mYes, bndI, wipeR, lcL, optR, Res.thn, Res.bnd, Res.out, Rf.cellOf, Rf.intOf, Rf.lstOf, seqOf, srcOf, free, dIx, dSl, dBack, dNeg, dUpper, dAdd, dSub, dMul, dMod, dDiv, dPow, cmpI, dLt, dLe, dGt, dGe, dEq, dNe, dIn, dNotIn, dIsN, dNotN, ofB, bIsi, bLen, lenOf, bInt, bAbs, bMax2, bMin2, bList, bTuple, bAllAny, bRepr, bSet, bSorted, List.map_cons, List.map_nil, List.replicate, List.cons_append, List.nil_append, List.getElem?_cons_zero, List.getElem?_cons_succ, List.set_cons_zero, List.set_cons_succ, List.length_cons, List.length_nil, hT, tx, ty, tz, mem_tup, mem_str, hs, htt, n3, i0, i2, hF, ho, hn, n4, e1, u1, Nat.reduceAdd, few2, Option.map_some, Bool.not_true, Bool.not_false, decide_true, Bool.false_eq_true, ↓reduceIte]
              cases z with
              | str u =>
                simp only [underP, isNo, wordP, tyP, hs, ↓reduceIte]
                by_cases hq : (u == ("" : Str)) = true
                · simp only [hq, Bool.true_or, ↓reduceIte]
                · simp only [Bool.not_eq_true] at hq
                  simp only [hq, Bool.false_or, Bool.false_eq_true, ↓reduceIte]
              | _ =>
                rw [not_str (by rintro x h; cases h)]
                simp only [underP, Bool.false_eq_true, ↓reduceIte]
            · simp only [Bool.not_eq_true] at ha
              rw [ha] at n4
              have hr : ruleP (.tuple [.str w, .tuple ps, z]) = false := by simp only [ruleP, b1, skP, hp, ha, Bool.true_and, Bool.false_and]
              rw [hr]
              simp only [runB, sNil, sSeq, sPass, sRet, sRetN, sExpr, sIf, sAsg, sPar, sFor, outI, forL, stepL, turnL, gV, gIx, gTp, gsCons, gsNil, mV, mC, mOp, mU, mA, mCons, mNil, mTup, mLst, mLstC, mDict0, mSl, mPart, mNoP, mB, mAnd, mOr, mNot, mAndV, mOrV, mNotV, mIf, mChain, mVal, mRange1, mRange2, mLc, mYes, bndI, wipeR, lcL, optR, Res.thn, Res.bnd, Res.out, Rf.cellOf, Rf.intOf, Rf.lstOf, seqOf, srcOf, free, dIx, dSl, dBack, dNeg, dUpper, dAdd, dSub, dMul, dMod, dDiv, dPow, cmpI, dLt, dLe, dGt, dGe, dEq, dNe, dIn, dNotIn, dIsN, dNotN, ofB, bIsi, bLen, lenOf, bInt, bAbs, bMax2, bMin2, bList, bTuple, bAllAny, bRepr, bSet, bSorted, List.map_cons, List.map_nil, List.replicate, List.cons_append, List.nil_append, List.getElem?_cons_zero, List.getElem?_cons_succ, List.set_cons_zero, List.set_cons_succ, List.length_cons, List.length_nil, hT, tx, ty, tz, mem_tup, mem_str, hs, htt, n3, i0, i2, hF, ho, hn, n4, e1, u1, Nat.reduceAdd, few2, Option.map_some, Bool.not_true, Bool.not_false, decide_true, Bool.false_eq_true, ↓reduceIte]
          · simp only [hp] at hF
            simp only [Bool.not_eq_true] at hp
            have hr : ruleP (.tuple [.str w, .tuple ps, z]) = false := by simp only [ruleP, b1, skP, hp, Bool.true_and, Bool.false_and]
            rw [hr]
            simp only [runB, sNil, sSeq, sPass, sRet, sRetN, sExpr, sIf, sAsg, sPar, sFor, outI, forL, stepL, turnL, gV, gIx, gTp, gsCons, gsNil, mV, mC, mOp, mU, mA, mCons, mNil, mTup, mLst, mLstC, mDict0, mSl, mPart, mNoP, mB, mAnd, mOr, mNot, mAndV, mOrV, mNotV, mIf, mChain, mVal, mRange1, mRange2, mLc, mYes, bndI, wipeR, lcL, optR, Res.thn, Res.bnd, Res.out, Rf.cellOf, Rf.intOf, Rf.lstOf, seqOf, srcOf, free, dIx, dSl, dBack, dNeg, dUpper, dAdd, dSub, dMul, dMod, dDiv, dPow, cmpI, dLt, dLe, dGt, dGe, dEq, dNe, dIn, dNotIn, dIsN, dNotN, ofB, bIsi, bLen, lenOf, bInt, bAbs, bMax2, bMin2, bList, bTuple, bAllAny, bRepr, bSet, bSorted, List.map_cons, List.map_nil, List.replicate, List.cons_append, List.nil_append, List.getElem?_cons_zero, List.getElem?_cons_succ, List.set_cons_zero, List.set_cons_succ, List.length_cons, List.length_nil, hT, tx, ty, mem_tup, mem_str, hs, htt, n3, i0, i2, hF, Nat.reduceAdd, few2, Option.map_some, Bool.not_true, Bool.not_false, decide_true, Bool.false_eq_true, ↓reduceIte]
        · have ty := tyOf_p (S := S) (p := y)
          have hyn := not_tup (p := y) fun x h => hyt ⟨x, h⟩
          have hr : ruleP (.tuple [.str w, y, z]) = false := by
            cases y with
            | tuple ps => exact absurd ⟨ps, rfl⟩ hyt
            | _ => simp only [ruleP, b1, skP, Bool.true_and, Bool.false_and]
          rw [hr]
          simp only [b__law_due, runB, sNil, sSeq, sPass, sRet, sRetN, sExpr, sIf, sAsg, sPar, sFor, outI, forL, stepL, turnL, gV, gIx, gTp, gsCons, gsNil, mV, mC, mOp, mU, mA, mCons, mNil, mTup, mLst, mLstC, mDict0, mSl, mPart, mNoP, mB, mAnd, mOr, mNot, mAndV, mOrV, mNotV, mIf, mChain, mVal, mRange1, mRange2, mLc, mYes, bndI, wipeR, lcL, optR, Res.thn, Res.bnd, Res.out, Rf.cellOf, Rf.intOf, Rf.lstOf, seqOf, srcOf, free, dIx, dSl, dBack, dNeg, dUpper, dAdd, dSub, dMul, dMod, dDiv, dPow, cmpI, dLt, dLe, dGt, dGe, dEq, dNe, dIn, dNotIn, dIsN, dNotN, ofB, bIsi, bLen, lenOf, bInt, bAbs, bMax2, bMin2, bList, bTuple, bAllAny, bRepr, bSet, bSorted, List.map_cons, List.map_nil, List.replicate, List.cons_append, List.nil_append, List.getElem?_cons_zero, List.getElem?_cons_succ, List.set_cons_zero, List.set_cons_succ, List.length_cons, List.length_nil, hT, tx, ty, mem_tup, mem_str, hs, htt, hyn, n3, i0, i2, Nat.reduceAdd, few2, Option.map_some, Bool.not_true, Bool.not_false, decide_true, Bool.false_eq_true, ↓reduceIte]
      · simp only [Bool.not_eq_true] at b1
        rw [b1] at i2
        have hr : ruleP (.tuple [.str w, y, z]) = false := by simp only [ruleP, b1, Bool.false_and]
        rw [hr]
        simp only [b__law_due, runB, sNil, sSeq, sPass, sRet, sRetN, sExpr, sIf, sAsg, sPar, sFor, outI, forL, stepL, turnL, gV, gIx, gTp, gsCons, gsNil, mV, mC, mOp, mU, mA, mCons, mNil, mTup, mLst, mLstC, mDict0, mSl, mPart, mNoP, mB, mAnd, mOr, mNot, mAndV, mOrV, mNotV, mIf, mChain, mVal, mRange1, mRange2, mLc, mYes, bndI, wipeR, lcL, optR, Res.thn, Res.bnd, Res.out, Rf.cellOf, Rf.intOf, Rf.lstOf, seqOf, srcOf, free, dIx, dSl, dBack, dNeg, dUpper, dAdd, dSub, dMul, dMod, dDiv, dPow, cmpI, dLt, dLe, dGt, dGe, dEq, dNe, dIn, dNotIn, dIsN, dNotN, ofB, bIsi, bLen, lenOf, bInt, bAbs, bMax2, bMin2, bList, bTuple, bAllAny, bRepr, bSet, bSorted, List.map_cons, List.map_nil, List.replicate, List.cons_append, List.nil_append, List.getElem?_cons_zero, List.getElem?_cons_succ, List.set_cons_zero, List.set_cons_succ, List.length_cons, List.length_nil, hT, tx, mem_tup, mem_str, hs, htt, n3, i0, i2, Nat.reduceAdd, few2, Option.map_some, Bool.not_true, Bool.not_false, decide_true, Bool.false_eq_true, ↓reduceIte]
    · have hxn := not_str (p := x) fun w h => hw ⟨w, h⟩
      have hr : ruleP (.tuple [x, y, z]) = false := by
        cases x with
        | str w => exact absurd ⟨w, rfl⟩ hw
        | _ => simp only [ruleP, firstP, Bool.false_and]
      rw [hr]
      simp only [ofP, ofPs, tyP]
      simp only [b__law_due, runB, sNil, sSeq, sPass, sRet, sRetN, sExpr, sIf, sAsg, sPar, sFor, outI, forL, stepL, turnL, gV, gIx, gTp, gsCons, gsNil, mV, mC, mOp, mU, mA, mCons, mNil, mTup, mLst, mLstC, mDict0, mSl, mPart, mNoP, mB, mAnd, mOr, mNot, mAndV, mOrV, mNotV, mIf, mChain, mVal, mRange1, mRange2, mLc, mYes, bndI, wipeR, lcL, optR, Res.thn, Res.bnd, Res.out, Rf.cellOf, Rf.intOf, Rf.lstOf, seqOf, srcOf, free, dIx, dSl, dBack, dNeg, dUpper, dAdd, dSub, dMul, dMod, dDiv, dPow, cmpI, dLt, dLe, dGt, dGe, dEq, dNe, dIn, dNotIn, dIsN, dNotN, ofB, bIsi, bLen, lenOf, bInt, bAbs, bMax2, bMin2, bList, bTuple, bAllAny, bRepr, bSet, bSorted, List.map_cons, List.map_nil, List.replicate, List.cons_append, List.nil_append, List.getElem?_cons_zero, List.getElem?_cons_succ, List.set_cons_zero, List.set_cons_succ, List.length_cons, List.length_nil, hT, tx, hxn, mem_tup, mem_str, hs, htt, n3, i0, Nat.reduceAdd, few2, Option.map_some, Bool.not_true, Bool.not_false, decide_true, Bool.false_eq_true, ↓reduceIte]
  · have hr := ruleP_no hc
    rw [hr]
    by_cases hpt : ∃ ps, p = .tuple ps
    · obtain ⟨ps, rfl⟩ := hpt
      have hl : ps.length ≠ 3 := fun hl => hc (match ps, hl with
        | [x, y, z], _ => ⟨x, y, z, rfl⟩)
      have n3 := ne_nat (S := S) (a := ps.length) (b := 3)
      have n3 : neD S (.int (ps.length : Int)) (.int 3) = _ := n3
      have e : (ofPs ps).length = ps.length := by rw [ofPs_map, List.length_map]
      simp only [ofP, tyP] at ht ⊢
      simp only [b__law_due, runB, sNil, sSeq, sPass, sRet, sRetN, sExpr, sIf, sAsg, sPar, sFor, outI, forL, stepL, turnL, gV, gIx, gTp, gsCons, gsNil, mV, mC, mOp, mU, mA, mCons, mNil, mTup, mLst, mLstC, mDict0, mSl, mPart, mNoP, mB, mAnd, mOr, mNot, mAndV, mOrV, mNotV, mIf, mChain, mVal, mRange1, mRange2, mLc, mYes, bndI, wipeR, lcL, optR, Res.thn, Res.bnd, Res.out, Rf.cellOf, Rf.intOf, Rf.lstOf, seqOf, srcOf, free, dIx, dSl, dBack, dNeg, dUpper, dAdd, dSub, dMul, dMod, dDiv, dPow, cmpI, dLt, dLe, dGt, dGe, dEq, dNe, dIn, dNotIn, dIsN, dNotN, ofB, bIsi, bLen, lenOf, bInt, bAbs, bMax2, bMin2, bList, bTuple, bAllAny, bRepr, bSet, bSorted, List.map_cons, List.map_nil, List.replicate, List.cons_append, List.nil_append, List.getElem?_cons_zero, List.getElem?_cons_succ, List.set_cons_zero, List.set_cons_succ, List.length_cons, List.length_nil, ht, mem_tup, htt, e, n3, hl, decide_false, Option.map_some, Bool.not_true, Bool.not_false, Bool.false_eq_true, ↓reduceIte]
    · have hpn := not_tup (p := p) fun x h => hpt ⟨x, h⟩
      simp only [b__law_due, runB, sNil, sSeq, sPass, sRet, sRetN, sExpr, sIf, sAsg, sPar, sFor, outI, forL, stepL, turnL, gV, gIx, gTp, gsCons, gsNil, mV, mC, mOp, mU, mA, mCons, mNil, mTup, mLst, mLstC, mDict0, mSl, mPart, mNoP, mB, mAnd, mOr, mNot, mAndV, mOrV, mNotV, mIf, mChain, mVal, mRange1, mRange2, mLc, mYes, bndI, wipeR, lcL, optR, Res.thn, Res.bnd, Res.out, Rf.cellOf, Rf.intOf, Rf.lstOf, seqOf, srcOf, free, dIx, dSl, dBack, dNeg, dUpper, dAdd, dSub, dMul, dMod, dDiv, dPow, cmpI, dLt, dLe, dGt, dGe, dEq, dNe, dIn, dNotIn, dIsN, dNotN, ofB, bIsi, bLen, lenOf, bInt, bAbs, bMax2, bMin2, bList, bTuple, bAllAny, bRepr, bSet, bSorted, List.map_cons, List.map_nil, List.replicate, List.cons_append, List.nil_append, List.getElem?_cons_zero, List.getElem?_cons_succ, List.set_cons_zero, List.set_cons_succ, List.length_cons, List.length_nil, ht, mem_tup, hpn, Bool.not_true, Bool.not_false, Bool.false_eq_true, ↓reduceIte]
end K25

set_option Elab.async false
set_option linter.all false
set_option maxRecDepth 100000
set_option maxHeartbeats 1000000
namespace K25
open PySem L2 Rf
/-! ### what is drawn -/
theorem few0 : few 0 = true := rfl
theorem few1 : few 1 = true := rfl
theorem few2 : few 2 = true := rfl
theorem few3 : few 3 = true := rfl
theorem few6 : few 6 = true := rfl
theorem few7 : few 7 = true := rfl
theorem few10 : few 10 = true := rfl
theorem few12 : few 12 = true := rfl
theorem few14 : few 14 = true := rfl
theorem few26 : few 26 = true := rfl
theorem neg1 : (-(1 : Int)) = -1 := rfl
theorem m02 : (0 : Int) ≤ 2 ∧ (2 : Int) ≤ 1000 ∧ 6 ≤ 1000 := by decide
theorem t02 : (2 : Int).toNat = 2 := rfl
def Ws : List PyData := [.str "first", .str "first", .str "only", .str "only", .str "last", .str "", .none]
def Ss : List PyData := [.tuple [], .tuple [.int 0], .tuple [.int 1, .int 3], .tuple [.int 0, .int 1, .int 2, .int 3, .int 4, .int 5], .tuple [.int 5], .tuple [.int 6], .tuple [.int (-1)], .tuple [.int 1, .int 0], .tuple [.int 2, .int 2], .tuple [.bool true], .list [.int 0], .tuple [.str "0"]]
def Us : List PyData := [.str "", .str "", .str "sec", .str "zzzzzzzz", .str "zzzzzzzzz", .str "S", .str "a b", .str "a1", .none, .int 0]
def Ks : List PyData := [.none, .bool true, .int 0, .int 1, .int (-1), .str "", .str "x", .str "key", .tuple [], .list [], .dict [], .tuple [.tuple []], .tuple [.str ""], .tuple [.str "come"]]
theorem mem_p {xs : List PyData} {v : D} (h : v ∈ xs.map ofP) : ∃ r ∈ xs, ofP r = v := List.mem_map.mp h
theorem rule_draw {k p : Nat} {S : Sto} {a b c : Int} (h : Pot S p a b c) (c1 : c < 900000) : ∃ w s u S' a' c', runF (k + 3) 13 [.loc p] S = .ok (ofP (.tuple [w, s, u])) S' ∧ w ∈ Ws ∧ s ∈ Ss ∧ u ∈ Us ∧ Pot S' p a' b c' ∧ c' ≤ c + 3 := by
  obtain ⟨v1, a1, d1, e1, m1, P1, q1⟩ := of_ok (k := k) (xs := [.str "first", .str "first", .str "only", .str "only", .str "last", .str "", .non]) h (by decide) (by decide) (by omega)
  obtain ⟨v2, a2, d2, e2, m2, P2, q2⟩ := of_ok (k := k) (xs := [.tup [], .tup [.int 0], .tup [.int 1, .int 3], .tup [.int 0, .int 1, .int 2, .int 3, .int 4, .int 5], .tup [.int 5], .tup [.int 6], .tup [.int (-1)], .tup [.int 1, .int 0], .tup [.int 2, .int 2], .tup [.bl true], .lst [.int 0], .tup [.str "0"]]) P1 (by decide) (by decide) (by omega)
  obtain ⟨v3, a3, d3, e3, m3, P3, q3⟩ := of_ok (k := k) (xs := [.str "", .str "", .str "sec", .str "zzzzzzzz", .str "zzzzzzzzz", .str "S", .str "a b", .str "a1", .non, .int 0]) P2 (by decide) (by decide) (by omega)
  obtain ⟨w, hw, rfl⟩ := mem_p (xs := Ws) m1
  obtain ⟨s, hs, rfl⟩ := mem_p (xs := Ss) m2
  obtain ⟨u, hu, rfl⟩ := mem_p (xs := Us) m3
  refine ⟨w, s, u, _, a3, d3, ?_, hw, hs, hu, P3, by omega⟩
  show runB 4 (b__law_rule (runF (k + 2))) _ _ = _
  simp only [b__law_rule, runB, sNil, sSeq, sPass, sRet, sRetN, sExpr, sIf, sAsg, sPar, sFor, outI, forL, stepL, turnL, gV, gIx, gTp, gsCons, gsNil, mV, mC, mOp, mU, mA, mCons, mNil, mTup, mLst, mLstC, mDict0, mSl, mPart, mNoP, mB, mAnd, mOr, mNot, mAndV, mOrV, mNotV, mIf, mChain, mVal, mRange1, mRange2, mLc, mYes, bndI, wipeR, lcL, optR, Res.thn, Res.bnd, Res.out, Rf.cellOf, Rf.intOf, Rf.lstOf, seqOf, srcOf, free, dIx, dSl, dBack, dNeg, dUpper, dAdd, dSub, dMul, dMod, dDiv, dPow, cmpI, dLt, dLe, dGt, dGe, dEq, dNe, dIn, dNotIn, dIsN, dNotN, ofB, bIsi, bLen, lenOf, bInt, bAbs, bMax2, bMin2, bList, bTuple, bAllAny, bRepr, bSet, bSorted, tyOf, List.map_cons, List.map_nil, List.replicate, List.cons_append, List.nil_append, List.getElem?_cons_zero, List.getElem?_cons_succ, List.set_cons_zero, List.set_cons_succ, List.length_cons, List.length_nil, Nat.reduceAdd, few0, few1, few2, few3, few6, few7, few10, few12, few14, few26, neg1, e1, e2, e3, ofP, ofPs, ↓reduceIte]
theorem cut_map {α β : Type} {f : α → β} {ds : List α} {lo hi : Option Int} : (cut ds lo hi).map f = cut (ds.map f) lo hi := by
  simp only [cut, List.map_take, List.map_drop, List.length_map]
/-- what may stand in the place of a thing -/
def moreP : PyData → List PyData
  | .tuple ps => [.tuple (cut ps (some 1) none), .tuple (cut ps none (some (-1))), .tuple ps.reverse, .tuple (ps ++ cut ps (some (-1)) none), .list ps, .tuple [.tuple ps]]
  | .str x => [.str (x ++ "a"), .str (cutS x (some 1) none), .str (Txt.upper x), .str (x ++ " "), .list [.str x], .tuple [.str x]]
  | _ => []
def oddP (t : PyData) : List PyData := Ks ++ moreP t ++ moreP t
def oddC : PyData → Bool
  | .tuple ps => decide (ps.length ≤ 400000)
  | .str x => few (x.length + 1) && few x.length
  | _ => true
theorem odd_tup (ps : List PyData) : (oddP (.tuple ps)).map ofP = (fun (D : List D) => [.non, .bl true, .int 0, .int 1, .int (-1), .str "", .str "x", .str "key", .tup [], .lst [], .dk [], .tup [.tup []], .tup [.str ""], .tup [.str "come"], .tup (cut D (some 1) none), .tup (cut D none (some (-1))), .tup D.reverse, .tup (D ++ cut D (some (-1)) none), .lst D, .tup [.tup D], .tup (cut D (some 1) none), .tup (cut D none (some (-1))), .tup D.reverse, .tup (D ++ cut D (some (-1)) none), .lst D, .tup [.tup D]]) (ofPs ps) := by
  simp only [oddP, Ks, moreP, ofPs_map, List.map_append, List.map_cons, List.map_nil, List.map_reverse, cut_map, ofP, ofPs, List.cons_append, List.nil_append]
theorem odd_str (x : Str) : (oddP (.str x)).map ofP = [.non, .bl true, .int 0, .int 1, .int (-1), .str "", .str "x", .str "key", .tup [], .lst [], .dk [], .tup [.tup []], .tup [.str ""], .tup [.str "come"], .str (x ++ "a"), .str (cutS x (some 1) none), .str (Txt.upper x), .str (x ++ " "), .lst [.str x], .tup [.str x], .str (x ++ "a"), .str (cutS x (some 1) none), .str (Txt.upper x), .str (x ++ " "), .lst [.str x], .tup [.str x]] := by
  simp only [oddP, Ks, moreP, List.map_append, List.map_cons, List.map_nil, ofP, ofPs, List.cons_append, List.nil_append]
theorem odd_else {t : PyData} (h1 : ∀ ps, t ≠ .tuple ps) (h2 : ∀ x, t ≠ .str x) : oddP t = Ks := by
  cases t with
  | tuple ps => exact absurd rfl (h1 ps)
  | str x => exact absurd rfl (h2 x)
  | _ => simp only [oddP, moreP, List.append_nil]
theorem odd_ok {k p : Nat} {S : Sto} {a b c : Int} {t : PyData} (h : Pot S p a b c) (c1 : c < 900000) (ht : oddC t = true) : ∃ r S' a' c', runF (k + 3) 9 [.loc p, ofP t] S = .ok (ofP r) S' ∧ r ∈ oddP t ∧ Pot S' p a' b c' ∧ c' ≤ c + 1 := by
  have ty := tyOf_p (S := S) (p := t)
  have y1 : isa "tuple" "tuple" = true := by decide
  have y2 : isa "tuple" "str" = false := by decide
  have y3 : isa "str" "str" = true := by decide
  have y4 : isa "str" "tuple" = false := by decide
  by_cases h1 : ∃ ps, t = .tuple ps
  · obtain ⟨ps, rfl⟩ := h1
    have hl : ps.length ≤ 400000 := of_decide_eq_true ht
    have hl : (ofPs ps).length ≤ 400000 := by rw [ofPs_map, List.length_map]; exact hl
    obtain ⟨v1, a1, d1, e1, m1, P1, q1⟩ := of_ok (k := k) (xs := (fun (D : List D) => [.non, .bl true, .int 0, .int 1, .int (-1), .str "", .str "x", .str "key", .tup [], .lst [], .dk [], .tup [.tup []], .tup [.str ""], .tup [.str "come"], .tup (cut D (some 1) none), .tup (cut D none (some (-1))), .tup D.reverse, .tup (D ++ cut D (some (-1)) none), .lst D, .tup [.tup D], .tup (cut D (some 1) none), .tup (cut D none (some (-1))), .tup D.reverse, .tup (D ++ cut D (some (-1)) none), .lst D, .tup [.tup D]]) (ofPs ps)) h (by simp only [List.length_cons]; omega) (by simp only [List.length_cons, List.length_nil]; omega) (by omega)
    rw [← odd_tup] at m1
    obtain ⟨r, hr, rfl⟩ := mem_p m1
    refine ⟨r, _, a1, d1, ?_, hr, P1, q1⟩
    show runB 3 (b__law_odd (runF (k + 2))) _ _ = _
    have hf : few ((ofPs ps).length + (cut (ofPs ps) (some (-1)) none).length) = true := decide_eq_true (by have := cut_few (ds := ofPs ps) (lo := some (-1)) (hi := none); omega)
    simp only [ofP, tyP] at ty ⊢
    simp only [b__law_odd, runB, sNil, sSeq, sPass, sRet, sRetN, sExpr, sIf, sAsg, sPar, sFor, outI, forL, stepL, turnL, gV, gIx, gTp, gsCons, gsNil, mV, mC, mOp, mU, mA, mCons, mNil, mTup, mLst, mLstC, mDict0, mSl, mPart, mNoP, mB, mAnd, mOr, mNot, mAndV, mOrV, mNotV, mIf, mChain, mVal, mRange1, mRange2, mLc, mYes, bndI, wipeR, lcL, optR, Res.thn, Res.bnd, Res.out, Rf.cellOf, Rf.intOf, Rf.lstOf, seqOf, srcOf, free, dIx, dSl, dBack, dNeg, dUpper, dAdd, dSub, dMul, dMod, dDiv, dPow, cmpI, dLt, dLe, dGt, dGe, dEq, dNe, dIn, dNotIn, dIsN, dNotN, ofB, bIsi, bLen, lenOf, bInt, bAbs, bMax2, bMin2, bList, bTuple, bAllAny, bRepr, bSet, bSorted, List.map_cons, List.map_nil, List.replicate, List.cons_append, List.nil_append, List.getElem?_cons_zero, List.getElem?_cons_succ, List.set_cons_zero, List.set_cons_succ, List.length_cons, List.length_nil, List.flatten_cons, List.flatten_nil, List.append_nil, Nat.reduceAdd, few0, few1, few2, few3, few6, few7, few10, few12, few14, few26, ty, y1, y2, mem_tup, mem_str, hf, m02, t02, neg1, e1, and_self, Bool.false_eq_true, ↓reduceIte]
  · by_cases h2 : ∃ x, t = .str x
    · obtain ⟨x, rfl⟩ := h2
      simp only [oddC, Bool.and_eq_true] at ht
      obtain ⟨v1, a1, d1, e1, m1, P1, q1⟩ := of_ok (k := k) (xs := [.non, .bl true, .int 0, .int 1, .int (-1), .str "", .str "x", .str "key", .tup [], .lst [], .dk [], .tup [.tup []], .tup [.str ""], .tup [.str "come"], .str (x ++ "a"), .str (cutS x (some 1) none), .str (Txt.upper x), .str (x ++ " "), .lst [.str x], .tup [.str x], .str (x ++ "a"), .str (cutS x (some 1) none), .str (Txt.upper x), .str (x ++ " "), .lst [.str x], .tup [.str x]]) h (by simp only [List.length_cons]; omega) (by simp only [List.length_cons, List.length_nil]; omega) (by omega)
      rw [← odd_str] at m1
      obtain ⟨r, hr, rfl⟩ := mem_p m1
      refine ⟨r, _, a1, d1, ?_, hr, P1, q1⟩
      show runB 3 (b__law_odd (runF (k + 2))) _ _ = _
      have s1 : ("a" : Str).length = 1 := rfl
      have s2 : (" " : Str).length = 1 := rfl
      simp only [ofP, tyP] at ty ⊢
      simp only [b__law_odd, runB, sNil, sSeq, sPass, sRet, sRetN, sExpr, sIf, sAsg, sPar, sFor, outI, forL, stepL, turnL, gV, gIx, gTp, gsCons, gsNil, mV, mC, mOp, mU, mA, mCons, mNil, mTup, mLst, mLstC, mDict0, mSl, mPart, mNoP, mB, mAnd, mOr, mNot, mAndV, mOrV, mNotV, mIf, mChain, mVal, mRange1, mRange2, mLc, mYes, bndI, wipeR, lcL, optR, Res.thn, Res.bnd, Res.out, Rf.cellOf, Rf.intOf, Rf.lstOf, seqOf, srcOf, free, dIx, dSl, dBack, dNeg, dUpper, dAdd, dSub, dMul, dMod, dDiv, dPow, cmpI, dLt, dLe, dGt, dGe, dEq, dNe, dIn, dNotIn, dIsN, dNotN, ofB, bIsi, bLen, lenOf, bInt, bAbs, bMax2, bMin2, bList, bTuple, bAllAny, bRepr, bSet, bSorted, List.map_cons, List.map_nil, List.replicate, List.cons_append, List.nil_append, List.getElem?_cons_zero, List.getElem?_cons_succ, List.set_cons_zero, List.set_cons_succ, List.length_cons, List.length_nil, List.flatten_cons, List.flatten_nil, List.append_nil, Nat.reduceAdd, few0, few1, few2, few3, few6, few7, few10, few12, few14, few26, ty, y3, y4, mem_tup, mem_str, ht.1, ht.2, s1, s2, m02, t02, neg1, e1, and_self, Bool.false_eq_true, ↓reduceIte]
    · have n1 := not_tup (p := t) fun x h => h1 ⟨x, h⟩
      have n2 := not_str (p := t) fun x h => h2 ⟨x, h⟩
      obtain ⟨v1, a1, d1, e1, m1, P1, q1⟩ := of_ok (k := k) (xs := [.non, .bl true, .int 0, .int 1, .int (-1), .str "", .str "x", .str "key", .tup [], .lst [], .dk [], .tup [.tup []], .tup [.str ""], .tup [.str "come"]]) h (by decide) (by decide) (by omega)
      obtain ⟨r, hr, rfl⟩ := mem_p (xs := Ks) m1
      refine ⟨r, _, a1, d1, ?_, by rw [odd_else (fun x h => h1 ⟨x, h⟩) fun x h => h2 ⟨x, h⟩]; exact hr, P1, q1⟩
      show runB 3 (b__law_odd (runF (k + 2))) _ _ = _
      simp only [b__law_odd, runB, sNil, sSeq, sPass, sRet, sRetN, sExpr, sIf, sAsg, sPar, sFor, outI, forL, stepL, turnL, gV, gIx, gTp, gsCons, gsNil, mV, mC, mOp, mU, mA, mCons, mNil, mTup, mLst, mLstC, mDict0, mSl, mPart, mNoP, mB, mAnd, mOr, mNot, mAndV, mOrV, mNotV, mIf, mChain, mVal, mRange1, mRange2, mLc, mYes, bndI, wipeR, lcL, optR, Res.thn, Res.bnd, Res.out, Rf.cellOf, Rf.intOf, Rf.lstOf, seqOf, srcOf, free, dIx, dSl, dBack, dNeg, dUpper, dAdd, dSub, dMul, dMod, dDiv, dPow, cmpI, dLt, dLe, dGt, dGe, dEq, dNe, dIn, dNotIn, dIsN, dNotN, ofB, bIsi, bLen, lenOf, bInt, bAbs, bMax2, bMin2, bList, bTuple, bAllAny, bRepr, bSet, bSorted, List.map_cons, List.map_nil, List.replicate, List.cons_append, List.nil_append, List.getElem?_cons_zero, List.getElem?_cons_succ, List.set_cons_zero, List.set_cons_succ, List.length_cons, List.length_nil, Nat.reduceAdd, few0, few1, few2, few3, few6, few7, few10, few12, few14, few26, ty, n1, n2, mem_tup, mem_str, neg1, e1, Bool.false_eq_true, ↓reduceIte]
end K25

set_option Elab.async false
set_option linter.all false
set_option maxRecDepth 100000
set_option maxHeartbeats 1000000
namespace K25
open PySem L2 Rf
/-! ### what is bent -/
def bentP : Nat → PyData → List PyData
  | n + 1, .tuple ps => oddP (.tuple ps) ++ (List.range ps.length).flatMap fun i => (bentP n (ps.getD i .none)).map fun q => .tuple (ps.take i ++ [q] ++ ps.drop (i + 1))
  | _, t => oddP t
def bentC : Nat → PyData → Bool
  | 0, t => oddC t
  | n + 1, .tuple ps => oddC (.tuple ps) && eqP (.tuple ps) && ps.all (bentC n)
  | _ + 1, t => oddC t
theorem bent_sub {n : Nat} {t r : PyData} (h : r ∈ oddP t) : r ∈ bentP n t := by
  cases n with
  | zero => exact h
  | succ n =>
    cases t with
    | tuple ps => exact List.mem_append_left _ h
    | _ => exact h
theorem bentC_odd {n : Nat} {t : PyData} (h : bentC n t = true) : oddC t = true := by
  cases n with
  | zero => exact h
  | succ n =>
    cases t with
    | tuple ps =>
      simp only [bentC, Bool.and_eq_true] at h
      exact h.1.1
    | _ => exact h
theorem cut_take {α : Type} {ds : List α} {i : Nat} (h : i ≤ ds.length) : cut ds none (some (i : Int)) = ds.take i := by
  simp only [cut, HT.sIx_none, HT.sIx_nat, List.drop_zero, Nat.sub_zero, Nat.min_eq_left h]
theorem cut_drop {α : Type} {ds : List α} {i : Nat} (h : i ≤ ds.length) : cut ds (some (i : Int)) none = ds.drop i := by
  simp only [cut, HT.sIx_none, HT.sIx_nat, Nat.min_eq_left h]
  rw [List.take_of_length_le]
  rw [List.length_drop]
  omega
theorem eq_int {S : Sto} {i j : Int} : eqD S (.int i) (.int j) = some (decide (i = j)) := by
  simp only [eqD, sh_int, PyData.eqv]
  congr 1
theorem eq_nil {S : Sto} {p : PyData} {ps : List PyData} (h : eqP (.tuple (p :: ps)) = true) : eqD S (.tup (ofPs (p :: ps))) (.tup []) = some false := by
  have e := shP_of (S := S) h
  have e2 : shP S (.tup []) = some (.tuple []) := shP_of (p := .tuple []) rfl
  simp only [ofP] at e
  simp only [eqD, e, e2, PyData.eqv, PyData.eqvAll]
theorem eq_nil0 {S : Sto} : eqD S (.tup []) (.tup []) = some true := by
  have e2 : shP S (.tup []) = some (.tuple []) := shP_of (p := .tuple []) rfl
  simp only [eqD, e2, PyData.eqv, PyData.eqvAll]
theorem bent0 {k n p : Nat} {S S0 : Sto} {a b c : Int} {t r0 : PyData} (e0 : runF (k + 3) 9 [.loc p, ofP t] S = .ok (ofP r0) S0) (hz : n = 0 ∨ (∀ ps, t ≠ .tuple ps) ∨ t = .tuple []) :
    runF (k + 4) 10 [.loc p, ofP t, .int (n : Int)] S = .ok (ofP r0) S0 := by
  show runB 4 (b__law_bent (runF (k + 3))) _ _ = _
  have ty := tyOf_p (S := S) (p := t)
  have y1 : isa "tuple" "tuple" = true := by decide
  have z0 : eqD S (.int (n : Int)) (.int 0) = some (decide ((n : Int) = 0)) := eq_int
  by_cases h0 : (n : Int) = 0
  · rw [decide_eq_true h0] at z0
    simp only [b__law_bent, runB, sNil, sSeq, sPass, sRet, sRetN, sExpr, sIf, sAsg, sPar, sFor, outI, forL, stepL, turnL, gV, gIx, gTp, gsCons, gsNil, mV, mC, mOp, mU, mA, mCons, mNil, mTup, mLst, mLstC, mDict0, mSl, mPart, mNoP, mB, mAnd, mOr, mNot, mAndV, mOrV, mNotV, mIf, mChain, mVal, mRange1, mRange2, mLc, mYes, bndI, wipeR, lcL, optR, Res.thn, Res.bnd, Res.out, Rf.cellOf, Rf.intOf, Rf.lstOf, seqOf, srcOf, free, dIx, dSl, dBack, dNeg, dUpper, dAdd, dSub, dMul, dMod, dDiv, dPow, cmpI, dLt, dLe, dGt, dGe, dEq, dNe, dIn, dNotIn, dIsN, dNotN, ofB, bIsi, bLen, lenOf, bInt, bAbs, bMax2, bMin2, bList, bTuple, bAllAny, bRepr, bSet, bSorted, tyOf, List.map_cons, List.map_nil, List.replicate, List.cons_append, List.nil_append, List.getElem?_cons_zero, List.getElem?_cons_succ, List.set_cons_zero, List.set_cons_succ, List.length_cons, List.length_nil, z0, e0, ↓reduceIte]
  · rw [decide_eq_false h0] at z0
    rcases hz with hz | hz | hz
    · exact absurd (by omega) h0
    · have n1 := not_tup hz
      simp only [b__law_bent, runB, sNil, sSeq, sPass, sRet, sRetN, sExpr, sIf, sAsg, sPar, sFor, outI, forL, stepL, turnL, gV, gIx, gTp, gsCons, gsNil, mV, mC, mOp, mU, mA, mCons, mNil, mTup, mLst, mLstC, mDict0, mSl, mPart, mNoP, mB, mAnd, mOr, mNot, mAndV, mOrV, mNotV, mIf, mChain, mVal, mRange1, mRange2, mLc, mYes, bndI, wipeR, lcL, optR, Res.thn, Res.bnd, Res.out, Rf.cellOf, Rf.intOf, Rf.lstOf, seqOf, srcOf, free, dIx, dSl, dBack, dNeg, dUpper, dAdd, dSub, dMul, dMod, dDiv, dPow, cmpI, dLt, dLe, dGt, dGe, dEq, dNe, dIn, dNotIn, dIsN, dNotN, ofB, bIsi, bLen, lenOf, bInt, bAbs, bMax2, bMin2, bList, bTuple, bAllAny, bRepr, bSet, bSorted, List.map_cons, List.map_nil, List.replicate, List.cons_append, List.nil_append, List.getElem?_cons_zero, List.getElem?_cons_succ, List.set_cons_zero, List.set_cons_succ, List.length_cons, List.length_nil, z0, ty, n1, mem_tup, e0, Bool.not_false, Bool.false_eq_true, ↓reduceIte]
    · subst hz
      simp only [ofP, ofPs, tyP] at ty e0 ⊢
      simp only [b__law_bent, runB, sNil, sSeq, sPass, sRet, sRetN, sExpr, sIf, sAsg, sPar, sFor, outI, forL, stepL, turnL, gV, gIx, gTp, gsCons, gsNil, mV, mC, mOp, mU, mA, mCons, mNil, mTup, mLst, mLstC, mDict0, mSl, mPart, mNoP, mB, mAnd, mOr, mNot, mAndV, mOrV, mNotV, mIf, mChain, mVal, mRange1, mRange2, mLc, mYes, bndI, wipeR, lcL, optR, Res.thn, Res.bnd, Res.out, Rf.cellOf, Rf.intOf, Rf.lstOf, seqOf, srcOf, free, dIx, dSl, dBack, dNeg, dUpper, dAdd, dSub, dMul, dMod, dDiv, dPow, cmpI, dLt, dLe, dGt, dGe, dEq, dNe, dIn, dNotIn, dIsN, dNotN, ofB, bIsi, bLen, lenOf, bInt, bAbs, bMax2, bMin2, bList, bTuple, bAllAny, bRepr, bSet, bSorted, List.map_cons, List.map_nil, List.replicate, List.cons_append, List.nil_append, List.getElem?_cons_zero, List.getElem?_cons_succ, List.set_cons_zero, List.set_cons_succ, List.length_cons, List.length_nil, few0, z0, ty, y1, mem_tup, eq_nil0, e0, Bool.not_true, Bool.false_eq_true, ↓reduceIte]
theorem bent1 {k n p : Nat} {S S1 S0 : Sto} {x r0 : PyData} {xs : List PyData} (h : eqP (.tuple (x :: xs)) = true) (e1 : runF (k + 3) 7 [.loc p, .int 5] S = .ok (.int 0) S1)
    (e0 : runF (k + 3) 9 [.loc p, ofP (.tuple (x :: xs))] S1 = .ok (ofP r0) S0) : runF (k + 4) 10 [.loc p, ofP (.tuple (x :: xs)), .int ((n + 1 : Nat) : Int)] S = .ok (ofP r0) S0 := by
  show runB 4 (b__law_bent (runF (k + 3))) _ _ = _
  have ty : ∀ S : Sto, tyOf S (.tup (ofPs (x :: xs))) = some "tuple" := fun _ => rfl
  have y1 : isa "tuple" "tuple" = true := by decide
  have z0 : eqD S (.int ((n + 1 : Nat) : Int)) (.int 0) = some false := by rw [eq_int]; rfl
  have z1 : eqD S1 (.int 0) (.int 0) = some true := eq_int
  have en := eq_nil (S := S) h
  simp only [ofP] at e0 ⊢
  simp only [b__law_bent, runB, sNil, sSeq, sPass, sRet, sRetN, sExpr, sIf, sAsg, sPar, sFor, outI, forL, stepL, turnL, gV, gIx, gTp, gsCons, gsNil, mV, mC, mOp, mU, mA, mCons, mNil, mTup, mLst, mLstC, mDict0, mSl, mPart, mNoP, mB, mAnd, mOr, mNot, mAndV, mOrV, mNotV, mIf, mChain, mVal, mRange1, mRange2, mLc, mYes, bndI, wipeR, lcL, optR, Res.thn, Res.bnd, Res.out, Rf.cellOf, Rf.intOf, Rf.lstOf, seqOf, srcOf, free, dIx, dSl, dBack, dNeg, dUpper, dAdd, dSub, dMul, dMod, dDiv, dPow, cmpI, dLt, dLe, dGt, dGe, dEq, dNe, dIn, dNotIn, dIsN, dNotN, ofB, bIsi, bLen, lenOf, bInt, bAbs, bMax2, bMin2, bList, bTuple, bAllAny, bRepr, bSet, bSorted, List.map_cons, List.map_nil, List.replicate, List.cons_append, List.nil_append, List.getElem?_cons_zero, List.getElem?_cons_succ, List.set_cons_zero, List.set_cons_succ, List.length_cons, List.length_nil, few0, z0, ty, y1, mem_tup, en, e1, z1, e0, Bool.not_true, Bool.false_eq_true, ↓reduceIte]
theorem bent2 {k n p j : Nat} {S S1 S2 S3 : Sto} {d : Int} {x r : PyData} {xs : List PyData} (h : eqP (.tuple (x :: xs)) = true) (hl : (x :: xs).length ≤ 400000) (hd : d ≠ 0) (hj : j < (x :: xs).length)
    (e1 : runF (k + 3) 7 [.loc p, .int 5] S = .ok (.int d) S1) (e2 : runF (k + 3) 7 [.loc p, .int ((x :: xs).length : Int)] S1 = .ok (.int (j : Int)) S2)
    (e3 : runF (k + 3) 10 [.loc p, ofP ((x :: xs).getD j .none), .int (n : Int)] S2 = .ok (ofP r) S3) :
    runF (k + 4) 10 [.loc p, ofP (.tuple (x :: xs)), .int ((n + 1 : Nat) : Int)] S = .ok (ofP (.tuple ((x :: xs).take j ++ [r] ++ (x :: xs).drop (j + 1)))) S3 := by
  show runB 4 (b__law_bent (runF (k + 3))) _ _ = _
  have ty : ∀ S : Sto, tyOf S (.tup (ofPs (x :: xs))) = some "tuple" := fun _ => rfl
  have y1 : isa "tuple" "tuple" = true := by decide
  have z0 : eqD S (.int ((n + 1 : Nat) : Int)) (.int 0) = some false := by rw [eq_int]; rfl
  have z1 : eqD S1 (.int d) (.int 0) = some false := by rw [eq_int, decide_eq_false hd]
  have en := eq_nil (S := S) h
  have hl2 : (ofPs (x :: xs)).length = (x :: xs).length := by rw [ofPs_map, List.length_map]
  have ha : atI (ofPs (x :: xs)) (j : Int) = some (ofP ((x :: xs).getD j .none)) := atI_nat (by rw [ofPs_map, List.getElem?_map, List.getElem?_eq_getElem hj, List.getD_eq_getElem?_getD, List.getElem?_eq_getElem hj]; rfl)
  have hn1 : ((n + 1 : Nat) : Int) - 1 = (n : Int) := by omega
  have c1 := cut_take (ds := ofPs (x :: xs)) (i := j) (by omega)
  have c2 := cut_drop (ds := ofPs (x :: xs)) (i := j + 1) (by omega)
  have hj1 : ((j + 1 : Nat) : Int) = (j : Int) + 1 := by omega
  rw [hj1] at c2
  have f1 : few (((ofPs (x :: xs)).take j).length + 1) = true := decide_eq_true (by rw [List.length_take]; omega)
  have f2 : few (((ofPs (x :: xs)).take j ++ [ofP r]).length + ((ofPs (x :: xs)).drop (j + 1)).length) = true := decide_eq_true (by rw [List.length_append, List.length_take, List.length_drop]; simp; omega)
  have er : ofP (.tuple ((x :: xs).take j ++ [r] ++ (x :: xs).drop (j + 1))) = .tup ((ofPs (x :: xs)).take j ++ [ofP r] ++ (ofPs (x :: xs)).drop (j + 1)) := by
    simp only [ofP, ofPs_map, List.map_append, List.map_cons, List.map_nil, List.map_take, List.map_drop]
  rw [er]
  rw [← hl2] at e2
  have et : ofP (.tuple (x :: xs)) = .tup (ofPs (x :: xs)) := by simp only [ofP]
  rw [et]
  clear er et hl2 hl hj hj1
  generalize ofPs (x :: xs) = D at *
  generalize ofP ((x :: xs).getD j .none) = dj at *
  simp only [b__law_bent, runB, sNil, sSeq, sPass, sRet, sRetN, sExpr, sIf, sAsg, sPar, sFor, outI, forL, stepL, turnL, gV, gIx, gTp, gsCons, gsNil, mV, mC, mOp, mU, mA, mCons, mNil, mTup, mLst, mLstC, mDict0, mSl, mPart, mNoP, mB, mAnd, mOr, mNot, mAndV, mOrV, mNotV, mIf, mChain, mVal, mRange1, mRange2, mLc, mYes, bndI, wipeR, lcL, optR, Res.thn, Res.bnd, Res.out, Rf.cellOf, Rf.intOf, Rf.lstOf, seqOf, srcOf, free, dIx, dSl, dBack, dNeg, dUpper, dAdd, dSub, dMul, dMod, dDiv, dPow, cmpI, dLt, dLe, dGt, dGe, dEq, dNe, dIn, dNotIn, dIsN, dNotN, ofB, bIsi, bLen, lenOf, bInt, bAbs, bMax2, bMin2, bList, bTuple, bAllAny, bRepr, bSet, bSorted, List.map_cons, List.map_nil, List.replicate, List.cons_append, List.nil_append, List.getElem?_cons_zero, List.getElem?_cons_succ, List.set_cons_zero, List.set_cons_succ, List.length_cons, List.length_nil, few0, few1, Nat.reduceAdd, Option.map_some, z0, ty, y1, mem_tup, en, e1, z1, e2, ha, hn1, e3, c1, c2, f1, f2, Bool.not_true, Bool.false_eq_true, ↓reduceIte]
theorem bent_ok (n : Nat) : ∀ (k : Nat) {p : Nat} {S : Sto} {a b c : Int} {t : PyData}, Pot S p a b c → c < 800000 - 3 * n → bentC n t = true → ∃ r S' a' c', runF (k + n + 4) 10 [.loc p, ofP t, .int (n : Int)] S = .ok (ofP r) S' ∧ r ∈ bentP n t ∧ Pot S' p a' b c' ∧ c' ≤ c + 3 * n + 1 := by
  induction n with
  | zero =>
    intro k p S a b c t h c1 ht
    obtain ⟨r0, S0, a0, d0, e0, m0, P0, q0⟩ := odd_ok (k := k) h (by omega) (bentC_odd ht)
    exact ⟨r0, S0, a0, d0, bent0 (a := a) (b := b) (c := c) e0 (.inl rfl), m0, P0, by omega⟩
  | succ n ih =>
    intro k p S a b c t h c1 ht
    by_cases hc : (∀ ps, t ≠ .tuple ps) ∨ t = .tuple []
    · obtain ⟨r0, S0, a0, d0, e0, m0, P0, q0⟩ := odd_ok (k := k + (n + 1)) h (by omega) (bentC_odd ht)
      exact ⟨r0, S0, a0, d0, bent0 (k := k + (n + 1)) (a := a) (b := b) (c := c) e0 (.inr hc), bent_sub m0, P0, by omega⟩
    · have hx : ∃ x xs, t = .tuple (x :: xs) := by
        cases t with
        | tuple ps =>
          cases ps with
          | nil => exact absurd (.inr rfl) hc
          | cons x xs => exact ⟨x, xs, rfl⟩
        | _ => exact absurd (.inl (by rintro _ h; cases h)) hc
      obtain ⟨x, xs, rfl⟩ := hx
      simp only [bentC, Bool.and_eq_true] at ht
      obtain ⟨⟨ht1, ht2⟩, ht3⟩ := ht
      have hl : (x :: xs).length ≤ 400000 := of_decide_eq_true ht1
      obtain ⟨d, a1, d1, e1, dl, dh, P1, q1⟩ := take_ok (k := k + n + 3) (n := 5) h (by decide) (by decide) (by omega)
      have e1 : runF (k + (n + 1) + 3) 7 [.loc p, .int 5] S = _ := e1
      generalize hS1 : S.set p (.lst [.int a1, .int b, .int d1]) = S1 at e1 P1
      by_cases hd : d = 0
      · subst hd
        obtain ⟨r0, S0, a0, d0, e0, m0, P0, q0⟩ := odd_ok (k := k + (n + 1)) P1 (by omega) ht1
        exact ⟨r0, S0, a0, d0, bent1 (k := k + (n + 1)) ht2 e1 e0, bent_sub m0, P0, by omega⟩
      · obtain ⟨i, a2, d2, e2, il, ih2, P2, q2⟩ := take_ok (k := k + n + 3) (n := ((x :: xs).length : Int)) P1 (by rw [List.length_cons]; omega) (by omega) (by omega)
        have e2 : runF (k + (n + 1) + 3) 7 [.loc p, .int ((x :: xs).length : Int)] S1 = _ := e2
        generalize hS2 : S1.set p (.lst [.int a2, .int b, .int d2]) = S2 at e2 P2
        obtain ⟨j, rfl⟩ := Int.eq_ofNat_of_zero_le il
        have hj : j < (x :: xs).length := by omega
        have hb : bentC n ((x :: xs).getD j .none) = true := by
          rw [List.getD_eq_getElem?_getD, List.getElem?_eq_getElem hj]
          exact List.all_eq_true.mp ht3 _ (List.getElem_mem hj)
        obtain ⟨r, S3, a3, d3, e3, m3, P3, q3⟩ := ih k P2 (by omega) hb
        have e3 : runF (k + (n + 1) + 3) 10 [.loc p, ofP ((x :: xs).getD j .none), .int (n : Int)] S2 = .ok (ofP r) S3 := e3
        exact ⟨_, S3, a3, d3, bent2 (k := k + (n + 1)) ht2 hl hd hj e1 e2 e3, List.mem_append_right _ (List.mem_flatMap.mpr ⟨j, List.mem_range.mpr hj, List.mem_map.mpr ⟨r, m3, rfl⟩⟩), P3, by omega⟩
end K25

set_option Elab.async false
set_option linter.all false
set_option maxRecDepth 100000
set_option maxHeartbeats 4000000
namespace K25
open PySem L2 Rf
/-! ### all that may be drawn is fine -/
def Ss2 : List PyData := Ss ++ [.tuple [.int 0, .int 2]]
def Us2 : List PyData := Us ++ [.str "x"]
def fin1 (p : PyData) : Bool := fin3 20 10 100 p
theorem c_w : ∀ w ∈ Ws, bentC 1 w = true ∧ endP w = true ∧ fin1 w = true ∧ ∀ q ∈ bentP 1 w, endP q = true ∧ fin1 q = true := by decide +kernel
theorem c_u : ∀ w ∈ Us2, bentC 1 w = true ∧ endP w = true ∧ fin1 w = true ∧ ∀ q ∈ bentP 1 w, endP q = true ∧ fin1 q = true := by decide +kernel
theorem c_s : ∀ w ∈ Ss2, bentC 1 w = true ∧ notLong w = true ∧ fin1 w = true ∧ ∀ q ∈ bentP 1 w, notLong q = true ∧ fin1 q = true := by decide +kernel
theorem c_k : ∀ q ∈ Ks, goodP q = true ∧ fin1 q = true := by decide +kernel
/-- a rule as drawn -/
structure Drawn (t : PyData) : Prop where
  ex : ∃ w s u, w ∈ Ws ∧ s ∈ Ss2 ∧ u ∈ Us2 ∧ t = .tuple [w, s, u]
theorem c_t : ∀ w ∈ Ws, ∀ s ∈ Ss2, ∀ u ∈ Us2, eqP (.tuple [w, s, u]) = true := by decide +kernel
theorem c_m : ∀ w ∈ Ws, ∀ s ∈ Ss2, ∀ u ∈ Us2, ∀ q ∈ moreP (.tuple [w, s, u]), goodP q = true ∧ fin3 100 20 1000 q = true := by decide +kernel
theorem three {x y z : PyData} (h1 : fin1 x = true) (h2 : fin1 y = true) (h3 : fin1 z = true) : fin3 200 100 60000 (.tuple [x, y, z]) = true :=
  fin3_up (fin_tup (w := 20) (d := 10) (b := 100) (l := 3) (by
    intro p hp
    simp only [List.mem_cons, List.not_mem_nil, or_false] at hp
    rcases hp with e | e | e <;> subst e
    · exact h1
    · exact h2
    · exact h3) (Nat.le_refl 3)) (by decide) (by decide) (by decide)
theorem drawn_c {t : PyData} (h : Drawn t) : bentC 2 t = true := by
  obtain ⟨w, s, u, hw, hs, hu, rfl⟩ := h.ex
  simp only [bentC, List.all_cons, List.all_nil, (c_w w hw).1, (c_s s hs).1, (c_u u hu).1, c_t w hw s hs u hu, Bool.and_self, Bool.and_true]
  rfl
theorem drawn_ok {t : PyData} (h : Drawn t) : goodP t = true ∧ fin3 200 100 60000 t = true := by
  obtain ⟨w, s, u, hw, hs, hu, rfl⟩ := h.ex
  refine ⟨?_, three (c_w w hw).2.2.1 (c_s s hs).2.2.1 (c_u u hu).2.2.1⟩
  simp only [goodP, (c_w w hw).2.1, (c_s s hs).2.1, (c_u u hu).2.1, Bool.and_self]
theorem bent_fine {t r : PyData} (h : Drawn t) (hr : r ∈ bentP 2 t) : goodP r = true ∧ fin3 200 100 60000 r = true := by
  obtain ⟨w, s, u, hw, hs, hu, rfl⟩ := h.ex
  obtain ⟨w1, w2, w3, w4⟩ := c_w w hw
  obtain ⟨s1, s2, s3, s4⟩ := c_s s hs
  obtain ⟨u1, u2, u3, u4⟩ := c_u u hu
  rcases List.mem_append.mp hr with hr | hr
  · have hm : ∀ q ∈ moreP (.tuple [w, s, u]), goodP q = true ∧ fin3 200 100 60000 q = true := fun q hq => by
      obtain ⟨h1, h2⟩ := c_m w hw s hs u hu q hq
      exact ⟨h1, fin3_up h2 (by decide) (by decide) (by decide)⟩
    rcases List.mem_append.mp hr with hr | hr
    · rcases List.mem_append.mp hr with hr | hr
      · obtain ⟨h1, h2⟩ := c_k r hr
        exact ⟨h1, fin3_up h2 (by decide) (by decide) (by decide)⟩
      · exact hm r hr
    · exact hm r hr
  · obtain ⟨i, hi, hr⟩ := List.mem_flatMap.mp hr
    have hi : i < 3 := List.mem_range.mp hi
    obtain ⟨q, hq, rfl⟩ := List.mem_map.mp hr
    match i, hi with
    | 0, _ =>
      obtain ⟨h1, h2⟩ := w4 q hq
      exact ⟨by simp only [List.take_zero, List.nil_append, List.drop_succ_cons, List.drop_zero, List.cons_append, goodP, h1, s2, u2, Bool.and_self], three h2 s3 u3⟩
    | 1, _ =>
      obtain ⟨h1, h2⟩ := s4 q hq
      exact ⟨by simp only [List.take_succ_cons, List.take_zero, List.nil_append, List.drop_succ_cons, List.drop_zero, List.cons_append, goodP, h1, w2, u2, Bool.and_self], three w3 h2 u3⟩
    | 2, _ =>
      obtain ⟨h1, h2⟩ := u4 q hq
      exact ⟨by simp only [List.take_succ_cons, List.take_zero, List.nil_append, List.drop_succ_cons, List.drop_zero, List.cons_append, goodP, h1, w2, s2, Bool.and_self], three w3 s3 h2⟩
end K25

set_option Elab.async false
set_option linter.all false
set_option maxRecDepth 100000
set_option maxHeartbeats 4000000
namespace K25
open PySem L2 Rf
/-! ### a turn of the law, the law -/
theorem right_body {k : Nat} {S : Sto} {t : PyData} {x0 x1 x2 x3 x4 : Option D} (hg : goodP t = true) (hf : fin3 200 100 60000 t = true) : ∃ y3 y4, (sSeq (sPar [3, 4] (mCons (mA bRepr (mCons (mV 2) mNil)) (mCons (mA (runF (k + 6) 12) (mCons (mV 2) mNil)) mNil)))
    (sIf (mOr (mB (mOp dNe (mA bRepr (mCons (mLst (mCons (mA (runF (k + 6) 4) (mCons (mV 2) mNil)) (mCons (mA (runF (k + 6) 4) (mCons (mV 2) mNil)) mNil))) mNil)) (mA bRepr (mCons (mLst (mCons (mV 4) (mCons (mV 4) mNil))) mNil)))) (mB (mOp dNe (mA bRepr (mCons (mV 2) mNil)) (mV 3))))
    (sRet (mC (.bl false)))
    sNil)) [x0, x1, some (ofP t), x3, x4] S = .nx [x0, x1, some (ofP t), y3, y4] S := by
  have e1 := repr_of (S := S) hf
  have e2 : runF (k + 6) 12 [ofP t] S = _ := due_ok (k := k + 4) hg
  have e3 : runF (k + 6) 4 [ofP t] S = _ := rule_ok (k := k + 3) hg
  have e4 := repr2 (S := S) (b := ruleP t)
  have hl : (PyData.list [.bool (ruleP t), .bool (ruleP t)]).shown.length = (PyData.list [.bool (ruleP t), .bool (ruleP t)]).shown.length := rfl
  refine ⟨some (.str t.shown), some (.bl (ruleP t)), ?_⟩
  simp only [runB, sNil, sSeq, sPass, sRet, sRetN, sExpr, sIf, sAsg, sPar, sFor, outI, forL, stepL, turnL, gV, gIx, gTp, gsCons, gsNil, mV, mC, mOp, mU, mA, mCons, mNil, mTup, mLst, mLstC, mDict0, mSl, mPart, mNoP, mB, mAnd, mOr, mNot, mAndV, mOrV, mNotV, mIf, mChain, mVal, mRange1, mRange2, mLc, mYes, bndI, wipeR, lcL, optR, Res.thn, Res.bnd, Res.out, Rf.cellOf, Rf.intOf, Rf.lstOf, seqOf, srcOf, free, dIx, dSl, dBack, dNeg, dUpper, dAdd, dSub, dMul, dMod, dDiv, dPow, cmpI, dLt, dLe, dGt, dGe, dEq, dNe, dIn, dNotIn, dIsN, dNotN, ofB, bIsi, bLen, lenOf, bInt, bAbs, bMax2, bMin2, bList, bTuple, bAllAny, bSet, bSorted, List.map_cons, List.map_nil, List.replicate, List.cons_append, List.nil_append, List.getElem?_cons_zero, List.getElem?_cons_succ, List.set_cons_zero, List.set_cons_succ, List.length_cons, List.length_nil, e1, e2, e3, e4, ne_same, Nat.reduceAdd, few2, List.zip_cons_cons, List.zip_nil_left, List.foldl_cons, List.foldl_nil, Bool.false_eq_true, ↓reduceIte]
theorem right_ok {k p : Nat} {S : Sto} {a b c : Int} (h : Pot S p a b c) (c1 : c < 700000) : ∃ S' a' c', runF (k + 7) 14 [.loc p] S = .ok (.bl true) S' ∧ Pot S' p a' b c' ∧ c' ≤ c + 30 := by
  obtain ⟨w, s, u, S1, a1, d1, e1, hw, hs, hu, P1, q1⟩ := rule_draw (k := k + 3) h (by omega)
  have D1 : Drawn (.tuple [w, s, u]) := ⟨w, s, u, hw, List.mem_append_left _ hs, List.mem_append_left _ hu, rfl⟩
  have D2 : Drawn (.tuple [.str "first", .tuple [.int 0, .int 2], .str "x"]) := ⟨_, _, _, List.mem_cons_self .., List.mem_append_right _ (List.mem_singleton.mpr rfl), List.mem_append_right _ (List.mem_singleton.mpr rfl), rfl⟩
  generalize hT : (.tuple [w, s, u] : PyData) = T at e1 D1
  obtain ⟨r2, S2, a2, d2, e2, m2, P2, q2⟩ := bent_ok 2 k P1 (by omega) (drawn_c D1)
  obtain ⟨r3, S3, a3, d3, e3, m3, P3, q3⟩ := bent_ok 2 k P2 (by omega) (drawn_c D2)
  have e1 : runF (k + 6) 13 [.loc p] S = .ok (ofP T) S1 := e1
  have e2 : runF (k + 6) 10 [.loc p, ofP T, .int 2] S1 = .ok (ofP r2) S2 := e2
  have e3 : runF (k + 6) 10 [.loc p, .tup [.str "first", .tup [.int 0, .int 2], .str "x"], .int 2] S2 = .ok (ofP r3) S3 := e3
  refine ⟨S3, a3, d3, ?_, P3, by omega⟩
  show runB 5 (b__law_right (runF (k + 6))) _ _ = _
  unfold b__law_right
  have hB := fun {t : PyData} {x0 x1 x2 x3 x4 : Option D} => right_body (k := k) (S := S3) (t := t) (x0 := x0) (x1 := x1) (x2 := x2) (x3 := x3) (x4 := x4)
  generalize (sSeq (sPar [3, 4] (mCons (mA bRepr (mCons (mV 2) mNil)) (mCons (mA (runF (k + 6) 12) (mCons (mV 2) mNil)) mNil)))
    (sIf (mOr (mB (mOp dNe (mA bRepr (mCons (mLst (mCons (mA (runF (k + 6) 4) (mCons (mV 2) mNil)) (mCons (mA (runF (k + 6) 4) (mCons (mV 2) mNil)) mNil))) mNil)) (mA bRepr (mCons (mLst (mCons (mV 4) (mCons (mV 4) mNil))) mNil)))) (mB (mOp dNe (mA bRepr (mCons (mV 2) mNil)) (mV 3))))
    (sRet (mC (.bl false)))
    sNil)) = B at hB ⊢
  have fine : ∀ t ∈ [T, r2, r3], goodP t = true ∧ fin3 200 100 60000 t = true := by
    intro t ht
    simp only [List.mem_cons, List.not_mem_nil, or_false] at ht
    rcases ht with e | e | e <;> subst e
    · exact drawn_ok D1
    · exact bent_fine D1 m2
    · exact bent_fine D2 m3
  obtain ⟨ρ', ⟨x2, x3, x4, rfl⟩, hF⟩ := forL_all (g := gV 2) (b := B) (S := S3) (fun ρ => ∃ x2 x3 x4, ρ = [some (.loc p), some (ofP T), x2, x3, x4]) (ds := [ofP T, ofP r2, ofP r3]) (ρ := [some (.loc p), some (ofP T), none, none, none]) ⟨_, _, _, rfl⟩ fun d hd ρ hR => by
    obtain ⟨x2, x3, x4, rfl⟩ := hR
    obtain ⟨t, ht, rfl⟩ := List.mem_map.mp (show d ∈ [T, r2, r3].map ofP from hd)
    obtain ⟨h1, h2⟩ := fine t ht
    obtain ⟨y3, y4, e⟩ := hB (t := t) (x0 := some (.loc p)) (x1 := some (ofP T)) (x2 := x2) (x3 := x3) (x4 := x4) h1 h2
    exact ⟨_, _, rfl, e, _, _, _, rfl⟩
  simp only [runB, sNil, sSeq, sPass, sRet, sRetN, sExpr, sIf, sAsg, sPar, sFor, outI, gV, gIx, gTp, gsCons, gsNil, mV, mC, mOp, mU, mA, mCons, mNil, mTup, mLst, mLstC, mDict0, mSl, mPart, mNoP, mB, mAnd, mOr, mNot, mAndV, mOrV, mNotV, mIf, mChain, mVal, mRange1, mRange2, mLc, mYes, bndI, wipeR, lcL, optR, Res.thn, Res.bnd, Res.out, Rf.cellOf, Rf.intOf, Rf.lstOf, seqOf, srcOf, free, dIx, dSl, dBack, dNeg, dUpper, dAdd, dSub, dMul, dMod, dDiv, dPow, cmpI, dLt, dLe, dGt, dGe, dEq, dNe, dIn, dNotIn, dIsN, dNotN, ofB, bIsi, bLen, lenOf, bInt, bAbs, bMax2, bMin2, bList, bTuple, bAllAny, bSet, bSorted, List.map_cons, List.map_nil, List.replicate, List.cons_append, List.nil_append, List.getElem?_cons_zero, List.getElem?_cons_succ, List.set_cons_zero, List.set_cons_succ, List.length_cons, List.length_nil, e1, e2, e3, hF, Nat.reduceAdd, few2, few3, ↓reduceIte]
theorem law_body {k : Nat} {S : Sto} {ns : List Int} {j : Int} {x2 x3 : Option D} (hl : ns.length ≤ 63) (j0 : 0 ≤ j) (j1 : j < 100) : ∃ ρ2 S2, (sSeq (sAsg (mA (runF (k + 8) 6) (mCons (mV 0) (mCons (mV 1) mNil))) (gV 2))
    (sIf (mNot (mB (mA (bAllAny fun bs => bs.all id) (mCons (mLc (mRange1 (mCons (mC (.int 20)) mNil)) (gV 3) mYes (mA (runF (k + 8) 14) (mCons (mV 2) mNil)) (([("_law_turn", 3)] : List (Str × Nat)).map (·.2))) mNil))))
    (sRet (mC (.bl false)))
    sNil)) [some (.fro (ns.map D.int)), some (.int j), x2, x3] S = .nx ρ2 S2 ∧ ∃ x2 x3, ρ2 = [some (.fro (ns.map D.int)), some (.int j), x2, x3] := by
  obtain ⟨a, b, e1, P⟩ := pot_ok (k := k + 7) (S := S) hl j0 j1
  have e1 : runF (k + 8) 6 [.fro (ns.map D.int), .int j] S = _ := e1
  generalize S ++ [.lst [.int a, .int b, .int 0]] = S1 at e1 P
  obtain ⟨S2, hI, hA⟩ := all_yes (mi := (mRange1 (mCons (mC (.int 20)) mNil))) (g := gV 3) (me := (mA (runF (k + 8) 14) (mCons (mV 2) mNil))) (vs := (([("_law_turn", 3)] : List (Str × Nat)).map (·.2))) (ρ := [some (.fro (ns.map D.int)), some (.int j), some (.loc S.length), x3]) (S := S1) (items := (List.range 20).map fun (i : Nat) => .int (0 + (i : Int))) (fun n S' => ∃ a c, Pot S' S.length a b c ∧ c ≤ 30 * n) (by
    have hr : -(2 ^ 62) ≤ (20 : Int) ∧ (20 : Int) < 2 ^ 62 := by decide
    have ht : (20 : Int).toNat = 20 := rfl
    simp only [runB, sNil, sSeq, sPass, sRet, sRetN, sExpr, sIf, sAsg, sPar, sFor, outI, gV, gIx, gTp, gsCons, gsNil, mV, mC, mOp, mU, mA, mCons, mNil, mTup, mLst, mLstC, mDict0, mSl, mPart, mNoP, mB, mAnd, mOr, mNot, mAndV, mOrV, mNotV, mIf, mChain, mVal, mRange1, mRange2, mLc, mYes, bndI, wipeR, lcL, optR, Res.thn, Res.bnd, Res.out, Rf.cellOf, Rf.intOf, Rf.lstOf, seqOf, srcOf, free, dIx, dSl, dBack, dNeg, dUpper, dAdd, dSub, dMul, dMod, dDiv, dPow, cmpI, dLt, dLe, dGt, dGe, dEq, dNe, dIn, dNotIn, dIsN, dNotN, ofB, bIsi, bLen, lenOf, bInt, bAbs, bMax2, bMin2, bList, bTuple, bAllAny, bSet, bSorted, List.map_cons, List.map_nil, List.replicate, List.cons_append, List.nil_append, List.getElem?_cons_zero, List.getElem?_cons_succ, List.set_cons_zero, List.set_cons_succ, List.length_cons, List.length_nil, hr, ht, and_self, ↓reduceIte]) (by rw [List.length_map, List.length_range]; decide) ⟨a, 0, P, by decide⟩ fun n S' hn hI => by
    rw [List.length_map, List.length_range] at hn
    obtain ⟨a', c', P', hc⟩ := hI
    obtain ⟨S2, a2, d2, e2, P2, q2⟩ := right_ok (k := k + 1) P' (by omega)
    have e2 : runF (k + 8) 14 [.loc S.length] S' = _ := e2
    refine ⟨S2, ⟨a2, d2, P2, by omega⟩, fun d => ⟨_, rfl, ?_⟩⟩
    simp only [runB, sNil, sSeq, sPass, sRet, sRetN, sExpr, sIf, sAsg, sPar, sFor, outI, gV, gIx, gTp, gsCons, gsNil, mV, mC, mOp, mU, mA, mCons, mNil, mTup, mLst, mLstC, mDict0, mSl, mPart, mNoP, mB, mAnd, mOr, mNot, mAndV, mOrV, mNotV, mIf, mChain, mVal, mRange1, mRange2, mLc, mYes, bndI, wipeR, lcL, optR, Res.thn, Res.bnd, Res.out, Rf.cellOf, Rf.intOf, Rf.lstOf, seqOf, srcOf, free, dIx, dSl, dBack, dNeg, dUpper, dAdd, dSub, dMul, dMod, dDiv, dPow, cmpI, dLt, dLe, dGt, dGe, dEq, dNe, dIn, dNotIn, dIsN, dNotN, ofB, bIsi, bLen, lenOf, bInt, bAbs, bMax2, bMin2, bList, bTuple, bAllAny, bSet, bSorted, List.map_cons, List.map_nil, List.replicate, List.cons_append, List.nil_append, List.getElem?_cons_zero, List.getElem?_cons_succ, List.set_cons_zero, List.set_cons_succ, List.length_cons, List.length_nil, List.map_cons, List.map_nil, e2]
  refine ⟨[some (.fro (ns.map D.int)), some (.int j), some (.loc S.length), x3], S2, ?_, some (.loc S.length), x3, rfl⟩
  generalize hL : (mA (bAllAny fun bs => bs.all id) (mCons (mLc (mRange1 (mCons (mC (.int 20)) mNil)) (gV 3) mYes (mA (runF (k + 8) 14) (mCons (mV 2) mNil)) (([("_law_turn", 3)] : List (Str × Nat)).map (·.2))) mNil)) = L at hA ⊢
  simp only [runB, sNil, sSeq, sPass, sRet, sRetN, sExpr, sIf, sAsg, sPar, sFor, outI, gV, gIx, gTp, gsCons, gsNil, mV, mC, mOp, mU, mA, mCons, mNil, mTup, mLst, mLstC, mDict0, mSl, mPart, mNoP, mB, mAnd, mOr, mNot, mAndV, mOrV, mNotV, mIf, mChain, mVal, mRange1, mRange2, mLc, mYes, bndI, wipeR, lcL, optR, Res.thn, Res.bnd, Res.out, Rf.cellOf, Rf.intOf, Rf.lstOf, seqOf, srcOf, free, dIx, dSl, dBack, dNeg, dUpper, dAdd, dSub, dMul, dMod, dDiv, dPow, cmpI, dLt, dLe, dGt, dGe, dEq, dNe, dIn, dNotIn, dIsN, dNotN, ofB, bIsi, bLen, lenOf, bInt, bAbs, bMax2, bMin2, bList, bTuple, bAllAny, bSet, bSorted, List.map_cons, List.map_nil, List.replicate, List.cons_append, List.nil_append, List.getElem?_cons_zero, List.getElem?_cons_succ, List.set_cons_zero, List.set_cons_succ, List.length_cons, List.length_nil, e1, hA, Bool.not_true, Bool.false_eq_true, ↓reduceIte]
theorem law_ok {k : Nat} {S : Sto} {ns : List Int} (hl : ns.length ≤ 63) : ∃ S', runF (k + 9) 15 [.fro (ns.map D.int)] S = .ok (.bl true) S' := by
  show ∃ S', runB 4 (b_law (runF (k + 8))) _ _ = _
  unfold b_law
  have hB := fun {S : Sto} {j : Int} {x2 x3 : Option D} => law_body (k := k) (S := S) (ns := ns) (j := j) (x2 := x2) (x3 := x3) hl
  generalize (sSeq (sAsg (mA (runF (k + 8) 6) (mCons (mV 0) (mCons (mV 1) mNil))) (gV 2))
    (sIf (mNot (mB (mA (bAllAny fun bs => bs.all id) (mCons (mLc (mRange1 (mCons (mC (.int 20)) mNil)) (gV 3) mYes (mA (runF (k + 8) 14) (mCons (mV 2) mNil)) (([("_law_turn", 3)] : List (Str × Nat)).map (·.2))) mNil))))
    (sRet (mC (.bl false)))
    sNil)) = B at hB ⊢
  have few3 : few 3 = true := rfl
  generalize hn : (if (if (ns.length : Int) < 3 then (ns.length : Int) else 3) > 1 then (if (ns.length : Int) < 3 then (ns.length : Int) else 3) else 1) = m
  have m1 : m ≤ 3 ∧ 0 ≤ m := by split at hn <;> split at hn <;> omega
  have m0 : -(2 ^ 62) ≤ m ∧ m < 2 ^ 62 := by omega
  obtain ⟨ρ', S', ⟨x1, x2, x3, rfl⟩, hF⟩ := forL_inv (g := gV 1) (b := B) (fun ρ _ => ∃ x1 x2 x3, ρ = [some (.fro (ns.map D.int)), x1, x2, x3]) (ds := (List.range m.toNat).map fun (i : Nat) => .int (0 + (i : Int))) (ρ := [some (.fro (ns.map D.int)), none, none, none]) (S := S) ⟨_, _, _, rfl⟩ fun d hd ρ S hR => by
    obtain ⟨x1, x2, x3, rfl⟩ := hR
    obtain ⟨i, hi, rfl⟩ := List.mem_map.mp hd
    have hi := List.mem_range.mp hi
    obtain ⟨ρ2, S2, e, y2, y3, rfl⟩ := hB (S := S) (j := 0 + (i : Int)) (x2 := x2) (x3 := x3) (by omega) (by omega)
    exact ⟨_, _, _, _, rfl, e, _, _, _, rfl⟩
  refine ⟨S', ?_⟩
  simp only [runB, sNil, sSeq, sPass, sRet, sRetN, sExpr, sIf, sAsg, sPar, sFor, outI, gV, gIx, gTp, gsCons, gsNil, mV, mC, mOp, mU, mA, mCons, mNil, mTup, mLst, mLstC, mDict0, mSl, mPart, mNoP, mB, mAnd, mOr, mNot, mAndV, mOrV, mNotV, mIf, mChain, mVal, mRange1, mRange2, mLc, mYes, bndI, wipeR, lcL, optR, Res.thn, Res.bnd, Res.out, Rf.cellOf, Rf.intOf, Rf.lstOf, seqOf, srcOf, free, dIx, dSl, dBack, dNeg, dUpper, dAdd, dSub, dMul, dMod, dDiv, dPow, cmpI, dLt, dLe, dGt, dGe, dEq, dNe, dIn, dNotIn, dIsN, dNotN, ofB, bIsi, bLen, lenOf, bInt, bAbs, bMax2, bMin2, bList, bTuple, bAllAny, bSet, bSorted, List.map_cons, List.map_nil, List.replicate, List.cons_append, List.nil_append, List.getElem?_cons_zero, List.getElem?_cons_succ, List.set_cons_zero, List.set_cons_succ, List.length_cons, List.length_nil, List.length_map, Option.map_some, hn, m0, hF, and_self, ↓reduceIte]
end K25

set_option Elab.async false
set_option linter.all false
set_option maxRecDepth 100000
set_option maxHeartbeats 4000000
namespace K25
open PySem L2 Rf PyProof.Rows
abbrev PW : Program := PySem.Challenge.pw_handkept_k25_rules_of_any_value
theorem all_mk {w : World} {K : PySem.W.Frag} {h : Heap} {mg : Str → Option Value} {fa : Addr} (X : K.In h) (G : h.Ns mainGlobals mg) (hfa : mg "law" = some (.ref fa))
    {f_is_word f_is_integer f_is_tuple_of f_is_ascending f_is_rule f__is_skipped f__law_pot f__law_take f__law_of f__law_odd f__law_bent f__law_is_word f__law_due f__law_rule f__law_right f_law : Addr} {oc_is_word kV_is_word dc_is_word pm_is_word cd_is_word ct_is_word oc_is_integer kV_is_integer dc_is_integer pm_is_integer cd_is_integer ct_is_integer oc_is_tuple_of kV_is_tuple_of dc_is_tuple_of pm_is_tuple_of cd_is_tuple_of ct_is_tuple_of oc_is_ascending kV_is_ascending dc_is_ascending pm_is_ascending cd_is_ascending ct_is_ascending oc_is_rule kV_is_rule dc_is_rule pm_is_rule cd_is_rule ct_is_rule oc__is_skipped kV__is_skipped dc__is_skipped pm__is_skipped cd__is_skipped ct__is_skipped oc__law_pot kV__law_pot dc__law_pot pm__law_pot cd__law_pot ct__law_pot oc__law_take kV__law_take dc__law_take pm__law_take cd__law_take ct__law_take oc__law_of kV__law_of dc__law_of pm__law_of cd__law_of ct__law_of oc__law_odd kV__law_odd dc__law_odd pm__law_odd cd__law_odd ct__law_odd oc__law_bent kV__law_bent dc__law_bent pm__law_bent cd__law_bent ct__law_bent oc__law_is_word kV__law_is_word dc__law_is_word pm__law_is_word cd__law_is_word ct__law_is_word oc__law_due kV__law_due dc__law_due pm__law_due cd__law_due ct__law_due oc__law_rule kV__law_rule dc__law_rule pm__law_rule cd__law_rule ct__law_rule oc__law_right kV__law_right dc__law_right pm__law_right cd__law_right ct__law_right oc_law kV_law dc_law pm_law cd_law ct_law : Value} {od_is_word an_is_word od_is_integer an_is_integer od_is_tuple_of an_is_tuple_of od_is_ascending an_is_ascending od_is_rule an_is_rule od__is_skipped an__is_skipped od__law_pot an__law_pot od__law_take an__law_take od__law_of an__law_of od__law_odd an__law_odd od__law_bent an__law_bent od__law_is_word an__law_is_word od__law_due an__law_due od__law_rule an__law_rule od__law_right an__law_right od_law an_law : Option Addr} {sl_is_word sl_is_integer sl_is_tuple_of sl_is_ascending sl_is_rule sl__is_skipped sl__law_pot sl__law_take sl__law_of sl__law_odd sl__law_bent sl__law_is_word sl__law_due sl__law_rule sl__law_right sl_law : Array (Option Value)} {t_MOST_LETTERS t_LAST_PLACE : Tok}
    (a_is_word : PySem.W.nsIn K mainGlobals "is_word" = some (some (.ref f_is_word)))
    (l_is_word : K.lookup f_is_word = some ⟨oc_is_word, od_is_word, .func (PySem.W.fnOf "is_word" "is_word" (defArgs s_is_word) (defBody s_is_word) (defScope s_is_word) .none kV_is_word dc_is_word pm_is_word an_is_word cd_is_word ct_is_word), sl_is_word⟩)
    (c_is_word : PySem.W.codeIn K cd_is_word "is_word" = true)
    (k_is_word : PySem.W.keepIn K (.ref f_is_word) = true)
    (a_is_integer : PySem.W.nsIn K mainGlobals "is_integer" = some (some (.ref f_is_integer)))
    (l_is_integer : K.lookup f_is_integer = some ⟨oc_is_integer, od_is_integer, .func (PySem.W.fnOf "is_integer" "is_integer" (defArgs s_is_integer) (defBody s_is_integer) (defScope s_is_integer) .none kV_is_integer dc_is_integer pm_is_integer an_is_integer cd_is_integer ct_is_integer), sl_is_integer⟩)
    (c_is_integer : PySem.W.codeIn K cd_is_integer "is_integer" = true)
    (k_is_integer : PySem.W.keepIn K (.ref f_is_integer) = true)
    (a_is_tuple_of : PySem.W.nsIn K mainGlobals "is_tuple_of" = some (some (.ref f_is_tuple_of)))
    (l_is_tuple_of : K.lookup f_is_tuple_of = some ⟨oc_is_tuple_of, od_is_tuple_of, .func (PySem.W.fnOf "is_tuple_of" "is_tuple_of" (defArgs s_is_tuple_of) (defBody s_is_tuple_of) (defScope s_is_tuple_of) .none kV_is_tuple_of dc_is_tuple_of pm_is_tuple_of an_is_tuple_of cd_is_tuple_of ct_is_tuple_of), sl_is_tuple_of⟩)
    (c_is_tuple_of : PySem.W.codeIn K cd_is_tuple_of "is_tuple_of" = true)
    (k_is_tuple_of : PySem.W.keepIn K (.ref f_is_tuple_of) = true)
    (a_is_ascending : PySem.W.nsIn K mainGlobals "is_ascending" = some (some (.ref f_is_ascending)))
    (l_is_ascending : K.lookup f_is_ascending = some ⟨oc_is_ascending, od_is_ascending, .func (PySem.W.fnOf "is_ascending" "is_ascending" (defArgs s_is_ascending) (defBody s_is_ascending) (defScope s_is_ascending) .none kV_is_ascending dc_is_ascending pm_is_ascending an_is_ascending cd_is_ascending ct_is_ascending), sl_is_ascending⟩)
    (c_is_ascending : PySem.W.codeIn K cd_is_ascending "is_ascending" = true)
    (k_is_ascending : PySem.W.keepIn K (.ref f_is_ascending) = true)
    (a_is_rule : PySem.W.nsIn K mainGlobals "is_rule" = some (some (.ref f_is_rule)))
    (l_is_rule : K.lookup f_is_rule = some ⟨oc_is_rule, od_is_rule, .func (PySem.W.fnOf "is_rule" "is_rule" (defArgs s_is_rule) (defBody s_is_rule) (defScope s_is_rule) .none kV_is_rule dc_is_rule pm_is_rule an_is_rule cd_is_rule ct_is_rule), sl_is_rule⟩)
    (c_is_rule : PySem.W.codeIn K cd_is_rule "is_rule" = true)
    (k_is_rule : PySem.W.keepIn K (.ref f_is_rule) = true)
    (a__is_skipped : PySem.W.nsIn K mainGlobals "_is_skipped" = some (some (.ref f__is_skipped)))
    (l__is_skipped : K.lookup f__is_skipped = some ⟨oc__is_skipped, od__is_skipped, .func (PySem.W.fnOf "_is_skipped" "_is_skipped" (defArgs s__is_skipped) (defBody s__is_skipped) (defScope s__is_skipped) .none kV__is_skipped dc__is_skipped pm__is_skipped an__is_skipped cd__is_skipped ct__is_skipped), sl__is_skipped⟩)
    (c__is_skipped : PySem.W.codeIn K cd__is_skipped "_is_skipped" = true)
    (k__is_skipped : PySem.W.keepIn K (.ref f__is_skipped) = true)
    (a__law_pot : PySem.W.nsIn K mainGlobals "_law_pot" = some (some (.ref f__law_pot)))
    (l__law_pot : K.lookup f__law_pot = some ⟨oc__law_pot, od__law_pot, .func (PySem.W.fnOf "_law_pot" "_law_pot" (defArgs s__law_pot) (defBody s__law_pot) (defScope s__law_pot) .none kV__law_pot dc__law_pot pm__law_pot an__law_pot cd__law_pot ct__law_pot), sl__law_pot⟩)
    (c__law_pot : PySem.W.codeIn K cd__law_pot "_law_pot" = true)
    (k__law_pot : PySem.W.keepIn K (.ref f__law_pot) = true)
    (a__law_take : PySem.W.nsIn K mainGlobals "_law_take" = some (some (.ref f__law_take)))
    (l__law_take : K.lookup f__law_take = some ⟨oc__law_take, od__law_take, .func (PySem.W.fnOf "_law_take" "_law_take" (defArgs s__law_take) (defBody s__law_take) (defScope s__law_take) .none kV__law_take dc__law_take pm__law_take an__law_take cd__law_take ct__law_take), sl__law_take⟩)
    (c__law_take : PySem.W.codeIn K cd__law_take "_law_take" = true)
    (k__law_take : PySem.W.keepIn K (.ref f__law_take) = true)
    (a__law_of : PySem.W.nsIn K mainGlobals "_law_of" = some (some (.ref f__law_of)))
    (l__law_of : K.lookup f__law_of = some ⟨oc__law_of, od__law_of, .func (PySem.W.fnOf "_law_of" "_law_of" (defArgs s__law_of) (defBody s__law_of) (defScope s__law_of) .none kV__law_of dc__law_of pm__law_of an__law_of cd__law_of ct__law_of), sl__law_of⟩)
    (c__law_of : PySem.W.codeIn K cd__law_of "_law_of" = true)
    (k__law_of : PySem.W.keepIn K (.ref f__law_of) = true)
    (a__law_odd : PySem.W.nsIn K mainGlobals "_law_odd" = some (some (.ref f__law_odd)))
    (l__law_odd : K.lookup f__law_odd = some ⟨oc__law_odd, od__law_odd, .func (PySem.W.fnOf "_law_odd" "_law_odd" (defArgs s__law_odd) (defBody s__law_odd) (defScope s__law_odd) .none kV__law_odd dc__law_odd pm__law_odd an__law_odd cd__law_odd ct__law_odd), sl__law_odd⟩)
    (c__law_odd : PySem.W.codeIn K cd__law_odd "_law_odd" = true)
    (k__law_odd : PySem.W.keepIn K (.ref f__law_odd) = true)
    (a__law_bent : PySem.W.nsIn K mainGlobals "_law_bent" = some (some (.ref f__law_bent)))
    (l__law_bent : K.lookup f__law_bent = some ⟨oc__law_bent, od__law_bent, .func (PySem.W.fnOf "_law_bent" "_law_bent" (defArgs s__law_bent) (defBody s__law_bent) (defScope s__law_bent) .none kV__law_bent dc__law_bent pm__law_bent an__law_bent cd__law_bent ct__law_bent), sl__law_bent⟩)
    (c__law_bent : PySem.W.codeIn K cd__law_bent "_law_bent" = true)
    (k__law_bent : PySem.W.keepIn K (.ref f__law_bent) = true)
    (a__law_is_word : PySem.W.nsIn K mainGlobals "_law_is_word" = some (some (.ref f__law_is_word)))
    (l__law_is_word : K.lookup f__law_is_word = some ⟨oc__law_is_word, od__law_is_word, .func (PySem.W.fnOf "_law_is_word" "_law_is_word" (defArgs s__law_is_word) (defBody s__law_is_word) (defScope s__law_is_word) .none kV__law_is_word dc__law_is_word pm__law_is_word an__law_is_word cd__law_is_word ct__law_is_word), sl__law_is_word⟩)
    (c__law_is_word : PySem.W.codeIn K cd__law_is_word "_law_is_word" = true)
    (k__law_is_word : PySem.W.keepIn K (.ref f__law_is_word) = true)
    (a__law_due : PySem.W.nsIn K mainGlobals "_law_due" = some (some (.ref f__law_due)))
    (l__law_due : K.lookup f__law_due = some ⟨oc__law_due, od__law_due, .func (PySem.W.fnOf "_law_due" "_law_due" (defArgs s__law_due) (defBody s__law_due) (defScope s__law_due) .none kV__law_due dc__law_due pm__law_due an__law_due cd__law_due ct__law_due), sl__law_due⟩)
    (c__law_due : PySem.W.codeIn K cd__law_due "_law_due" = true)
    (k__law_due : PySem.W.keepIn K (.ref f__law_due) = true)
    (a__law_rule : PySem.W.nsIn K mainGlobals "_law_rule" = some (some (.ref f__law_rule)))
    (l__law_rule : K.lookup f__law_rule = some ⟨oc__law_rule, od__law_rule, .func (PySem.W.fnOf "_law_rule" "_law_rule" (defArgs s__law_rule) (defBody s__law_rule) (defScope s__law_rule) .none kV__law_rule dc__law_rule pm__law_rule an__law_rule cd__law_rule ct__law_rule), sl__law_rule⟩)
    (c__law_rule : PySem.W.codeIn K cd__law_rule "_law_rule" = true)
    (k__law_rule : PySem.W.keepIn K (.ref f__law_rule) = true)
    (a__law_right : PySem.W.nsIn K mainGlobals "_law_right" = some (some (.ref f__law_right)))
    (l__law_right : K.lookup f__law_right = some ⟨oc__law_right, od__law_right, .func (PySem.W.fnOf "_law_right" "_law_right" (defArgs s__law_right) (defBody s__law_right) (defScope s__law_right) .none kV__law_right dc__law_right pm__law_right an__law_right cd__law_right ct__law_right), sl__law_right⟩)
    (c__law_right : PySem.W.codeIn K cd__law_right "_law_right" = true)
    (k__law_right : PySem.W.keepIn K (.ref f__law_right) = true)
    (a_law : PySem.W.nsIn K mainGlobals "law" = some (some (.ref f_law)))
    (l_law : K.lookup f_law = some ⟨oc_law, od_law, .func (PySem.W.fnOf "law" "law" (defArgs s_law) (defBody s_law) (defScope s_law) .none kV_law dc_law pm_law an_law cd_law ct_law), sl_law⟩)
    (c_law : PySem.W.codeIn K cd_law "law" = true)
    (k_law : PySem.W.keepIn K (.ref f_law) = true)
    (z_abs : PySem.W.nsIn K mainGlobals "abs" = some none)
    (z_all : PySem.W.nsIn K mainGlobals "all" = some none)
    (z_bool : PySem.W.nsIn K mainGlobals "bool" = some none)
    (z_int : PySem.W.nsIn K mainGlobals "int" = some none)
    (z_isinstance : PySem.W.nsIn K mainGlobals "isinstance" = some none)
    (z_len : PySem.W.nsIn K mainGlobals "len" = some none)
    (z_list : PySem.W.nsIn K mainGlobals "list" = some none)
    (z_max : PySem.W.nsIn K mainGlobals "max" = some none)
    (z_min : PySem.W.nsIn K mainGlobals "min" = some none)
    (z_range : PySem.W.nsIn K mainGlobals "range" = some none)
    (z_repr : PySem.W.nsIn K mainGlobals "repr" = some none)
    (z_set : PySem.W.nsIn K mainGlobals "set" = some none)
    (z_sorted : PySem.W.nsIn K mainGlobals "sorted" = some none)
    (z_str : PySem.W.nsIn K mainGlobals "str" = some none)
    (z_tuple : PySem.W.nsIn K mainGlobals "tuple" = some none)
    (v_MOST_LETTERS : PySem.W.nsIn K mainGlobals "MOST_LETTERS" = some (some (.int 8 t_MOST_LETTERS)))
    (v_LAST_PLACE : PySem.W.nsIn K mainGlobals "LAST_PLACE" = some (some (.int 5 t_LAST_PLACE)))
    : ∃ fd : FuncData, (∀ (s : Shared) (v : Value), BindsTo s fd ⟨[v], []⟩ [("_law_script", v)]) ∧ ∀ base : Heap, K.In base → base.Ns mainGlobals mg → SysD base → FnG PW w K mg base 9 fa fd ["_law_script"] (spM ⟨K, w, fun _ => none⟩ 1 (runF 9 15)) := by
  have e := hfa.symm.trans (PySem.W.mg_of X G a_law)
  cases e
  have T : Facts mg := ⟨PySem.W.mg_none_of X G z_abs, PySem.W.mg_none_of X G z_all, PySem.W.mg_none_of X G z_bool, PySem.W.mg_none_of X G z_int, PySem.W.mg_none_of X G z_isinstance, PySem.W.mg_none_of X G z_len, PySem.W.mg_none_of X G z_list, PySem.W.mg_none_of X G z_max, PySem.W.mg_none_of X G z_min, PySem.W.mg_none_of X G z_range, PySem.W.mg_none_of X G z_repr, PySem.W.mg_none_of X G z_set, PySem.W.mg_none_of X G z_sorted, PySem.W.mg_none_of X G z_str, PySem.W.mg_none_of X G z_tuple, ⟨_, PySem.W.mg_of X G v_MOST_LETTERS⟩, ⟨_, PySem.W.mg_of X G v_LAST_PLACE⟩⟩
  have F_is_word := fun_mk (st := s_is_word) l_is_word c_is_word k_is_word
  have F_is_integer := fun_mk (st := s_is_integer) l_is_integer c_is_integer k_is_integer
  have F_is_tuple_of := fun_mk (st := s_is_tuple_of) l_is_tuple_of c_is_tuple_of k_is_tuple_of
  have F_is_ascending := fun_mk (st := s_is_ascending) l_is_ascending c_is_ascending k_is_ascending
  have F_is_rule := fun_mk (st := s_is_rule) l_is_rule c_is_rule k_is_rule
  have F__is_skipped := fun_mk (st := s__is_skipped) l__is_skipped c__is_skipped k__is_skipped
  have F__law_pot := fun_mk (st := s__law_pot) l__law_pot c__law_pot k__law_pot
  have F__law_take := fun_mk (st := s__law_take) l__law_take c__law_take k__law_take
  have F__law_of := fun_mk (st := s__law_of) l__law_of c__law_of k__law_of
  have F__law_odd := fun_mk (st := s__law_odd) l__law_odd c__law_odd k__law_odd
  have F__law_bent := fun_mk (st := s__law_bent) l__law_bent c__law_bent k__law_bent
  have F__law_is_word := fun_mk (st := s__law_is_word) l__law_is_word c__law_is_word k__law_is_word
  have F__law_due := fun_mk (st := s__law_due) l__law_due c__law_due k__law_due
  have F__law_rule := fun_mk (st := s__law_rule) l__law_rule c__law_rule k__law_rule
  have F__law_right := fun_mk (st := s__law_right) l__law_right c__law_right k__law_right
  have F_law := fun_mk (st := s_law) l_law c_law k_law
  have DD : Ds K mg := ⟨⟨_, _, PySem.W.mg_of X G a_is_word, F_is_word⟩, ⟨_, _, PySem.W.mg_of X G a_is_integer, F_is_integer⟩, ⟨_, _, PySem.W.mg_of X G a_is_tuple_of, F_is_tuple_of⟩, ⟨_, _, PySem.W.mg_of X G a_is_ascending, F_is_ascending⟩, ⟨_, _, PySem.W.mg_of X G a_is_rule, F_is_rule⟩, ⟨_, _, PySem.W.mg_of X G a__is_skipped, F__is_skipped⟩, ⟨_, _, PySem.W.mg_of X G a__law_pot, F__law_pot⟩, ⟨_, _, PySem.W.mg_of X G a__law_take, F__law_take⟩, ⟨_, _, PySem.W.mg_of X G a__law_of, F__law_of⟩, ⟨_, _, PySem.W.mg_of X G a__law_odd, F__law_odd⟩, ⟨_, _, PySem.W.mg_of X G a__law_bent, F__law_bent⟩, ⟨_, _, PySem.W.mg_of X G a__law_is_word, F__law_is_word⟩, ⟨_, _, PySem.W.mg_of X G a__law_due, F__law_due⟩, ⟨_, _, PySem.W.mg_of X G a__law_rule, F__law_rule⟩, ⟨_, _, PySem.W.mg_of X G a__law_right, F__law_right⟩, ⟨_, _, PySem.W.mg_of X G a_law, F_law⟩⟩
  refine ⟨_, fun s v => ?_, fun base _ _ sm => fnG_of F_law sc_law rfl rfl rfl sm fun cdv A outer s H hr o => p_law T (all_ok (P := PW) (w := w) (K := K) (Y := ⟨K, w, fun _ => none⟩) rfl rfl sm T DD 8) hr o⟩
  exact .of_eq rfl

theorem walk {l : PySem.W.OpenLaw} {q : Program} {loose : List Str} {XP : (Str → Option Value) → Heap → Prop} {YP : World → Heap → Prop} {d : DefRec} {K : Params → PySem.W.Frag} (hn : l.most = some 63) (hdf : d.params.defaults = []) (hi : importsNone q = true)
    (hY : ∀ (w : World) (h : Heap), YP w h → (K w.params).In h)
    (F : ∀ (w : World) (mg : Str → Option Value) (fa : Addr) (h : Heap), (K w.params).In h → h.Ns mainGlobals mg → mg d.name = some (.ref fa) →
      ∃ fd : FuncData, (∀ (s : Shared) (u : Value), BindsTo s fd ⟨[u], []⟩ [("_law_script", u)]) ∧ ∀ base : Heap, (K w.params).In base → base.Ns mainGlobals mg → SysD base → FnG l.prog w (K w.params) mg base 9 fa fd ["_law_script"] (spM ⟨K w.params, w, fun _ => none⟩ 1 (runF 9 15))) :
    PySem.W.WalkO q loose XP YP l.row.toRowW d [] (fun f vs => PySem.call f vs) :=
  walkG (n := 63) (k := 9) (x := "_law_script") (sp := fun w => spM ⟨K w.params, w, fun _ => none⟩ 1 (runF 9 15)) hn (by decide) hdf ⟨rfl, by decide, by decide⟩ hi hY F fun w H a ns hl _ hS => by
    obtain ⟨F, st, rd⟩ := script_rp (Y := ⟨K w.params, w, fun _ => none⟩) hS
    obtain ⟨S', e⟩ := law_ok (k := 0) (S := []) hl
    refine ⟨F, [], [], [.fro (ns.map D.int)], st, rd, rfl, ?_⟩
    have e : runF 9 15 [.fro (ns.map D.int)] [] = .ok (.bl true) S' := e
    rw [e]
    intro as' F' H' v _ _ r
    cases r
    rfl
end K25
open PySem PySem.W PyProof.Rows
set_option maxHeartbeats 0 in
theorem PySem.Challenge.cw_handkept_k25_rules_of_any_value_holds : PySem.Challenge.rw_handkept_k25_rules_of_any_value.Holds := by
  w_on; o_law; k_head; (case hw => w_witness2)
  k_fill
  refine K25.walk (l := PySem.Challenge.rw_handkept_k25_rules_of_any_value) rfl rfl (by decide +kernel) (fun w h Y => PySem.W.kIn_of Y) ?F
  case F =>
    intro w mg fa h KX G hmg
    refine' K25.all_mk KX G hmg ?a_is_word ?l_is_word ?c_is_word ?k_is_word ?a_is_integer ?l_is_integer ?c_is_integer ?k_is_integer ?a_is_tuple_of ?l_is_tuple_of ?c_is_tuple_of ?k_is_tuple_of ?a_is_ascending ?l_is_ascending ?c_is_ascending ?k_is_ascending ?a_is_rule ?l_is_rule ?c_is_rule ?k_is_rule ?a__is_skipped ?l__is_skipped ?c__is_skipped ?k__is_skipped ?a__law_pot ?l__law_pot ?c__law_pot ?k__law_pot ?a__law_take ?l__law_take ?c__law_take ?k__law_take ?a__law_of ?l__law_of ?c__law_of ?k__law_of ?a__law_odd ?l__law_odd ?c__law_odd ?k__law_odd ?a__law_bent ?l__law_bent ?c__law_bent ?k__law_bent ?a__law_is_word ?l__law_is_word ?c__law_is_word ?k__law_is_word ?a__law_due ?l__law_due ?c__law_due ?k__law_due ?a__law_rule ?l__law_rule ?c__law_rule ?k__law_rule ?a__law_right ?l__law_right ?c__law_right ?k__law_right ?a_law ?l_law ?c_law ?k_law ?z_abs ?z_all ?z_bool ?z_int ?z_isinstance ?z_len ?z_list ?z_max ?z_min ?z_range ?z_repr ?z_set ?z_sorted ?z_str ?z_tuple ?v_MOST_LETTERS ?v_LAST_PLACE
    (case a_is_word => first | k_is | rfl)
    (case l_is_word => first | k_is | rfl)
    (case c_is_word => first | k_is | rfl)
    (case k_is_word => first | k_is | rfl)
    (case a_is_integer => first | k_is | rfl)
    (case l_is_integer => first | k_is | rfl)
    (case c_is_integer => first | k_is | rfl)
    (case k_is_integer => first | k_is | rfl)
    (case a_is_tuple_of => first | k_is | rfl)
    (case l_is_tuple_of => first | k_is | rfl)
    (case c_is_tuple_of => first | k_is | rfl)
    (case k_is_tuple_of => first | k_is | rfl)
    (case a_is_ascending => first | k_is | rfl)
    (case l_is_ascending => first | k_is | rfl)
    (case c_is_ascending => first | k_is | rfl)
    (case k_is_ascending => first | k_is | rfl)
    (case a_is_rule => first | k_is | rfl)
    (case l_is_rule => first | k_is | rfl)
    (case c_is_rule => first | k_is | rfl)
    (case k_is_rule => first | k_is | rfl)
    (case a__is_skipped => first | k_is | rfl)
    (case l__is_skipped => first | k_is | rfl)
    (case c__is_skipped => first | k_is | rfl)
    (case k__is_skipped => first | k_is | rfl)
    (case a__law_pot => first | k_is | rfl)
    (case l__law_pot => first | k_is | rfl)
    (case c__law_pot => first | k_is | rfl)
    (case k__law_pot => first | k_is | rfl)
    (case a__law_take => first | k_is | rfl)
    (case l__law_take => first | k_is | rfl)
    (case c__law_take => first | k_is | rfl)
    (case k__law_take => first | k_is | rfl)
    (case a__law_of => first | k_is | rfl)
    (case l__law_of => first | k_is | rfl)
    (case c__law_of => first | k_is | rfl)
    (case k__law_of => first | k_is | rfl)
    (case a__law_odd => first | k_is | rfl)
    (case l__law_odd => first | k_is | rfl)
    (case c__law_odd => first | k_is | rfl)
    (case k__law_odd => first | k_is | rfl)
    (case a__law_bent => first | k_is | rfl)
    (case l__law_bent => first | k_is | rfl)
    (case c__law_bent => first | k_is | rfl)
    (case k__law_bent => first | k_is | rfl)
    (case a__law_is_word => first | k_is | rfl)
    (case l__law_is_word => first | k_is | rfl)
    (case c__law_is_word => first | k_is | rfl)
    (case k__law_is_word => first | k_is | rfl)
    (case a__law_due => first | k_is | rfl)
    (case l__law_due => first | k_is | rfl)
    (case c__law_due => first | k_is | rfl)
    (case k__law_due => first | k_is | rfl)
    (case a__law_rule => first | k_is | rfl)
    (case l__law_rule => first | k_is | rfl)
    (case c__law_rule => first | k_is | rfl)
    (case k__law_rule => first | k_is | rfl)
    (case a__law_right => first | k_is | rfl)
    (case l__law_right => first | k_is | rfl)
    (case c__law_right => first | k_is | rfl)
    (case k__law_right => first | k_is | rfl)
    (case a_law => first | k_is | rfl)
    (case l_law => first | k_is | rfl)
    (case c_law => first | k_is | rfl)
    (case k_law => first | k_is | rfl)
    (case z_abs => first | k_is | rfl)
    (case z_all => first | k_is | rfl)
    (case z_bool => first | k_is | rfl)
    (case z_int => first | k_is | rfl)
    (case z_isinstance => first | k_is | rfl)
    (case z_len => first | k_is | rfl)
    (case z_list => first | k_is | rfl)
    (case z_max => first | k_is | rfl)
    (case z_min => first | k_is | rfl)
    (case z_range => first | k_is | rfl)
    (case z_repr => first | k_is | rfl)
    (case z_set => first | k_is | rfl)
    (case z_sorted => first | k_is | rfl)
    (case z_str => first | k_is | rfl)
    (case z_tuple => first | k_is | rfl)
    (case v_MOST_LETTERS => first | k_is | rfl)
    (case v_LAST_PLACE => first | k_is | rfl)


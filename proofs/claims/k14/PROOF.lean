import PyProof.Rows.All
import Wide.All
import OpenK.AllK
import Wide.FinOn
import HandS.ForMost
import HandS.ForExc
import HandS.More
import HandS.IsInst
import HandS.Star
import HandS.ExcInit
import HandS.ExcField
import HandS.FStr
import HandS.ExcCtx
import HandS.SortInts
import KE.KOpsOwn
import HandS.ExcIs
import HandS.ClsMeth
import HandS.Property
import HandS.SortRule
import HandS.Strs
import HandS.SetBool
import HandS.Zip
import HandS.OwnEq
import HandS.TryMany
import HandS.Small
import HandS.Style
import KE.KRevSl
import KE.KSuper
import HandS.Defaults
import HandS.MakeKwOnly
import HandS.Flow
import HandS.Dict
import HandS.Conv
import KE.GoesZip
import KE.GoesMore
import HandS.DictComp
import KE.SortData
import HandS.Deep
import HandS.IterVal
import HandS.Head0
import HandS.Head1
import HandS.Head2
import HandS.HeadEnd
import HandS.HeadHook1
import HandS.HeadHook2
import HandS.HeadNt
import HandS.WordsDict
import KE.GoesRaise
import HandS.TupAny
import HandS.FStrTup
import HandS.Text
import PySem.Challenge.RW_gaugemiss_k14_gauge_refusals
set_option Elab.async false
set_option linter.all false
set_option maxRecDepth 100000
set_option maxHeartbeats 2000000
namespace G
open PySem L2
/-- the classes of the program -/
inductive Cn where
  | GaugeError | BadStretch | NoLevel | Apart | BadNeed | BadLiars | BadGauge | DuplicateGauge | UnknownGauge | MissingReading | BadRule | BadText | BadLine | SharedFault | BadPaper | NoBound
  | BadLimit | NoCase | NoTruth | NoTick | NotPossible | NothingToUndo | NothingToRedo | NotRanked | NoRule
  | Stretch | Levels | Gauge | CoarseGauge | LateGauge | LateCoarseGauge | Rack | Rule | Leaf | Rank | Trim | Weigh | Miss | Case | Twins | Keeper | Desk | SteadyDesk | Finder
  | other (n : Nat)
structure Bs where
  K : PySem.W.Frag
  cl : Cn → Addr
structure Wc where
  B : Bs
  mu : Addr → Prop
  box : Addr → Prop
def Wc.plus (W : Wc) (D : Addr) : Wc := ⟨W.B, fun a => W.mu a ∨ a = D, W.box⟩
def Kp (W : Wc) (H H' : Hp) : Prop := ∀ a o, ¬ W.mu a → H a = some o → H' a = some o
/-- the box of draws at b: its cells, the place, what is pending, the salt -/
def BoxAt (b : Addr) (H : Hp) : Prop := ∃ (c : Addr) (ns : List Int) (i p s : Int), b ≠ c ∧ H b = some (.lst [.ref c, .int i, .int p, .int s]) ∧ H c = some (.lst (ns.map V.int)) ∧ 0 ≤ i ∧ 0 ≤ p
/-- the core, what the changing objects are, and what is wished of errors that leave -/
structure Wd extends Wc where
  ok : Hp → Prop
  live : ∀ H a, ok H → mu a → ∃ o, H a = some o
  st : ∀ H p o, ok H → ¬ mu p → ok (upd H p o)
  wish : Hp → Prop
  wst : ∀ H H', (∀ a o, ¬ mu a → H a = some o → H' a = some o) → ok H' → wish H → wish H'
  hasbox : ∀ H b, ok H → box b → BoxAt b H
  boxset : ∀ H b c i p s i' p' s', ok H → box b → H b = some (.lst [.ref c, .int i, .int p, .int s]) → 0 ≤ i' → 0 ≤ p' → ok (upd H b (.lst [.ref c, .int i', .int p', .int s']))
  boxmu : ∀ b, box b → mu b
  oke : ∀ H H', ok H → (∀ a o, H a = some o → H' a = some o) → ok H'
instance : Coe Wd Wc := ⟨Wd.toWc⟩
structure Ext (W : Wd) (H H' : Hp) : Prop where
  keep : Kp W H H'
  ok : W.ok H'
theorem Ext.refl {W : Wd} {H : Hp} (h : W.ok H) : Ext W H H := ⟨fun _ _ _ e => e, h⟩
theorem Ext.trans {W : Wd} {H H1 H2 : Hp} (a : Ext W H H1) (b : Ext W H1 H2) : Ext W H H2 := ⟨fun c o n e => b.keep c o n (a.keep c o n e), b.ok⟩
theorem fresh_mu {W : Wd} {H : Hp} {p : Addr} (h : W.ok H) (n : H p = none) : ¬ W.mu p := fun m => by
  obtain ⟨o, e⟩ := W.live H p h m
  rw [n] at e
  cases e
theorem Ext.new {W : Wd} {H : Hp} {p : Addr} {o : HO} (h : W.ok H) (n : H p = none) : Ext W H (upd H p o) :=
  ⟨fun a u _ e => by rw [upd_ne (ne_of_none e n)]; exact e, W.st H p o h (fresh_mu h n)⟩
/-- the world where a new list at D, not there in H1, is kept apart: it holds xs -/
def Wd.plus (W : Wd) (D : Addr) (xs : List V) (H1 : Hp) (n : H1 D = none) (o1 : W.ok H1) (w1 : W.wish H1) : Wd where
  toWc := W.toWc.plus D
  ok := fun H => W.ok H ∧ H D = some (.lst xs)
  live := fun H a ⟨h, e⟩ m => by
    rcases m with m | m
    · exact W.live H a h m
    · subst m; exact ⟨_, e⟩
  st := fun H p o ⟨h, e⟩ m => ⟨W.st H p o h (fun z => m (.inl z)), by rw [upd_ne (fun z => m (.inr z.symm))]; exact e⟩
  wish := fun H => (∀ a o, ¬ W.mu a → H1 a = some o → H a = some o)
  wst := fun H H' k _ w a o m e => k a o (fun z => z.elim m fun z => by subst z; rw [n] at e; cases e) (w a o m e)
  hasbox := fun H b ⟨h, _⟩ hb => W.hasbox H b h hb
  boxset := fun H b c i p s i' p' s' ⟨h, e⟩ hb q h1 h2 => ⟨W.boxset H b c i p s i' p' s' h hb q h1 h2, by
    have z : D ≠ b := fun z => by
      subst z
      exact fresh_mu o1 n (W.boxmu _ hb)
    rw [upd_ne z]; exact e⟩
  boxmu := fun b hb => .inl (W.boxmu b hb)
  oke := fun H H' ⟨h, e⟩ k => ⟨W.oke H H' h k, k _ _ e⟩
/-- W' is W with more objects that change -/
structure Sub (W W' : Wd) : Prop where
  B : W'.B = W.B
  ok : ∀ H, W'.ok H → W.ok H
  wish : ∀ H, W'.ok H → W'.wish H → W.wish H
theorem Sub.refl (W : Wd) : Sub W W := ⟨rfl, fun _ h => h, fun _ _ h => h⟩
theorem Sub.trans {W W1 W2 : Wd} (a : Sub W W1) (b : Sub W1 W2) : Sub W W2 := ⟨b.B.trans a.B, fun H h => a.ok H (b.ok H h), fun H o h => a.wish H (b.ok H o) (b.wish H o h)⟩
theorem Sub.plus {W : Wd} {D : Addr} {xs : List V} {H1 : Hp} {n : H1 D = none} {o1 : W.ok H1} {w1 : W.wish H1} : Sub W (W.plus D xs H1 n o1 w1) :=
  ⟨rfl, fun _ h => h.1, fun H h w => W.wst H1 H w h.1 w1⟩
class Rep (α : Type) where
  dn : Wc → Hp → V → α → Prop
  mono : ∀ {W : Wc} {H H' : Hp} {v : V} {a : α}, Kp W H H' → dn W H v a → dn W H' v a
  grow : ∀ {W : Wc} {H : Hp} {v : V} {a : α} (D : Addr), H D = none → dn W H v a → dn (W.plus D) H v a
  shrink : ∀ {W : Wc} {H : Hp} {v : V} {a : α} (D : Addr), dn (W.plus D) H v a → dn W H v a
abbrev den {α : Type} [r : Rep α] (W : Wc) (H : Hp) (v : V) (a : α) : Prop := r.dn W H v a
inductive Dl {α : Type} (f : V → α → Prop) : List V → List α → Prop
  | nil : Dl f [] []
  | cons {v : V} {a : α} {vs : List V} {as : List α} : f v a → Dl f vs as → Dl f (v :: vs) (a :: as)
theorem Dl.imp {α : Type} {f g : V → α → Prop} (h : ∀ v a, f v a → g v a) : ∀ {vs : List V} {as : List α}, Dl f vs as → Dl g vs as
  | _, _, .nil => .nil
  | _, _, .cons x y => .cons (h _ _ x) (y.imp h)
theorem Dl.length {α : Type} {f : V → α → Prop} : ∀ {vs : List V} {as : List α}, Dl f vs as → vs.length = as.length
  | _, _, .nil => rfl
  | _, _, .cons _ y => congrArg (· + 1) y.length
theorem Dl.append {α : Type} {f : V → α → Prop} : ∀ {vs ws : List V} {as bs : List α}, Dl f vs as → Dl f ws bs → Dl f (vs ++ ws) (as ++ bs)
  | _, _, _, _, .nil, h => h
  | _, _, _, _, .cons x y, h => .cons x (y.append h)
theorem Dl.at {α : Type} {f : V → α → Prop} : ∀ {vs : List V} {as : List α} {i : Nat} {v : V}, Dl f vs as → vs[i]? = some v → ∃ a, as[i]? = some a ∧ f v a
  | _, _, _, _, .nil, h => by simp at h
  | _, _, 0, _, .cons x y, h => ⟨_, rfl, by simp at h; subst h; exact x⟩
  | _, _, i + 1, _, .cons x y, h => by
    obtain ⟨a, h1, h2⟩ := Dl.at (i := i) y (by simpa using h)
    exact ⟨a, by simpa using h1, h2⟩
theorem Dl.at' {α : Type} {f : V → α → Prop} : ∀ {vs : List V} {as : List α} {i : Nat} {a : α}, Dl f vs as → as[i]? = some a → ∃ v, vs[i]? = some v ∧ f v a
  | _, _, _, _, .nil, h => by simp at h
  | _, _, 0, _, .cons x y, h => ⟨_, rfl, by simp at h; subst h; exact x⟩
  | _, _, i + 1, _, .cons x y, h => by
    obtain ⟨a, h1, h2⟩ := Dl.at' (i := i) y (by simpa using h)
    exact ⟨a, by simpa using h1, h2⟩
theorem Dl.ints {vs : List V} {as : List Int} (h : Dl (fun v (a : Int) => v = .int a) vs as) : vs = as.map V.int := by
  induction h with
  | nil => rfl
  | cons x _ ih => rw [x, ih]; rfl
theorem Dl.of_ints : ∀ as : List Int, Dl (fun v (a : Int) => v = .int a) (as.map V.int) as
  | [] => .nil
  | _ :: r => .cons rfl (Dl.of_ints r)
/-- a list that does not change now; a tuple: tracked, or of the written part -/
def Lq (W : Wc) (H : Hp) (p : Addr) (vs : List V) : Prop := ¬ W.mu p ∧ H p = some (.lst vs)
def Tq (W : Wc) (H : Hp) (p : Addr) (vs : List V) : Prop := ¬ W.mu p ∧ H p = some (.tup vs)
theorem Lq.sq {W : Wc} {H : Hp} {p : Addr} {vs : List V} (h : Lq W H p vs) : SqL W.B.K H p vs := .inl (.inl h.2)
theorem Tq.sq {W : Wc} {H : Hp} {p : Addr} {vs : List V} (h : Tq W H p vs) : SqT W.B.K H p vs := .inl (.inl h.2)
theorem Lq.mono {W : Wc} {H H' : Hp} {p : Addr} {vs : List V} (e : Kp W H H') (h : Lq W H p vs) : Lq W H' p vs := ⟨h.1, e _ _ h.1 h.2⟩
theorem Tq.mono {W : Wc} {H H' : Hp} {p : Addr} {vs : List V} (e : Kp W H H') (h : Tq W H p vs) : Tq W H' p vs := ⟨h.1, e _ _ h.1 h.2⟩
theorem mu_grow {W : Wc} {H : Hp} {p D : Addr} {o : HO} (n : H D = none) (m : ¬ W.mu p) (h : H p = some o) : ¬ (W.plus D).mu p := fun z => z.elim m fun z => by
  subst z
  rw [n] at h
  cases h
theorem Lq.grow {W : Wc} {H : Hp} {p : Addr} {vs : List V} (D : Addr) (n : H D = none) (h : Lq W H p vs) : Lq (W.plus D) H p vs := ⟨mu_grow n h.1 h.2, h.2⟩
theorem Tq.grow {W : Wc} {H : Hp} {p : Addr} {vs : List V} (D : Addr) (n : H D = none) (h : Tq W H p vs) : Tq (W.plus D) H p vs := ⟨mu_grow n h.1 h.2, h.2⟩
theorem Lq.shrink {W : Wc} {H : Hp} {p : Addr} {vs : List V} (D : Addr) (h : Lq (W.plus D) H p vs) : Lq W H p vs := ⟨fun z => h.1 (.inl z), h.2⟩
theorem Tq.shrink {W : Wc} {H : Hp} {p : Addr} {vs : List V} (D : Addr) (h : Tq (W.plus D) H p vs) : Tq W H p vs := ⟨fun z => h.1 (.inl z), h.2⟩
theorem Lq.new {W : Wc} {H : Hp} {p : Addr} {vs : List V} (m : ¬ W.mu p) (h : H p = some (.lst vs)) : Lq W H p vs := ⟨m, h⟩
theorem Tq.new {W : Wc} {H : Hp} {p : Addr} {vs : List V} (m : ¬ W.mu p) (h : H p = some (.tup vs)) : Tq W H p vs := ⟨m, h⟩
instance : Rep Int := ⟨fun _ _ v a => v = .int a, fun _ h => h, fun _ _ h => h, fun _ h => h⟩
instance : Rep Bool := ⟨fun _ _ v a => v = .bl a, fun _ h => h, fun _ _ h => h, fun _ h => h⟩
instance : Rep Str := ⟨fun _ _ v a => v = .str a, fun _ h => h, fun _ _ h => h, fun _ h => h⟩
instance : Rep Unit := ⟨fun _ _ v _ => v = .non, fun _ h => h, fun _ _ h => h, fun _ h => h⟩
instance {α β : Type} [Rep α] [Rep β] : Rep (α × β) :=
  ⟨fun W H v a => ∃ p x y, v = .ref p ∧ Tq W H p [x, y] ∧ den W H x a.1 ∧ den W H y a.2,
   fun e ⟨p, x, y, hv, s, h1, h2⟩ => ⟨p, x, y, hv, s.mono e, Rep.mono e h1, Rep.mono e h2⟩,
   fun D n ⟨p, x, y, hv, s, h1, h2⟩ => ⟨p, x, y, hv, s.grow D n, Rep.grow D n h1, Rep.grow D n h2⟩,
   fun D ⟨p, x, y, hv, s, h1, h2⟩ => ⟨p, x, y, hv, s.shrink D, Rep.shrink D h1, Rep.shrink D h2⟩⟩
/-- a tuple of three -/
structure T3 (α β γ : Type) where
  a : α
  b : β
  c : γ
instance {α β γ : Type} [Rep α] [Rep β] [Rep γ] : Rep (T3 α β γ) :=
  ⟨fun W H v t => ∃ p x y z, v = .ref p ∧ Tq W H p [x, y, z] ∧ den W H x t.a ∧ den W H y t.b ∧ den W H z t.c,
   fun e ⟨p, x, y, z, hv, s, h1, h2, h3⟩ => ⟨p, x, y, z, hv, s.mono e, Rep.mono e h1, Rep.mono e h2, Rep.mono e h3⟩,
   fun D n ⟨p, x, y, z, hv, s, h1, h2, h3⟩ => ⟨p, x, y, z, hv, s.grow D n, Rep.grow D n h1, Rep.grow D n h2, Rep.grow D n h3⟩,
   fun D ⟨p, x, y, z, hv, s, h1, h2, h3⟩ => ⟨p, x, y, z, hv, s.shrink D, Rep.shrink D h1, Rep.shrink D h2, Rep.shrink D h3⟩⟩
instance {α : Type} [Rep α] : Rep (List α) :=
  ⟨fun W H v as => ∃ p vs, v = .ref p ∧ Lq W H p vs ∧ Dl (den W H) vs as,
   fun e ⟨p, vs, hv, s, h⟩ => ⟨p, vs, hv, s.mono e, h.imp fun _ _ x => Rep.mono e x⟩,
   fun D n ⟨p, vs, hv, s, h⟩ => ⟨p, vs, hv, s.grow D n, h.imp fun _ _ x => Rep.grow D n x⟩,
   fun D ⟨p, vs, hv, s, h⟩ => ⟨p, vs, hv, s.shrink D, h.imp fun _ _ x => Rep.shrink D x⟩⟩
/-- the box of draws: an object that changes -/
structure Bx where
instance : Rep Bx := ⟨fun W _ v _ => ∃ b, v = .ref b ∧ W.box b, fun _ h => h, fun _ _ h => h, fun _ h => h⟩
structure Ty where
  α : Type
  r : Rep α
  a : α
abbrev T {α : Type} [r : Rep α] (a : α) : Ty := ⟨α, r, a⟩
def Ty.den (W : Wc) (H : Hp) (v : V) (t : Ty) : Prop := t.r.dn W H v t.a
theorem Ty.mono {W : Wc} {H H' : Hp} {v : V} {t : Ty} (e : Kp W H H') (h : t.den W H v) : t.den W H' v := t.r.mono e h
abbrev Gam := List (Option Ty)
structure GOk (W : Wd) (H : Hp) (σ : St) (Γ : Gam) : Prop where
  ok : W.ok H
  wish : W.wish H
  at_ : ∀ (i : Nat) (t : Ty), Γ[i]? = some (some t) → ∃ v, σ[i]? = some (some v) ∧ t.den W H v
  len : σ.length = Γ.length
theorem GOk.ext {W : Wd} {H H' : Hp} {σ : St} {Γ : Gam} (E : GOk W H σ Γ) (e : Ext W H H') : GOk W H' σ Γ :=
  ⟨e.ok, W.wst _ _ e.keep e.ok E.wish, fun i t h => let ⟨v, h1, h2⟩ := E.at_ i t h; ⟨v, h1, Ty.mono e.keep h2⟩, E.len⟩
theorem GOk.set {W : Wd} {H : Hp} {σ : St} {Γ : Gam} (E : GOk W H σ Γ) (i : Nat) {v : V} {t : Ty} (h : t.den W H v) : GOk W H (σ.set i (some v)) (Γ.set i (some t)) := by
  refine ⟨E.ok, E.wish, fun j u hj => ?_, by rw [List.length_set, List.length_set]; exact E.len⟩
  by_cases e : i = j
  · subst e
    have hl : i < Γ.length := by
      have := (List.getElem?_eq_some_iff.mp hj).1
      rwa [List.length_set] at this
    rw [List.getElem?_set_self hl] at hj
    cases hj
    exact ⟨v, List.getElem?_set_self (by rw [E.len]; exact hl), h⟩
  · rw [List.getElem?_set_ne e] at hj
    rw [List.getElem?_set_ne e]
    exact E.at_ j u hj
theorem GOk.unset {W : Wd} {H : Hp} {σ : St} {Γ : Gam} (E : GOk W H σ Γ) (i : Nat) : GOk W H (σ.set i none) (Γ.set i none) := by
  refine ⟨E.ok, E.wish, fun j u hj => ?_, by rw [List.length_set, List.length_set]; exact E.len⟩
  by_cases e : i = j
  · subst e
    have hl : i < Γ.length := by
      have := (List.getElem?_eq_some_iff.mp hj).1
      rwa [List.length_set] at this
    rw [List.getElem?_set_self hl] at hj
    cases hj
  · rw [List.getElem?_set_ne e] at hj
    rw [List.getElem?_set_ne e]
    exact E.at_ j u hj
def wipeE (Γ : Gam) : List Nat → Gam
  | [] => Γ
  | i :: r => (wipeE Γ r).set i none
theorem GOk.wipe {W : Wd} {H : Hp} {σ : St} {Γ : Gam} (E : GOk W H σ Γ) : ∀ vs : List Nat, GOk W H (wipe σ vs) (wipeE Γ vs)
  | [] => E
  | i :: r => (E.wipe r).unset i
def EvK {α : Type} [Rep α] (W : Wd) (te : TE) (Γ : Gam) (k : α → Prop) : Prop :=
  ∀ σ H (Q : VK), GOk W H σ Γ → (∀ v H' (a : α), Ext W H H' → den W H' v a → k a → Q v H') → te σ H Q
def EvT (W : Wd) (tt : TT) (Γ : Gam) (k : Bool → Prop) : Prop :=
  ∀ σ H (Q : Bool → Hp → Prop), GOk W H σ Γ → (∀ H' b, Ext W H H' → k b → Q b H') → tt σ H Q
/-- arguments: a list of typed data -/
inductive DT (W : Wc) (H : Hp) : List V → List Ty → Prop
  | nil : DT W H [] []
  | cons {v : V} {t : Ty} {vs : List V} {ts : List Ty} : t.den W H v → DT W H vs ts → DT W H (v :: vs) (t :: ts)
theorem DT.mono {W : Wc} {H H' : Hp} (e : Kp W H H') : ∀ {vs : List V} {ts : List Ty}, DT W H vs ts → DT W H' vs ts
  | _, _, .nil => .nil
  | _, _, .cons x y => .cons (Ty.mono e x) (y.mono e)
theorem DT.length {W : Wc} {H : Hp} : ∀ {vs : List V} {ts : List Ty}, DT W H vs ts → vs.length = ts.length
  | _, _, .nil => rfl
  | _, _, .cons _ y => congrArg (· + 1) y.length
def EvA (W : Wd) (ta : TA) (Γ : Gam) (k : List Ty → Prop) : Prop :=
  ∀ σ H (Q : List V → Hp → Prop), GOk W H σ Γ → (∀ vs H' ts, Ext W H H' → DT W H' vs ts → k ts → Q vs H') → ta σ H Q
section
variable {W : Wd} {Γ : Gam} {ta tb tc te : TE} {tt tu : TT}
theorem EvK.imp {α : Type} {rα : Rep α} {k k' : α → Prop} (h : EvK W te Γ k) (i : ∀ a, k a → k' a) : EvK W te Γ k' :=
  fun σ H Q E q => h σ H Q E fun v H' a e d z => q v H' a e d (i a z)
theorem ev_var {α : Type} {r : Rep α} {i : Nat} {a : α} {k : α → Prop} (h : Γ[i]? = some (some (T a))) (q : k a) : EvK W (tVar i) Γ k := fun σ H Q E c => by
  obtain ⟨v, h1, h2⟩ := E.at_ i _ h
  exact ⟨v, h1, c v H a (Ext.refl E.ok) h2 q⟩
theorem ev_int {i : Int} {k : Int → Prop} (q : k i) : EvK W (tC (.int i)) Γ k := fun σ H Q E c => c _ H i (Ext.refl E.ok) rfl q
theorem ev_bl {i : Bool} {k : Bool → Prop} (q : k i) : EvK W (tC (.bl i)) Γ k := fun σ H Q E c => c _ H i (Ext.refl E.ok) rfl q
theorem ev_str {i : Str} {k : Str → Prop} (q : k i) : EvK W (tC (.str i)) Γ k := fun σ H Q E c => c _ H i (Ext.refl E.ok) rfl q
theorem ev_non {k : Unit → Prop} (q : k ()) : EvK W (tC .non) Γ k := fun σ H Q E c => c _ H () (Ext.refl E.ok) rfl q
/-- two parts, one behind the other -/
theorem ev_two {α β γ : Type} {rα : Rep α} {rβ : Rep β} {rγ : Rep γ} {r : R2} {k : γ → Prop}
    (h : EvK W ta Γ fun a : α => EvK W tb Γ fun b : β => ∀ x y H (Q : VK), W.ok H → den W H x a → den W H y b → (∀ v H' (c : γ), Ext W H H' → den W H' v c → k c → Q v H') → r x y H Q) : EvK W (tOp r ta tb) Γ k := fun σ H Q E c =>
  h σ H _ E fun x H1 a e1 d1 h1 => h1 σ H1 _ (E.ext e1) fun y H2 b e2 d2 h2 => h2 x y H2 Q e2.ok (Rep.mono e2.keep d1) d2 fun v H3 a3 e3 d3 z => c v H3 a3 ((e1.trans e2).trans e3) d3 z
theorem ev_opI {f : Int → Int → Int} {k : Int → Prop} (h : EvK W ta Γ fun i : Int => EvK W tb Γ fun j : Int => k (f i j)) : EvK W (tOp (rI0 fun i j => .int (f i j)) ta tb) Γ k :=
  ev_two (h.imp fun i hi => hi.imp fun j hj x y H Q o dx dy c => ⟨i, j, dx, dy, c _ H _ (Ext.refl o) rfl hj⟩)
theorem ev_opB {f : Int → Int → Bool} {k : Bool → Prop} (h : EvK W ta Γ fun i : Int => EvK W tb Γ fun j : Int => k (f i j)) : EvK W (tOp (rI0 fun i j => .bl (f i j)) ta tb) Γ k :=
  ev_two (h.imp fun i hi => hi.imp fun j hj x y H Q o dx dy c => ⟨i, j, dx, dy, c _ H _ (Ext.refl o) rfl hj⟩)
theorem ev_opC {C : Int → Int → Prop} {f : Int → Int → Int} {k : Int → Prop} (h : EvK W ta Γ fun i : Int => EvK W tb Γ fun j : Int => C i j ∧ k (f i j)) : EvK W (tOp (rI C fun i j => .int (f i j)) ta tb) Γ k :=
  ev_two (h.imp fun i hi => hi.imp fun j hj x y H Q o dx dy c => ⟨i, j, dx, dy, hj.1, c _ H _ (Ext.refl o) rfl hj.2⟩)
theorem ev_unI {f : Int → Int} {k : Int → Prop} (h : EvK W ta Γ fun i : Int => k (f i)) : EvK W (tUn (rU fun i => .int (f i)) ta) Γ k := fun σ H Q E c =>
  h σ H _ E fun x H1 i e1 d1 h1 => ⟨i, d1, c _ H1 _ e1 rfl h1⟩
theorem ev_if {α : Type} {rα : Rep α} {k : α → Prop} (h : EvT W tt Γ fun b => (b = true → EvK W ta Γ k) ∧ (b = false → EvK W tb Γ k)) : EvK W (tIf tt ta tb) Γ k := fun σ H Q E c =>
  h σ H _ E fun H1 b e1 ⟨h1, h2⟩ => by
    cases b with
    | true => exact h1 rfl σ H1 Q (E.ext e1) fun v H2 a e2 d z => c v H2 a (e1.trans e2) d z
    | false => exact h2 rfl σ H1 Q (E.ext e1) fun v H2 a e2 d z => c v H2 a (e1.trans e2) d z
theorem ev_andV {k : Bool → Prop} (h : EvK W ta Γ fun a : Bool => (a = true → EvK W tb Γ k) ∧ (a = false → k false)) : EvK W (tAndV ta tb) Γ k := fun σ H Q E c =>
  h σ H _ E fun x H1 a e1 d1 ⟨h1, h2⟩ => ⟨a, d1, by
    cases a with
    | true => exact h1 rfl σ H1 Q (E.ext e1) fun v H2 a e2 d z => c v H2 a (e1.trans e2) d z
    | false => exact c _ H1 false e1 rfl (h2 rfl)⟩
theorem ev_orV {k : Bool → Prop} (h : EvK W ta Γ fun a : Bool => (a = true → k true) ∧ (a = false → EvK W tb Γ k)) : EvK W (tOrV ta tb) Γ k := fun σ H Q E c =>
  h σ H _ E fun x H1 a e1 d1 ⟨h1, h2⟩ => ⟨a, d1, by
    cases a with
    | true => exact c _ H1 true e1 rfl (h1 rfl)
    | false => exact h2 rfl σ H1 Q (E.ext e1) fun v H2 a e2 d z => c v H2 a (e1.trans e2) d z⟩
theorem ev_notV {k : Bool → Prop} (h : EvK W ta Γ fun a : Bool => k (!a)) : EvK W (tNotV ta) Γ k := fun σ H Q E c =>
  h σ H _ E fun x H1 a e1 d1 h1 => ⟨a, d1, c _ H1 _ e1 rfl h1⟩
theorem et_test {k : Bool → Prop} (h : EvK W te Γ k) : EvT W (tTest te) Γ k := fun σ H Q E c => h σ H _ E fun v H1 b e1 d z => ⟨b, d, c H1 b e1 z⟩
theorem et_B {k : Bool → Prop} (h : EvK W te Γ k) : EvT W (tB te) Γ k := fun σ H Q E c => h σ H _ E fun v H1 b e1 d z => ⟨b, d, c H1 b e1 z⟩
theorem et_not {k : Bool → Prop} (h : EvT W tt Γ fun b => k (!b)) : EvT W (tNot tt) Γ k := fun σ H Q E c => h σ H _ E fun H1 b e1 z => c H1 _ e1 z
theorem et_and {k : Bool → Prop} (h : EvT W tt Γ fun a => (a = true → EvT W tu Γ k) ∧ (a = false → k false)) : EvT W (tAnd tt tu) Γ k := fun σ H Q E c =>
  h σ H _ E fun H1 a e1 ⟨h1, h2⟩ => by
    cases a with
    | true => exact h1 rfl σ H1 Q (E.ext e1) fun H2 b e2 z => c H2 b (e1.trans e2) z
    | false => exact c H1 false e1 (h2 rfl)
theorem et_or {k : Bool → Prop} (h : EvT W tt Γ fun a => (a = true → k true) ∧ (a = false → EvT W tu Γ k)) : EvT W (tOr tt tu) Γ k := fun σ H Q E c =>
  h σ H _ E fun H1 a e1 ⟨h1, h2⟩ => by
    cases a with
    | true => exact c H1 true e1 (h1 rfl)
    | false => exact h2 rfl σ H1 Q (E.ext e1) fun H2 b e2 z => c H2 b (e1.trans e2) z
theorem et_yes {k : Bool → Prop} (q : k true) : EvT W tYes Γ k := fun σ H Q E c => c H true (Ext.refl E.ok) q
theorem ea_nil {k : List Ty → Prop} (q : k []) : EvA W tNil Γ k := fun σ H Q E c => c [] H [] (Ext.refl E.ok) .nil q
theorem ea_cons {α : Type} {rα : Rep α} {tr : TA} {k : List Ty → Prop} (h : EvK W te Γ fun a : α => EvA W tr Γ fun ts => k (T a :: ts)) : EvA W (tCons te tr) Γ k := fun σ H Q E c =>
  h σ H _ E fun v H1 a e1 d h1 => h1 σ H1 _ (E.ext e1) fun vs H2 ts e2 ds z => c (v :: vs) H2 _ (e1.trans e2) (.cons (Ty.mono (t := T a) e2.keep d) ds) z
theorem ev_tup2 {α β : Type} {rα : Rep α} {rβ : Rep β} {k : α × β → Prop} (h : EvK W ta Γ fun a : α => EvK W tb Γ fun b : β => k (a, b)) : EvK W (tTup (tCons ta (tCons tb tNil))) Γ k := fun σ H Q E c =>
  h σ H _ E fun x H1 a e1 d1 h1 => h1 σ H1 _ (E.ext e1) fun y H2 b e2 d2 z => ⟨by show 2 ≤ sizeLine; decide, fun p hp =>
    have e3 := Ext.new (o := .tup [x, y]) e2.ok hp
    c _ _ (a, b) ((e1.trans e2).trans e3) ⟨p, x, y, rfl, Tq.new (fresh_mu e2.ok hp) upd_same, Rep.mono (e2.trans e3).keep d1, Rep.mono e3.keep d2⟩ z⟩
theorem ev_tup3 {α β γ : Type} {rα : Rep α} {rβ : Rep β} {rγ : Rep γ} {k : T3 α β γ → Prop} (h : EvK W ta Γ fun a : α => EvK W tb Γ fun b : β => EvK W tc Γ fun c : γ => k ⟨a, b, c⟩) : EvK W (tTup (tCons ta (tCons tb (tCons tc tNil)))) Γ k := fun σ H Q E c =>
  h σ H _ E fun x H1 a e1 d1 h1 => h1 σ H1 _ (E.ext e1) fun y H2 b e2 d2 h2 => h2 σ H2 _ ((E.ext e1).ext e2) fun u H3 b3 e3 d3 z => ⟨by show 3 ≤ sizeLine; decide, fun p hp =>
    have e4 := Ext.new (o := .tup [x, y, u]) e3.ok hp
    c _ _ ⟨a, b, b3⟩ (((e1.trans e2).trans e3).trans e4) ⟨p, x, y, u, rfl, Tq.new (fresh_mu e3.ok hp) upd_same, Rep.mono ((e2.trans e3).trans e4).keep d1, Rep.mono (e3.trans e4).keep d2, Rep.mono e4.keep d3⟩ z⟩
/-- items of a display, all of one kind -/
def EvL {α : Type} [Rep α] (W : Wd) (ta : TA) (Γ : Gam) (k : List α → Prop) : Prop :=
  ∀ σ H (Q : List V → Hp → Prop), GOk W H σ Γ → (∀ vs H' as, Ext W H H' → Dl (den W H') vs as → k as → Q vs H') → ta σ H Q
theorem el_nil {α : Type} {rα : Rep α} {k : List α → Prop} (q : k []) : EvL W tNil Γ k := fun σ H Q E c => c [] H [] (Ext.refl E.ok) .nil q
theorem el_cons {α : Type} {rα : Rep α} {tr : TA} {k : List α → Prop} (h : EvK W te Γ fun a : α => EvL W tr Γ fun as => k (a :: as)) : EvL W (tCons te tr) Γ k := fun σ H Q E c =>
  h σ H _ E fun v H1 a e1 d h1 => h1 σ H1 _ (E.ext e1) fun vs H2 as e2 ds z => c (v :: vs) H2 _ (e1.trans e2) (.cons (Rep.mono e2.keep d) ds) z
theorem ev_lst {α : Type} {rα : Rep α} {t : TA} {k : List α → Prop} (h : EvL W t Γ fun as => as.length ≤ 100000 ∧ k as) : EvK W (tLst t) Γ k := fun σ H Q E c =>
  h σ H _ E fun vs H1 as e1 ds ⟨hl, z⟩ => ⟨Nat.le_trans (by rw [ds.length]; exact hl) (by decide : 100000 ≤ sizeLine), fun p hp =>
    have e2 := Ext.new (o := .lst vs) e1.ok hp
    c _ _ as (e1.trans e2) ⟨p, vs, rfl, Lq.new (fresh_mu e1.ok hp) upd_same, ds.imp fun _ _ d => Rep.mono e2.keep d⟩ z⟩
end
class Dat (α : Type) [Rep α] where
  toD : α → PyData
  dp : ∀ {W : Wc} {H : Hp} {v : V} {a : α}, den W H v a → Dp W.B.K H v (toD a)
  dep : Nat
  ddep : ∀ a : α, (toD a).depth ≤ dep
  inj : ∀ a b : α, PyData.eqv (toD a) (toD b) = true ↔ a = b
  good : α → Prop
  gshp : ∀ a : α, good a → (toD a).canLay0 = true
instance : Dat Int := ⟨fun i => .int i, fun h => by cases h; exact .int _, 0, fun _ => Nat.le_refl 0, fun a b => by show (a == b) = true ↔ a = b; exact beq_iff_eq, fun _ => True, fun _ _ => rfl⟩
instance : Dat Bool := ⟨fun i => .bool i, fun h => by cases h; exact .bl _, 0, fun _ => Nat.le_refl 0, fun a b => by show (a == b) = true ↔ a = b; exact beq_iff_eq, fun _ => True, fun _ _ => rfl⟩
instance : Dat Str := ⟨fun i => .str i, fun h => by cases h; exact .str _, 0, fun _ => Nat.le_refl 0, fun a b => by show (a == b) = true ↔ a = b; exact beq_iff_eq, fun x => (PyData.str x).canLay0 = true, fun _ h => h⟩
instance : Dat Unit := ⟨fun _ => .none, fun h => by cases h; exact .non, 0, fun _ => Nat.le_refl 0, fun a b => ⟨fun _ => rfl, fun _ => rfl⟩, fun _ => True, fun _ _ => rfl⟩
theorem eqv2 (a b c d : PyData) : PyData.eqv (.tuple [a, b]) (.tuple [c, d]) = (PyData.eqv a c && PyData.eqv b d) := by
  show (PyData.eqv a c && (PyData.eqv b d && true)) = _
  rw [Bool.and_true]
theorem eqv3 (a b c d e f : PyData) : PyData.eqv (.tuple [a, b, e]) (.tuple [c, d, f]) = (PyData.eqv a c && (PyData.eqv b d && PyData.eqv e f)) := by
  show (PyData.eqv a c && (PyData.eqv b d && (PyData.eqv e f && true))) = _
  rw [Bool.and_true]
instance {α β : Type} [Rep α] [Rep β] [Dat α] [Dat β] : Dat (α × β) where
  toD := fun x => .tuple [Dat.toD x.1, Dat.toD x.2]
  dp := fun ⟨p, x, y, hv, s, h1, h2⟩ => by
    subst hv
    exact .tup s.sq (.cons (Dat.dp h1) (.cons (Dat.dp h2) .nil))
  dep := max (Dat.dep α) (Dat.dep β) + 1
  ddep := fun x => by
    have h1 := Dat.ddep x.1
    have h2 := Dat.ddep x.2
    show max (Dat.toD x.1).depth (max (Dat.toD x.2).depth 0) + 1 ≤ _
    omega
  inj := fun x y => by
    rw [eqv2, Bool.and_eq_true, Dat.inj, Dat.inj]
    exact ⟨fun h => Prod.ext h.1 h.2, fun h => by rw [h]; exact ⟨rfl, rfl⟩⟩
  good := fun x => Dat.good x.1 ∧ Dat.good x.2
  gshp := fun x h => by
    have h1 := Dat.gshp _ h.1
    have h2 := Dat.gshp _ h.2
    show ((Dat.toD x.1).canLay0 && ((Dat.toD x.2).canLay0 && true)) = true
    rw [h1, h2]
    rfl
instance {α β γ : Type} [Rep α] [Rep β] [Rep γ] [Dat α] [Dat β] [Dat γ] : Dat (T3 α β γ) where
  toD := fun x => .tuple [Dat.toD x.a, Dat.toD x.b, Dat.toD x.c]
  dp := fun ⟨p, x, y, z, hv, s, h1, h2, h3⟩ => by
    subst hv
    exact .tup s.sq (.cons (Dat.dp h1) (.cons (Dat.dp h2) (.cons (Dat.dp h3) .nil)))
  dep := max (Dat.dep α) (max (Dat.dep β) (Dat.dep γ)) + 1
  ddep := fun x => by
    have h1 := Dat.ddep x.a
    have h2 := Dat.ddep x.b
    have h3 := Dat.ddep x.c
    show max (Dat.toD x.a).depth (max (Dat.toD x.b).depth (max (Dat.toD x.c).depth 0)) + 1 ≤ _
    omega
  inj := fun x y => by
    rw [eqv3, Bool.and_eq_true, Bool.and_eq_true, Dat.inj, Dat.inj, Dat.inj]
    cases x; cases y
    exact ⟨fun h => by obtain ⟨h1, h2, h3⟩ := h; cases h1; cases h2; cases h3; rfl, fun h => by cases h; exact ⟨rfl, rfl, rfl⟩⟩
  good := fun x => Dat.good x.a ∧ Dat.good x.b ∧ Dat.good x.c
  gshp := fun x h => by
    have h1 := Dat.gshp _ h.1
    have h2 := Dat.gshp _ h.2.1
    have h3 := Dat.gshp _ h.2.2
    show ((Dat.toD x.a).canLay0 && ((Dat.toD x.b).canLay0 && ((Dat.toD x.c).canLay0 && true))) = true
    rw [h1, h2, h3]
    rfl
theorem dpAll {α : Type} [Rep α] [Dat α] {W : Wc} {H : Hp} : ∀ {vs : List V} {as : List α}, Dl (den W H) vs as → DpAll W.B.K H vs (as.map Dat.toD)
  | _, _, .nil => .nil
  | _, _, .cons x y => .cons (Dat.dp x) (dpAll y)
theorem depAll {α : Type} [Rep α] [Dat α] : ∀ as : List α, PyData.depthAll (as.map Dat.toD) ≤ Dat.dep α
  | [] => Nat.zero_le _
  | a :: r => by
    have h1 := Dat.ddep a
    have h2 := depAll r
    show max (Dat.toD a).depth (PyData.depthAll (r.map Dat.toD)) ≤ _
    omega
theorem injAll {α : Type} [Rep α] [Dat α] : ∀ as bs : List α, PyData.eqvAll (as.map Dat.toD) (bs.map Dat.toD) = true ↔ as = bs
  | [], [] => ⟨fun _ => rfl, fun _ => rfl⟩
  | [], _ :: _ => ⟨fun h => Bool.noConfusion h, fun h => nomatch h⟩
  | _ :: _, [] => ⟨fun h => Bool.noConfusion h, fun h => nomatch h⟩
  | a :: r, b :: s => by
    show (PyData.eqv (Dat.toD a) (Dat.toD b) && PyData.eqvAll (r.map Dat.toD) (s.map Dat.toD)) = true ↔ _
    rw [Bool.and_eq_true, Dat.inj, injAll r s]
    exact ⟨fun h => by rw [h.1, h.2], fun h => by injection h with h1 h2; exact ⟨h1, h2⟩⟩
theorem shpAll {α : Type} [Rep α] [Dat α] : ∀ as : List α, (∀ a ∈ as, Dat.good a) → PyData.canLayAll0 (as.map Dat.toD) = true
  | [], _ => rfl
  | a :: r, h => by
    show ((Dat.toD a).canLay0 && PyData.canLayAll0 (r.map Dat.toD)) = true
    rw [Dat.gshp _ (h a List.mem_cons_self), shpAll r fun x hx => h x (List.mem_cons_of_mem _ hx)]
    rfl
instance {α : Type} [Rep α] [Dat α] : Dat (List α) where
  toD := fun x => .list (x.map Dat.toD)
  dp := fun ⟨p, vs, hv, s, h⟩ => by
    subst hv
    exact .lst s.sq (dpAll h)
  dep := Dat.dep α + 1
  ddep := fun x => Nat.succ_le_succ (depAll x)
  inj := fun x y => injAll x y
  good := fun x => ∀ a ∈ x, Dat.good a
  gshp := fun x h => shpAll x h
section
variable {W : Wd} {Γ : Gam} {ta tb tc te : TE} {tt tu : TT}
theorem shaped_of {α : Type} [Rep α] [Dat α] {a : α} (g : Dat.good a) (h : Dat.dep α ≤ 64) : SeqAt.shaped (Dat.toD a) = true := by
  unfold SeqAt.shaped
  rw [Dat.gshp a g, decide_eq_true (Nat.le_trans (Dat.ddep a) h)]
  rfl
theorem eqv_dec {α : Type} [Rep α] [Dat α] [DecidableEq α] (a b : α) : PyData.eqv (Dat.toD a) (Dat.toD b) = decide (a = b) := by
  by_cases e : a = b
  · rw [decide_eq_true e]; exact (Dat.inj a b).mpr e
  · rw [decide_eq_false e]
    cases q : PyData.eqv (Dat.toD a) (Dat.toD b) with
    | false => rfl
    | true => exact absurd ((Dat.inj a b).mp q) e
theorem ev_ixL {α : Type} {rα : Rep α} {K : PySem.W.Frag} {k : α → Prop} (hK : W.B.K = K) (h : EvK W ta Γ fun as : List α => EvK W tb Γ fun i : Int => ∃ a, atI as i = some a ∧ k a) : EvK W (tOp (rIxL K) ta tb) Γ k := by
  subst hK
  refine ev_two (h.imp fun as ha => ha.imp fun i ⟨a, hi, z⟩ x y H Q o dx dy c => ?_)
  obtain ⟨p, vs, rfl, hp, hd⟩ := dx
  have e : ∃ v, atI vs i = some v ∧ den W H v a := by
    unfold atI at hi ⊢
    rw [hd.length]
    cases q : ixN as.length i with
    | none => rw [q] at hi; cases hi
    | some j =>
      rw [q, Option.bind_some] at hi
      rw [Option.bind_some]
      exact hd.at' hi
  obtain ⟨v, hv, dv⟩ := e
  exact ⟨p, vs, i, v, rfl, dy, hp.sq, hv, c _ H a (Ext.refl o) dv z⟩
theorem ev_ixT0 {α β : Type} {rα : Rep α} {rβ : Rep β} {K : PySem.W.Frag} {k : α → Prop} (hK : W.B.K = K) (h : EvK W ta Γ fun p : α × β => k p.1) : EvK W (tOp (rIxT K) ta (tC (.int 0))) Γ k := by
  subst hK
  refine fun σ H Q E c => h σ H _ E fun v H1 a e1 ⟨p, x, y, hv, s, d1, d2⟩ z => ?_
  exact ⟨p, _, 0, x, hv, rfl, s.sq, rfl, c _ H1 _ e1 d1 z⟩
theorem ev_ixT1 {α β : Type} {rα : Rep α} {rβ : Rep β} {K : PySem.W.Frag} {k : β → Prop} (hK : W.B.K = K) (h : EvK W ta Γ fun p : α × β => k p.2) : EvK W (tOp (rIxT K) ta (tC (.int 1))) Γ k := by
  subst hK
  refine fun σ H Q E c => h σ H _ E fun v H1 a e1 ⟨p, x, y, hv, s, d1, d2⟩ z => ?_
  exact ⟨p, _, 1, y, hv, rfl, s.sq, rfl, c _ H1 _ e1 d2 z⟩
theorem ev_cat {α : Type} {rα : Rep α} {k : List α → Prop} (h : EvK W ta Γ fun as : List α => EvK W tb Γ fun bs : List α => as.length + bs.length ≤ 100000 ∧ k (as ++ bs)) : EvK W (tOp rCat ta tb) Γ k := by
  refine ev_two (h.imp fun as ha => ha.imp fun bs ⟨hl, z⟩ x y H Q o dx dy c => ?_)
  obtain ⟨p, vs, rfl, hp, hd⟩ := dx
  obtain ⟨q, ws, rfl, hq, hd2⟩ := dy
  refine ⟨p, q, vs, ws, rfl, rfl, hp.2, hq.2, Nat.le_trans (by rw [hd.length, hd2.length]; exact hl) (by decide : 100000 ≤ sizeLine), fun l hl => ?_⟩
  have e := Ext.new (o := .lst (vs ++ ws)) o hl
  exact c _ _ _ e ⟨l, _, rfl, Lq.new (fresh_mu o hl) upd_same, (hd.append hd2).imp fun _ _ d => Rep.mono e.keep d⟩ z
theorem ev_len {α : Type} {rα : Rep α} {K : PySem.W.Frag} {k : Int → Prop} (hK : W.B.K = K) (h : EvK W te Γ fun as : List α => k (as.length : Int)) : EvK W (tCB (fun xs H Q => ∃ p ys, xs = [.ref p] ∧ (SqL K H p ys ∨ SqT K H p ys) ∧ Q (.int ys.length) H) (tCons te tNil)) Γ k := by
  subst hK
  refine fun σ H Q E c => h σ H _ E fun v H1 as e1 ⟨p, vs, hv, hp, hd⟩ z => ?_
  exact ⟨p, vs, by rw [hv], .inl hp.sq, c _ H1 _ e1 (congrArg (fun n : Nat => V.int n) hd.length) z⟩
/-- int(x) of an int -/
theorem ev_intI {k : Int → Prop} (h : EvK W te Γ fun i : Int => k i) : EvK W (tCB (fun xs H Q => (∃ i, xs = [.int i] ∧ Q (.int i) H) ∨ ∃ k, xs = [.bl k] ∧ Q (.int (if k then 1 else 0)) H) (tCons te tNil)) Γ k :=
  fun σ H Q E c => h σ H _ E fun v H1 i e1 d z => .inl ⟨i, congrArg (fun x => [x]) d, c _ H1 i e1 rfl z⟩
/-- a chain of two comparisons of ints -/
theorem ev_chain {f g : Int → Int → Bool} {k : Bool → Prop} (h : EvK W ta Γ fun i : Int => EvK W tb Γ fun j : Int => (f i j = true → EvK W tc Γ fun l : Int => k (g j l)) ∧ (f i j = false → k false)) :
    EvK W (tChain (rI0 fun i j => .bl (f i j)) (rI0 fun i j => .bl (g i j)) ta tb tc) Γ k := by
  refine fun σ H Q E c => h σ H _ E fun x H1 i e1 d1 h1 => h1 σ H1 _ (E.ext e1) fun y H2 j e2 d2 h2 => ?_
  refine ⟨i, j, d1, d2, f i j, rfl, ?_⟩
  by_cases q : f i j = true
  · rw [if_pos q]
    exact h2.1 q σ H2 _ ((E.ext e1).ext e2) fun z H3 l e3 d3 h3 => ⟨j, l, d2, d3, c _ H3 _ ((e1.trans e2).trans e3) rfl h3⟩
  · rw [if_neg q]
    exact c _ H2 _ (e1.trans e2) rfl (h2.2 (by simpa using q))
end
/-- js: the slots that the target sets -/
def Sm (js : List Nat) (σ σ' : St) : Prop := σ'.length = σ.length ∧ ∀ i : Nat, i ∉ js → σ'[i]? = σ[i]?
def Tj {α : Type} [Rep α] (W : Wd) (js : List Nat) (g : TG) (Γ : Gam) (a : α) (k : Gam → Prop) : Prop :=
  ∀ σ H v (Q : St → Hp → Prop), GOk W H σ Γ → den W H v a → (∀ σ' Γ', GOk W H σ' Γ' → Sm js σ σ' → k Γ' → Q σ' H) → g v σ H Q
abbrev Tg {α : Type} [Rep α] (W : Wd) (g : TG) (Γ : Gam) (a : α) (k : Gam → Prop) : Prop := ∃ js, Tj W js g Γ a k
structure Po where
  nx : Gam → Prop
  rt : Ty → Prop
  bk : Gam → Prop := fun _ => False
  ct : Gam → Prop := fun _ => False
structure EOk (W : Wd) (H : Hp) (D : Ends) (R : Po) : Prop where
  nx : ∀ σ' H' Γ', Ext W H H' → GOk W H' σ' Γ' → R.nx Γ' → D.nx σ' H'
  rt : ∀ v H' (t : Ty), Ext W H H' → t.den W H' v → R.rt t → D.rt v H'
  bk : ∀ σ' H' Γ', Ext W H H' → GOk W H' σ' Γ' → R.bk Γ' → D.bk σ' H'
  ct : ∀ σ' H' Γ', Ext W H H' → GOk W H' σ' Γ' → R.ct Γ' → D.ct σ' H'
theorem EOk.ext {W : Wd} {H H1 : Hp} {D : Ends} {R : Po} (h : EOk W H D R) (e : Ext W H H1) : EOk W H1 D R :=
  ⟨fun a b c d => h.nx a b c (e.trans d), fun a b c d => h.rt a b c (e.trans d), fun a b c d => h.bk a b c (e.trans d), fun a b c d => h.ct a b c (e.trans d)⟩
def Sx (W : Wd) (t : TS) (Γ : Gam) (R : Po) : Prop := ∀ D σ H, GOk W H σ Γ → EOk W H D R → t D σ H
section
variable {W : Wd} {Γ : Gam} {ta tb tc te : TE} {tt : TT} {t u : TS} {R : Po} {g : TG}
theorem tj_name {α : Type} {rα : Rep α} {i : Nat} {a : α} {k : Gam → Prop} (q : k (Γ.set i (some (T a)))) : Tj W [i] (gName i) Γ a k := fun σ H v Q E d c =>
  c _ _ (E.set i (t := T a) d) ⟨List.length_set, fun j hj => List.getElem?_set_ne (fun z => hj (by rw [z]; exact List.mem_singleton.mpr rfl))⟩ q
theorem tj_tup2 {α β : Type} {rα : Rep α} {rβ : Rep β} {K : PySem.W.Frag} {g1 g2 : TG} {j1 j2 : List Nat} {a : α × β} {k : Gam → Prop} (hK : W.B.K = K) (q : Tj W j1 g1 Γ a.1 fun Γ1 => Tj W j2 g2 Γ1 a.2 k) : Tj W (j1 ++ j2) (gTup K 2 (gCons g1 (gCons g2 gNil))) Γ a k := by
  subst hK
  refine fun σ H v Q E ⟨p, x, y, hv, s, d1, d2⟩ c => ⟨p, [x, y], hv, s.sq, rfl, ?_⟩
  refine ⟨x, [y], rfl, ?_⟩
  refine q σ H x _ E d1 fun σ1 Γ1 E1 m1 q1 => ?_
  exact ⟨y, [], rfl, q1 σ1 H y _ E1 d2 fun σ2 Γ2 E2 m2 q2 => ⟨rfl, c σ2 Γ2 E2 ⟨m2.1.trans m1.1, fun i hi => (m2.2 i fun z => hi (List.mem_append_right _ z)).trans (m1.2 i fun z => hi (List.mem_append_left _ z))⟩ q2⟩⟩
theorem tj_tup3 {α β γ : Type} {rα : Rep α} {rβ : Rep β} {rγ : Rep γ} {K : PySem.W.Frag} {g1 g2 g3 : TG} {j1 j2 j3 : List Nat} {a : T3 α β γ} {k : Gam → Prop} (hK : W.B.K = K) (q : Tj W j1 g1 Γ a.a fun Γ1 => Tj W j2 g2 Γ1 a.b fun Γ2 => Tj W j3 g3 Γ2 a.c k) : Tj W (j1 ++ (j2 ++ j3)) (gTup K 3 (gCons g1 (gCons g2 (gCons g3 gNil)))) Γ a k := by
  subst hK
  refine fun σ H v Q E ⟨p, x, y, z, hv, s, d1, d2, d3⟩ c => ⟨p, [x, y, z], hv, s.sq, rfl, ?_⟩
  refine ⟨x, [y, z], rfl, ?_⟩
  refine q σ H x _ E d1 fun σ1 Γ1 E1 m1 q1 => ⟨y, [z], rfl, ?_⟩
  refine q1 σ1 H y _ E1 d2 fun σ2 Γ2 E2 m2 q2 => ⟨z, [], rfl, ?_⟩
  exact q2 σ2 H z _ E2 d3 fun σ3 Γ3 E3 m3 q3 => ⟨rfl, c σ3 Γ3 E3 ⟨(m3.1.trans m2.1).trans m1.1, fun i hi => ((m3.2 i fun z => hi (List.mem_append_right _ (List.mem_append_right _ z))).trans (m2.2 i fun z => hi (List.mem_append_right _ (List.mem_append_left _ z)))).trans (m1.2 i fun z => hi (List.mem_append_left _ z))⟩ q3⟩
theorem tg_name {α : Type} {rα : Rep α} {i : Nat} {a : α} {k : Gam → Prop} (q : k (Γ.set i (some (T a)))) : Tg W (gName i) Γ a k := ⟨_, tj_name q⟩
theorem tg_of {α : Type} {rα : Rep α} {js : List Nat} {a : α} {k : Gam → Prop} (q : Tj W js g Γ a k) : Tg W g Γ a k := ⟨_, q⟩
theorem sx_seq (h : Sx W t Γ { R with nx := fun Γ' => Sx W u Γ' R }) : Sx W (tSeq t u) Γ R := fun D σ H E O =>
  h _ σ H E ⟨fun σ' H' Γ' e G q => q D σ' H' G (O.ext e), O.rt, O.bk, O.ct⟩
theorem sx_next (q : R.nx Γ) : Sx W tNext Γ R := fun D σ H E O => O.nx σ H Γ (Ext.refl E.ok) E q
theorem sx_asg {α : Type} {rα : Rep α} (h : EvK W te Γ fun a : α => Tg W g Γ a R.nx) : Sx W (tAsg te g) Γ R := fun D σ H E O =>
  h σ H _ E fun v H1 a e1 d ⟨_, h1⟩ => h1 σ H1 v _ (E.ext e1) d fun σ' Γ' G _ q => O.nx σ' H1 Γ' e1 G q
theorem sx_set {α : Type} {rα : Rep α} {i : Nat} (h : EvK W te Γ fun a : α => R.nx (Γ.set i (some (T a)))) : Sx W (tAsg te (gName i)) Γ R := sx_asg (h.imp fun a q => tg_name q)
theorem sx_ret {α : Type} {rα : Rep α} (h : EvK W te Γ fun a : α => R.rt (T a)) : Sx W (tRet te) Γ R := fun D σ H E O =>
  h σ H _ E fun v H1 a e1 d q => O.rt v H1 (T a) e1 d q
theorem sx_retN (q : R.rt (T ())) : Sx W tRetN Γ R := fun D σ H E O => O.rt .non H (T ()) (Ext.refl E.ok) rfl q
theorem sx_if (h : EvT W tt Γ fun b => (b = true → Sx W t Γ R) ∧ (b = false → Sx W u Γ R)) : Sx W (tIfS tt t u) Γ R := fun D σ H E O =>
  h σ H _ E fun H1 b e1 ⟨h1, h2⟩ => by
    cases b with
    | true => exact h1 rfl D σ H1 (E.ext e1) (O.ext e1)
    | false => exact h2 rfl D σ H1 (E.ext e1) (O.ext e1)
/-- for x in a list -/
theorem sx_forL {α : Type} {rα : Rep α} {K : PySem.W.Frag} (hK : W.B.K = K) (h : EvK W te Γ fun as : List α => ∃ I : Nat → Gam → Prop, I 0 Γ ∧
      (∀ (i : Nat) (a : α) Γ', as[i]? = some a → I i Γ' → Tg W g Γ' a fun Γ1 => Sx W t Γ1 { R with nx := I (i + 1), ct := I (i + 1), bk := R.nx }) ∧ ∀ Γ', I as.length Γ' → R.nx Γ') : Sx W (tFor (iList K te) g t) Γ R := by
  subst hK
  refine fun D σ H E O => h σ H _ E fun v H1 as e1 ⟨p, vs, hv, hp, hd⟩ ⟨I, h0, hs, hl⟩ => ?_
  refine ⟨p, hv, ⟨vs, hp.sq⟩, for_list (K := W.B.K) (a := p) (xs := vs) (fun i σ' H' => Ext W H1 H' ∧ ∃ Γ', GOk W H' σ' Γ' ∧ I i Γ') ⟨Ext.refl e1.ok, Γ, E.ext e1, h0⟩ (fun i σ' H' _ ⟨e, _⟩ => (hp.mono e.keep).sq) ?_ ?_⟩
  · rintro i x σ' H' hx ⟨e, Γ', G, q⟩
    obtain ⟨a, ha, da⟩ := (hd.imp fun _ _ d => Rep.mono e.keep d).at hx
    obtain ⟨js, hj⟩ := hs i a Γ' ha q
    refine hj σ' H' x _ G da fun σ2 Γ2 G2 _ q2 => ?_
    exact q2 _ σ2 H' G2 ⟨fun σ3 H3 Γ3 e3 G3 q3 => ⟨e.trans e3, Γ3, G3, q3⟩, fun v3 H3 t3 e3 d3 q3 => O.rt v3 H3 t3 ((e1.trans e).trans e3) d3 q3,
      fun σ3 H3 Γ3 e3 G3 q3 => O.nx σ3 H3 Γ3 ((e1.trans e).trans e3) G3 q3, fun σ3 H3 Γ3 e3 G3 q3 => ⟨e.trans e3, Γ3, G3, q3⟩⟩
  · rintro σ' H' ⟨e, Γ', G, q⟩
    rw [hd.length] at q
    exact O.nx σ' H' Γ' (e1.trans e) G (hl Γ' q)
/-- for x in range(n) -/
theorem sx_forR {R : Po} (h : EvK W te Γ fun n : Int => (-(2 ^ 62) ≤ n ∧ n < 2 ^ 62) ∧ ∃ I : Nat → Gam → Prop, I 0 Γ ∧
      (∀ (i : Nat) Γ', i < n.toNat → I i Γ' → Tg W g Γ' (i : Int) fun Γ1 => Sx W t Γ1 { R with nx := I (i + 1), ct := I (i + 1), bk := R.nx }) ∧ ∀ Γ', I n.toNat Γ' → R.nx Γ') : Sx W (tFor (iRng1 (tCons te tNil)) g t) Γ R := by
  refine fun D σ H E O => h σ H _ E fun v H1 n e1 hv ⟨⟨b1, b2⟩, I, h0, hs, hl⟩ => ?_
  refine ⟨n, congrArg (fun x => [x]) hv, b1, b2, for_range (lo := 0) (n := n.toNat) (fun i σ' H' => Ext W H1 H' ∧ ∃ Γ', GOk W H' σ' Γ' ∧ I i Γ') ⟨Ext.refl e1.ok, Γ, E.ext e1, h0⟩ ?_ ?_⟩
  · rintro i σ' H' hi ⟨e, Γ', G, q⟩
    obtain ⟨js, hj⟩ := hs i Γ' hi q
    refine hj σ' H' _ _ G (by show V.int ((0 : Int) + i) = .int i; rw [Int.zero_add]) fun σ2 Γ2 G2 _ q2 => ?_
    exact q2 _ σ2 H' G2 ⟨fun σ3 H3 Γ3 e3 G3 q3 => ⟨e.trans e3, Γ3, G3, q3⟩, fun v3 H3 t3 e3 d3 q3 => O.rt v3 H3 t3 ((e1.trans e).trans e3) d3 q3,
      fun σ3 H3 Γ3 e3 G3 q3 => O.nx σ3 H3 Γ3 ((e1.trans e).trans e3) G3 q3, fun σ3 H3 Γ3 e3 G3 q3 => ⟨e.trans e3, Γ3, G3, q3⟩⟩
  · rintro σ' H' ⟨e, Γ', G, q⟩
    exact O.nx σ' H' Γ' (e1.trans e) G (hl Γ' q)
end
theorem wipe_in {σ : St} {i : Nat} : ∀ {vs : List Nat}, i ∈ vs → i < σ.length → (wipe σ vs)[i]? = some none
  | j :: r, h, hl => by
    show ((wipe σ r).set j none)[i]? = some none
    by_cases e : j = i
    · subst e
      exact List.getElem?_set_self (by rw [wipe_length]; exact hl)
    · rw [List.getElem?_set_ne e]
      exact wipe_in ((List.mem_cons.mp h).resolve_left fun z => e z.symm) hl
theorem wipe_same {σ σ' : St} {vs js : List Nat} (h : Sm js (wipe σ vs) σ') (hs : ∀ j ∈ js, j ∈ vs) : wipe σ' vs = wipe σ vs := by
  have hl : σ'.length = σ.length := h.1.trans (wipe_length _ _)
  refine List.ext_getElem? fun i => ?_
  by_cases hi : i ∈ vs
  · by_cases hn : i < σ.length
    · rw [wipe_in hi hn, wipe_in hi (by rw [hl]; exact hn)]
    · rw [List.getElem?_eq_none (by rw [wipe_length, hl]; omega), List.getElem?_eq_none (by rw [wipe_length]; omega)]
  · rw [wipe_out hi, h.2 i fun z => hi (hs i z)]
section
variable {W : Wd} {Γ : Gam} {tl te : TE} {tt : TT} {g : TG}
/-- a turn of a comprehension: the item a; I holds of what is made so far -/
def LcTurn {α β : Type} [Rep α] [Rep β] (W : Wd) (g : TG) (tt : TT) (te : TE) (vs : List Nat) (Γ : Gam) (a : α) (no : Prop) (yes : β → Prop) : Prop :=
  ∃ js : List Nat, (js.all fun j => vs.contains j) = true ∧ Tj W js g (wipeE Γ vs) a fun Γ1 => EvT W tt Γ1 fun b => (b = true → EvK W te Γ1 yes) ∧ (b = false → no)
theorem lc_turn {α β : Type} {rα : Rep α} {rβ : Rep β} {vs : List Nat} {D : Addr} {H1 : Hp} {n : H1 D = none} {o1 : W.ok H1} {w1 : W.wish H1} {σ : St} {H' : Hp} {x : V} {a : α} {acc : List V} {bs : List β} {I : List β → Prop} {P : Hp → Prop}
    (t : LcTurn (W.plus D acc H1 n o1 w1) g tt te vs Γ a (I bs) fun y : β => I (bs ++ [y])) (G : GOk W H1 σ Γ) (e : Ext W H1 H') (hD : H' D = some (.lst acc)) (hb : Dl (den (W.toWc.plus D) H') acc bs) (da : den W H1 x a) (hz : acc.length < 100000)
    (fin : ∀ H2 acc2 bs2, Ext W H1 H2 → H2 D = some (.lst acc2) → Dl (den (W.toWc.plus D) H2) acc2 bs2 → acc2.length ≤ acc.length + 1 → I bs2 → P H2) :
    g x (wipe σ vs) H' fun σ2 H2 => wipe σ2 vs = wipe σ vs ∧ tt σ2 H2 fun b H3 => if b = true then te σ2 H3 fun y H4 => ∃ acc, H4 D = some (.lst acc) ∧ acc.length < sizeLine ∧ P (upd H4 D (.lst (acc ++ [y]))) else P H3 := by
  obtain ⟨js, hjs, t⟩ := t
  have nm : ¬ W.mu D := fresh_mu o1 n
  have kp : Kp (W.toWc.plus D) H1 H' := fun b o m z => e.keep b o (fun z => m (.inl z)) z
  have ok' : (W.plus D acc H1 n o1 w1).ok H' := ⟨e.ok, hD⟩
  have G' : GOk (W.plus D acc H1 n o1 w1) H' σ Γ := ⟨ok', fun b o m z => e.keep b o m z, fun i t h => by
    obtain ⟨v, h1, h2⟩ := G.at_ i t h
    exact ⟨v, h1, Ty.mono kp (t.r.grow D n h2)⟩, G.len⟩
  have back : ∀ H2, Ext (W.plus D acc H1 n o1 w1) H' H2 → Ext W H1 H2 := fun H2 e2 => ⟨fun b o m z => by
    have hb : b ≠ D := fun q => by subst q; rw [n] at z; cases z
    exact e2.keep b o (fun q => q.elim m hb) (e.keep b o m z), e2.ok.1⟩
  refine t (wipe σ vs) H' x _ (G'.wipe vs) (Rep.mono kp (Rep.grow D n da)) fun σ2 Γ2 G2 m2 q2 => ⟨?_, ?_⟩
  · exact wipe_same m2 fun j hj => by
      have := List.all_eq_true.mp hjs j hj
      simpa using this
  · refine q2 σ2 H' _ G2 fun H3 b e3 ⟨hy, hn⟩ => ?_
    have hD3 : H3 D = some (.lst acc) := e3.ok.2
    cases b with
    | false =>
      show P H3
      exact fin H3 acc bs (back H3 e3) hD3 (hb.imp fun _ _ d => Rep.mono e3.keep d) (Nat.le_succ _) (hn rfl)
    | true =>
      show te σ2 H3 _
      refine hy rfl σ2 H3 _ (G2.ext e3) fun y H4 b4 e4 d4 q4 => ?_
      have hD4 : H4 D = some (.lst acc) := e4.ok.2
      refine ⟨acc, hD4, Nat.lt_of_lt_of_le hz (by decide : 100000 ≤ sizeLine), ?_⟩
      have e5 := back H4 (e3.trans e4)
      have k5 : Kp (W.toWc.plus D) H4 (upd H4 D (.lst (acc ++ [y]))) := fun b o m z => by
        rw [upd_ne (fun q => m (.inr q))]
        exact z
      refine fin _ (acc ++ [y]) (bs ++ [b4]) ⟨fun b o m z => ?_, W.st _ _ _ e5.ok nm⟩ upd_same ?_ (by rw [List.length_append]; exact Nat.le_refl _) q4
      · rw [upd_ne (fun q => by subst q; rw [n] at z; cases z)]
        exact e5.keep b o m z
      · refine Dl.append (hb.imp fun _ _ d => Rep.mono k5 (Rep.mono (e3.trans e4).keep d)) (.cons (Rep.mono k5 d4) .nil)
/-- a new list: at p, not there before; its items do not lean on p -/
def EvF {β : Type} [Rep β] (W : Wd) (te : TE) (Γ : Gam) (k : List β → Prop) : Prop :=
  ∀ σ H (Q : VK), GOk W H σ Γ → (∀ p H' vs (bs : List β), H p = none → Ext W H H' → H' p = some (.lst vs) → Dl (den (W.toWc.plus p) H') vs bs → k bs → Q (.ref p) H') → te σ H Q
theorem fresh_back {W : Wd} {H H' : Hp} {p : Addr} (o : W.ok H') (e : Ext W H H') (h : H' p = none) : H p = none := by
  cases q : H p with
  | none => rfl
  | some u =>
    rw [e.keep p u (fresh_mu o h) q] at h
    cases h
theorem EvF.k {β : Type} {rβ : Rep β} {k : List β → Prop} (h : EvF W te Γ k) : EvK W te Γ k := fun σ H Q E c =>
  h σ H Q E fun p H' vs bs n e hp hb q => c (.ref p) H' bs e ⟨p, vs, rfl, Lq.new (fun m => by
    obtain ⟨o, z⟩ := W.live H p E.ok m
    rw [n] at z
    cases z) hp, hb.imp fun _ _ d => Rep.shrink p d⟩ q
end
/-- what a field of an error may hold -/
inductive Fv where
  | i (n : Int) | s (x : Str) | p (a b : Int) | l (xs : List Str) | no | t1 (x : Str)
def Fv.den (W : Wc) (H : Hp) (v : V) : Fv → Prop
  | .i n => Rep.dn W H v n
  | .s x => Rep.dn W H v x
  | .p a b => Rep.dn W H v (a, b)
  | .l xs => Rep.dn W H v xs
  | .no => v = .non
  | .t1 x => ∃ p, v = .ref p ∧ Tq W H p [.str x]
theorem Fv.mono {W : Wc} {H H' : Hp} {v : V} (e : Kp W H H') : ∀ {f : Fv}, f.den W H v → f.den W H' v
  | .i _, h => h
  | .s _, h => h
  | .p a b, h => Rep.mono (a := (a, b)) e h
  | .l xs, h => Rep.mono (a := xs) e h
  | .no, h => h
  | .t1 _, ⟨q, h1, h2⟩ => ⟨q, h1, h2.mono e⟩
theorem Fv.grow {W : Wc} {H : Hp} {v : V} (D : Addr) (n : H D = none) : ∀ {f : Fv}, f.den W H v → f.den (W.plus D) H v
  | .i _, h => h
  | .s _, h => h
  | .p a b, h => Rep.grow (a := (a, b)) D n h
  | .l xs, h => Rep.grow (a := xs) D n h
  | .no, h => h
  | .t1 _, ⟨q, h1, h2⟩ => ⟨q, h1, h2.grow D n⟩
theorem Fv.shrink {W : Wc} {H : Hp} {v : V} (D : Addr) : ∀ {f : Fv}, f.den (W.plus D) H v → f.den W H v
  | .i _, h => h
  | .s _, h => h
  | .p a b, h => Rep.shrink (a := (a, b)) D h
  | .l xs, h => Rep.shrink (a := xs) D h
  | .no, h => h
  | .t1 _, ⟨q, h1, h2⟩ => ⟨q, h1, h2.shrink D⟩
/-- an error that leaves: its class by name, its fields -/
structure Xn where
  c : Cn
  fs : List (Str × Fv)
inductive DF (W : Wc) (H : Hp) : List (Str × V) → List (Str × Fv) → Prop
  | nil : DF W H [] []
  | cons {x : Str} {v : V} {t : Fv} {vs : List (Str × V)} {ts : List (Str × Fv)} : t.den W H v → DF W H vs ts → DF W H ((x, v) :: vs) ((x, t) :: ts)
theorem DF.imp {W W' : Wc} {H H' : Hp} (h : ∀ (v : V) (f : Fv), f.den W H v → f.den W' H' v) : ∀ {vs : List (Str × V)} {ts : List (Str × Fv)}, DF W H vs ts → DF W' H' vs ts
  | _, _, .nil => .nil
  | _, _, .cons x y => .cons (h _ _ x) (y.imp h)
theorem DF.at {W : Wc} {H : Hp} {f : Str} {t : Fv} : ∀ {vs : List (Str × V)} {ts : List (Str × Fv)}, DF W H vs ts → ts.lookup f = some t → ∃ v, vs.lookup f = some v ∧ t.den W H v
  | _, _, .nil, h => by cases h
  | _, _, .cons (x := x) (v := v) d r, h => by
    rw [List.lookup_cons] at h ⊢
    cases q : (f == x) with
    | true =>
      rw [q] at h
      cases h
      exact ⟨v, rfl, d⟩
    | false =>
      rw [q] at h
      exact DF.at r h
def xden (W : Wc) (H : Hp) (d : Option Addr) (fs : List (Str × Fv)) : Prop := (fs = [] ∧ d = none) ∨ ∃ dd vs, d = some dd ∧ ¬ W.mu dd ∧ H dd = some (.xd vs) ∧ DF W H vs fs
/-- an error in hand -/
structure Er where
  a : Addr
  d : Option Addr
  n : Xn
instance : Rep Er where
  dn := fun W H v e => v = .ref e.a ∧ xden W H e.d e.n.fs
  mono := fun k h => ⟨h.1, h.2.imp (fun h => h) fun ⟨dd, vs, h1, h2, h3, h4⟩ => ⟨dd, vs, h1, h2, k _ _ h2 h3, h4.imp fun _ _ z => Fv.mono k z⟩⟩
  grow := fun D n h => ⟨h.1, h.2.imp (fun h => h) fun ⟨dd, vs, h1, h2, h3, h4⟩ => ⟨dd, vs, h1, mu_grow n h2 h3, h3, h4.imp fun _ _ z => Fv.grow D n z⟩⟩
  shrink := fun D h => ⟨h.1, h.2.imp (fun h => h) fun ⟨dd, vs, h1, h2, h3, h4⟩ => ⟨dd, vs, h1, fun z => h2 (.inl z), h3, h4.imp fun _ _ z => Fv.shrink D z⟩⟩
def XOk (W : Wd) (H : Hp) (E : XK) (x : Xn → Prop) : Prop := ∀ n d H', Ext W H H' → xden W H' d n.fs → x n → E (.ref (W.B.cl n.c)) d H'
/-- P rt x ts: from the arguments ts to what is wished of the answer and of an error -/
abbrev PT := (Ty → Prop) → (Xn → Prop) → List Ty → Prop
def spG (B : Bs) (P : PT) : Sp := fun vs H Q E => ∃ (W : Wd) (ts : List Ty) (rt : Ty → Prop) (x : Xn → Prop), W.B = B ∧ W.ok H ∧ DT W H vs ts ∧ P rt x ts ∧ (∀ v H' (t : Ty), Ext W H H' → t.den W H' v → rt t → Q v H') ∧ XOk W H E x
def Wd.wth (W : Wd) (E : XK) (x : Xn → Prop) : Wd where
  toWc := W.toWc
  ok := W.ok
  live := W.live
  st := W.st
  wish := fun H => XOk W H E x
  wst := fun H H' k o w n d H2 e => w n d H2 ⟨fun a u m z => e.keep a u m (k a u m z), e.ok⟩
  hasbox := W.hasbox
  boxset := W.boxset
  boxmu := W.boxmu
  oke := W.oke
theorem Ext.wth {W : Wd} {E : XK} {x : Xn → Prop} {H H' : Hp} (e : Ext (W.wth E x) H H') : Ext W H H' := ⟨e.keep, e.ok⟩
theorem start_ok {W : Wd} {H : Hp} {vs : List V} {ts : List Ty} {N : List Str} (h : W.ok H) (w : W.wish H) (d : DT W H vs ts) : GOk W H (L2.start N vs) (ts.map some ++ List.replicate (N.length - ts.length) none) := by
  refine ⟨h, w, fun i t e => ?_, by unfold L2.start; rw [List.length_append, List.length_append, List.length_map, List.length_map, List.length_replicate, List.length_replicate, d.length]⟩
  have aux : ∀ {vs : List V} {ts : List Ty} {i : Nat} {m : Nat}, DT W H vs ts → (ts.map some ++ List.replicate m none)[i]? = some (some t) → ∃ v, vs[i]? = some v ∧ t.den W H v := by
    intro vs ts i m d
    induction d generalizing i with
    | nil =>
      intro e
      rw [List.map_nil, List.nil_append] at e
      have := List.mem_of_getElem? e
      rw [List.mem_replicate] at this
      cases this.2
    | cons x _ ih =>
      intro e
      cases i with
      | zero =>
        have : some _ = some (some t) := e
        cases this
        exact ⟨_, rfl, x⟩
      | succ i =>
        obtain ⟨v, h1, h2⟩ := ih (i := i) (by simpa using e)
        exact ⟨v, by simpa using h1, h2⟩
  obtain ⟨v, h1, h2⟩ := aux d e
  refine ⟨v, ?_, h2⟩
  unfold L2.start
  have hl : i < vs.length := (List.getElem?_eq_some_iff.mp h1).1
  rw [List.getElem?_append_left (by rw [List.length_map]; exact hl), List.getElem?_map, h1]
  rfl
/-- the body of a def keeps its promise -/
theorem body_ok {B : Bs} {P : PT} {t : TS} {N : List Str} {vs : List V} {H : Hp} {Q : VK} {E : XK}
    (hb : ∀ (W : Wd) ts rt x, W.B = B → W.ok H → (∀ H', W.ok H' → W.wish H' → XOk W H' E x) → P rt x ts → Sx W t (ts.map some ++ List.replicate (N.length - ts.length) none) { nx := fun _ => rt (T ()), rt := rt })
    (h : spG B P vs H Q E) : t { nx := fun _ H' => Q .non H', rt := Q } (L2.start N vs) H := by
  obtain ⟨W, ts, rt, x, hB, ho, d, hp, hq, hx⟩ := h
  refine hb (W.wth E x) ts rt x hB ho (fun H' _ w n d2 H2 e z q => w n d2 H2 e.wth z q) hp _ _ H (start_ok ho hx d) ⟨fun σ' H' Γ' e G q => hq .non H' (T ()) e.wth rfl q, fun v H' t e z q => hq v H' t e.wth z q, fun _ _ _ _ _ q => q.elim, fun _ _ _ _ _ q => q.elim⟩
theorem len_ok {B : Bs} {P : PT} {n : Nat} (hn : ∀ rt x ts, P rt x ts → ts.length = n) : ∀ vs H Q E, spG B P vs H Q E → vs.length = n := fun vs H Q E ⟨W, ts, rt, x, _, _, d, hp, _⟩ => d.length.trans (hn rt x ts hp)
end G
set_option Elab.async false
set_option linter.all false
set_option maxRecDepth 100000
set_option maxHeartbeats 2000000
namespace G
open PySem PySem.Spec PyProof.Rows L2 StX
section
variable {X : Cx} {CX : CXT} {k n : Nat} {f g C : Addr} {sp : Sp} {E : XK} {x : Str} {e : Expr} {es : List Expr} {t : TA} {p pos : Pos}
def tCallR (sp : Sp) (E : XK) (t : TA) : TE := fun σ H Q => t σ H fun vs H1 => sp vs H1 Q E
/-- f(e, ..) by a promise of values -/
theorem pe_callR (F : FnR X.prog X.w X.K X.mg X.base CX k f sp) (hr : Room k X.A) (hg : Gl X x) (hm : X.mg x = some (.ref f)) (hk : PySem.W.keepIn X.K (.ref f) = true) (hx : Passes CX X E)
    (ha : PA X (e :: es) t) (hdb : (x == ("__debug__" : Str)) = false := by decide) (he : starEach (e :: es) X.env = (false, eval e X.env) :: starEach es X.env := by rfl) (hpl : (backTo pos (starEach es X.env)).any (·.1) = false := by rfl) :
    PE X (.Call (.Name x p) (e :: es) [] pos) (tCallR sp E t) := by
  refine ⟨fun pins s σ H Q I h => ?_⟩
  refine wpAny_Call_Name_kw (ld_glob I hg hm ?_ hdb)
  refine PySem.W.callWith_K (h₀ := X.base) I.ok.mod.kin hk (thn (ha.run pos pins s σ H _ I h) fun us s1 ⟨vs, H1, I1, r, q⟩ => ⟨I1.kIn, ?_⟩) he hpl
  exact wpAny_call (run_fnR F hr hx I1 r q)
theorem ix_listK (K : PySem.W.Frag) (h : X.K = K := by rfl) : IxR X (rIxL K) := by subst h; exact ix_list
theorem op_eqDK (K : PySem.W.Frag) (hu : X.A.units + 64 < cLine) (h : X.K = K := by rfl) : OpR X (compareOp .Eq) (rEqD K) := by subst h; exact op_eqD hu
theorem op_neDK (K : PySem.W.Frag) (hu : X.A.units + 64 < cLine) (h : X.K = K := by rfl) : OpR X (compareOp .NotEq) (rNeD K) := by subst h; exact op_neD hu
theorem op_inSeqK (K : PySem.W.Frag) (h : X.K = K := by rfl) : OpR X (compareOp .In) (rIn K false) := by subst h; exact op_in_seq
theorem call_lenK (K : PySem.W.Frag) (h : X.K = K := by rfl) : CallR X (.builtin "len") (fun xs H Q => ∃ p ys, xs = [.ref p] ∧ (SqL K H p ys ∨ SqT K H p ys) ∧ Q (.int ys.length) H) := by subst h; exact call_len_seq
theorem call_isiKK (K : PySem.W.Frag) (h : X.K = K := by rfl) : CallR X (.builtin "isinstance") (rIsi K) := by subst h; exact call_isi
theorem sl_listK (K : PySem.W.Frag) (h : X.K = K := by rfl) : SlR X (rSlL K) := by subst h; exact sl_list
theorem pe_fldK (K : PySem.W.Frag) {o : Expr} {fl : Str} {ta : TE} (he : PE X o ta) (hb : attributeBase o fl X.env (eval o X.env) = eval o X.env) (h : X.K = K := by rfl) : PE X (.Attribute o fl pos) (tFld K ta fl) := by subst h; exact pe_fld he hb
theorem pi_listK (K : PySem.W.Frag) {tg l : Expr} {tl : TE} (he : PE X l tl) (h : X.K = K := by rfl) : PI X tg l (iList K tl) := by subst h; exact pi_list he
/-- x in o, o of a class with its own __contains__ -/
def rInOwn (C : Addr) (sp : Sp) (E : XK) : R2 := fun x y H Q => ∃ a dx fs, y = .ref a ∧ H a = some (.ins C dx fs) ∧ sp [y, x] H (fun v H' => ∃ b, v = .bl b ∧ Q (.bl b) H') E
end
section
variable {W : Wd} {Γ : Gam} {ta : TA} {te tb to : TE}
theorem ev_callR {α : Type} {rα : Rep α} {B : Bs} {P : PT} {E : XK} {k : α → Prop} (hB : W.B = B) (h : EvA W ta Γ fun ts => P (fun t => ∃ a : α, t = T a ∧ k a) (fun _ => False) ts) : EvK W (tCallR (spG B P) E ta) Γ k := fun σ H Q G c =>
  h σ H _ G fun vs H1 ts e1 d z => ⟨W, ts, _, _, hB, e1.ok, d, z, fun v H2 t e2 dt ⟨a, ea, q⟩ => by
    subst ea
    exact c v H2 a (e1.trans e2) dt q, fun n d2 H2 _ _ q => q.elim⟩
/-- data that is an instance of the class named c -/
class Ins (β : Type) [Rep β] (c : outParam Cn) (fl : outParam (List Str)) : Prop where
  at_ : ∀ {W : Wc} {H : Hp} {v : V} {b : β}, den W H v b → ∃ a dx fs, v = .ref a ∧ ¬ W.mu a ∧ H a = some (.ins (W.B.cl c) dx fs) ∧ fs.map (·.1) = fl
/-- the class of such data is at C -/
def OwnG (β : Type) [Rep β] (B : Bs) (C : Addr) (G : Prop) : Prop := ∃ c fl, Ins β c fl ∧ B.cl c = C ∧ G
theorem own_in {β : Type} [Rep β] {c : Cn} {fl : List Str} [i : Ins β c fl] {B : Bs} {C : Addr} {G : Prop} (hC : B.cl c = C) (h : G) : OwnG β B C G := ⟨c, fl, i, hC, h⟩
theorem ev_inOwn {α β : Type} {rα : Rep α} {rβ : Rep β} {C : Addr} {B : Bs} {P : PT} {E : XK} {k : Bool → Prop} (hB : W.B = B)
    (h : EvK W te Γ fun a : α => EvK W tb Γ fun s : β => OwnG β B C (P (fun t => ∃ b : Bool, t = T b ∧ k b) (fun _ => False) [T s, T a])) : EvK W (tOp (rInOwn C (spG B P) E) te tb) Γ k := by
  subst hB
  refine ev_two (h.imp fun a ha => ha.imp fun s ⟨c, fl, iβ, hC, hp⟩ x y H Q o dx dy q => ?_)
  subst hC
  obtain ⟨p, dp, fs, hv, _, hH, _⟩ := iβ.at_ dy
  exact ⟨p, dp, fs, hv, hH, W, _, _, _, rfl, o, .cons (t := T s) dy (.cons (t := T a) dx .nil), hp, fun v H2 t e2 dt ⟨b, eb, kb⟩ => by
    subst eb
    exact ⟨b, dt, q _ H2 b e2 rfl kb⟩, fun n d2 H2 _ _ z => z.elim⟩
/-- what == of plain data asks: that it is data -/
def EqG {α : Type} [Rep α] (a b : α) (k : Bool → Prop) : Prop := ∃ (d : Dat α) (_ : DecidableEq α), Dat.dep α ≤ 64 ∧ (Dat.good a ∧ Dat.good b) ∧ k (decide (a = b))
theorem eqg_in {α : Type} [Rep α] [Dat α] [DecidableEq α] {a b : α} {k : Bool → Prop} (h1 : Dat.dep α ≤ 64) (h2 : Dat.good a) (h3 : Dat.good b) (h : k (decide (a = b))) : EqG a b k := ⟨inferInstance, inferInstance, h1, ⟨h2, h3⟩, h⟩
def NeG {α : Type} [Rep α] (a b : α) (k : Bool → Prop) : Prop := EqG a b fun x => k (!x)
theorem neg_in {α : Type} [Rep α] [Dat α] [DecidableEq α] {a b : α} {k : Bool → Prop} (h1 : Dat.dep α ≤ 64) (h2 : Dat.good a) (h3 : Dat.good b) (h : k (!decide (a = b))) : NeG a b k := eqg_in h1 h2 h3 h
theorem ev_eqG {α : Type} {rα : Rep α} {K : PySem.W.Frag} {k : Bool → Prop} (hK : W.B.K = K) (h : EvK W te Γ fun a : α => EvK W tb Γ fun b : α => EqG a b k) : EvK W (tOp (rEqD K) te tb) Γ k := by
  subst hK
  exact ev_two (h.imp fun a ha => ha.imp fun b ⟨d, q, h1, h2, h3⟩ x y H Q o dx dy c => ⟨_, _, Dat.dp dx, Dat.dp dy, shaped_of h2.1 h1, shaped_of h2.2 h1, c _ H _ (Ext.refl o) rfl (by rw [eqv_dec]; exact h3)⟩)
theorem ev_neG {α : Type} {rα : Rep α} {K : PySem.W.Frag} {k : Bool → Prop} (hK : W.B.K = K) (h : EvK W te Γ fun a : α => EvK W tb Γ fun b : α => NeG a b k) : EvK W (tOp (rNeD K) te tb) Γ k := by
  subst hK
  exact ev_two (h.imp fun a ha => ha.imp fun b ⟨d, q, h1, h2, h3⟩ x y H Q o dx dy c => ⟨_, _, Dat.dp dx, Dat.dp dy, shaped_of h2.1 h1, shaped_of h2.2 h1, c _ H _ (Ext.refl o) rfl (by rw [eqv_dec]; exact h3)⟩)
theorem ev_pow {n m : Int} {k : Int → Prop} (hc : CPow n m) (h : k (n ^ m.toNat)) : EvK W (tOp (rI CPow fun i j => .int (i ^ j.toNat)) (tC (.int n)) (tC (.int m))) Γ k :=
  ev_opC (ev_int (ev_int ⟨hc, h⟩))
/-- isinstance of plain data -/
class PyTy (α : Type) [Rep α] (ty : String) : Prop where
  at_ : ∀ {W : Wc} {H : Hp} {v : V} {a : α}, den W H v a → TyX W.B.K H v (.type ty)
instance : PyTy Int "int" := ⟨fun h => by cases h; exact .base (.int _)⟩
instance : PyTy Bool "bool" := ⟨fun h => by cases h; exact .base (.bl _)⟩
instance : PyTy Str "str" := ⟨fun h => by cases h; exact .base (.str _)⟩
theorem ev_isi {α : Type} {rα : Rep α} {K : PySem.W.Frag} {ty n : String} {b : Bool} {k : Bool → Prop} (hK : W.B.K = K) (i : PyTy α ty) (hb : PySem.W.kitOne K (.type ty) (.type n) = some b) (h : EvK W te Γ fun _ : α => k b) :
    EvK W (tCB (rIsi K) (tCons te (tCons (tC (.ty n)) tNil))) Γ k := by
  subst hK
  exact fun σ H Q E c => h σ H _ E fun v H1 a e1 d z => ⟨v, .ty n, _, _, b, rfl, .ty n, i.at_ d, hb, c _ H1 b e1 rfl z⟩
structure Stc where
  lo : Int
  hi : Int
  deriving DecidableEq
def stcF (lo hi : Int) : List (Str × V) := [("low", .int lo), ("high", .int hi)]
instance : Rep Stc :=
  ⟨fun W H v s => ∃ a dx, v = .ref a ∧ ¬ W.mu a ∧ H a = some (.ins (W.B.cl .Stretch) dx (stcF s.lo s.hi)),
   fun e ⟨a, dx, hv, m, h⟩ => ⟨a, dx, hv, m, e _ _ m h⟩,
   fun D n ⟨a, dx, hv, m, h⟩ => ⟨a, dx, hv, mu_grow n m h, h⟩,
   fun D ⟨a, dx, hv, m, h⟩ => ⟨a, dx, hv, fun z => m (.inl z), h⟩⟩
instance : Ins Stc .Stretch ["low", "high"] := ⟨fun ⟨a, dx, hv, m, h⟩ => ⟨a, dx, _, hv, m, h, rfl⟩⟩
theorem stc_low (lo hi : Int) : (stcF lo hi).lookup ("low" : Str) = some (V.int lo) := by simp [stcF, List.lookup]
theorem stc_high (lo hi : Int) : (stcF lo hi).lookup ("high" : Str) = some (V.int hi) := by
  have h : (("high" : Str) == ("low" : Str)) = false := by decide +kernel
  simp [stcF, List.lookup, h]
/-- what the text says of the class -/
structure StcT (B : Bs) : Prop where
  cl : Cls B.K (B.cl .Stretch)
  nlow : NoAttr B.K (B.cl .Stretch) "low"
  nhigh : NoAttr B.K (B.cl .Stretch) "high"
theorem stc_of {W : Wd} {B : Bs} (h : W.B = B) (s : StcT B) : StcT W.B := h ▸ s
theorem ev_low {K : PySem.W.Frag} {k : Int → Prop} (hK : W.B.K = K) (hS : StcT W.B) (h : EvK W te Γ fun s : Stc => k s.lo) : EvK W (tFld K te "low") Γ k := by
  subst hK
  refine fun σ H Q E c => h σ H _ E fun v H1 s e1 ⟨a, dx, hv, m, hH⟩ z => ?_
  exact ⟨a, _, dx, _, _, hv, hH, hS.cl, hS.nlow, stc_low _ _, c _ H1 _ e1 rfl z⟩
theorem ev_high {K : PySem.W.Frag} {k : Int → Prop} (hK : W.B.K = K) (hS : StcT W.B) (h : EvK W te Γ fun s : Stc => k s.hi) : EvK W (tFld K te "high") Γ k := by
  subst hK
  refine fun σ H Q E c => h σ H _ E fun v H1 s e1 ⟨a, dx, hv, m, hH⟩ z => ?_
  exact ⟨a, _, dx, _, _, hv, hH, hS.cl, hS.nhigh, stc_high _ _, c _ H1 _ e1 rfl z⟩
/-- __init__: the fields are set; or the error is made -/
def spSI (B : Bs) : Sp := fun vs H Q E => ∃ (p dx : Addr) (lo hi : Int), vs = [.ref p, .int lo, .int hi] ∧ H p = some (.ins (B.cl .Stretch) dx []) ∧
  lo ≤ hi ∧ Q .non (upd (upd H p (.ins (B.cl .Stretch) dx [("low", .int lo)])) p (.ins (B.cl .Stretch) dx (stcF lo hi)))
/-- Stretch(lo, hi), in order -/
theorem ev_stretch {B : Bs} {C : Addr} {E : XK} {ta tb : TE} {k : Stc → Prop} (hB : W.B = B) (hC : B.cl .Stretch = C) (h : EvK W ta Γ fun lo : Int => EvK W tb Γ fun hi : Int => lo ≤ hi ∧ k ⟨lo, hi⟩) : EvK W (tMakeR C (spSI B) E (tCons ta (tCons tb tNil))) Γ k := by
  subst hB
  subst hC
  refine fun σ H Q G c => h σ H _ G fun v H1 lo e1 d1 h1 => h1 σ H1 _ (G.ext e1) fun u H2 hi e2 d2 ⟨hle, z⟩ => ?_
  intro x dx nx ndx nex
  refine ⟨x, dx, lo, hi, by cases d1; cases d2; rfl, upd_same, hle, rfl, ?_⟩
  have o := e2.ok
  have m1 := fresh_mu o ndx
  have m2 := fresh_mu o nx
  have okx : W.ok (upd (upd (upd (upd H2 dx (.own x)) x (.ins (W.B.cl .Stretch) dx [])) x (.ins (W.B.cl .Stretch) dx [("low", .int lo)])) x (.ins (W.B.cl .Stretch) dx (stcF lo hi))) :=
    W.st _ _ _ (W.st _ _ _ (W.st _ _ _ (W.st _ _ _ o m1) m2) m2) m2
  refine c (.ref x) _ ⟨lo, hi⟩ ((e1.trans e2).trans ⟨fun a u _ q => ?_, okx⟩) ⟨x, dx, rfl, m2, upd_same⟩ z
  have n1 : a ≠ x := ne_of_none q nx
  have n2 : a ≠ dx := ne_of_none q ndx
  rw [upd_ne n1, upd_ne n1, upd_ne n1, upd_ne n2]
  exact q
end
theorem raw_seq {t u : TS} {D : Ends} {σ : L2.St} {H : Hp} (h : t { D with nx := u D } σ H) : tSeq t u D σ H := h
theorem raw_asg {te : TE} {g : TG} {D : Ends} {σ : L2.St} {H : Hp} (h : te σ H fun x H1 => g x σ H1 D.nx) : tAsg te g D σ H := h
theorem yes_then {σ : L2.St} {H : Hp} {A B : Hp → Prop} (h : A H) : tYes σ H fun b H3 => if b = true then A H3 else B H3 := by
  show if true = true then A H else B H
  rw [if_pos rfl]
  exact h
theorem itT {c : Bool} {A B : Prop} (hc : c = true) (h : A) : if c = true then A else B := by
  rw [if_pos hc]
  exact h
theorem itF {c : Bool} {A B : Prop} (hc : c = false) (h : B) : if c = true then A else B := by
  rw [hc, if_neg Bool.false_ne_true]
  exact h
structure Ow where
  p : Addr
instance : Rep Ow := ⟨fun _ _ v a => v = .ref a.p, fun _ h => h, fun _ _ h => h, fun _ h => h⟩
theorem GOk.plus {W : Wd} {F H1 : Hp} {σ : L2.St} {Γ : Gam} {p : Addr} {vs : List V} (G : GOk W F σ Γ) (n : F p = none) (e : Ext W F H1) (hp : H1 p = some (.lst vs)) : GOk (W.plus p vs F n G.ok G.wish) H1 σ Γ :=
  ⟨⟨e.ok, hp⟩, fun b o m z => e.keep b o m z, fun i t h => by
    obtain ⟨v, h1, h2⟩ := G.at_ i t h
    exact ⟨v, h1, Ty.mono (fun b o m z => e.keep b o (fun z => m (.inl z)) z) (t.r.grow p n h2)⟩, G.len⟩
def boxW (B : Bs) (b c : Addr) (hbc : b ≠ c) (cells : List V) (ns : List Int) (hc : cells = ns.map V.int) : Wd where
  B := B
  mu := fun a => a = b ∨ a = c
  box := fun a => a = b
  ok := fun H => (∃ i p s : Int, H b = some (.lst [.ref c, .int i, .int p, .int s]) ∧ 0 ≤ i ∧ 0 ≤ p) ∧ H c = some (.lst cells)
  live := fun H a ⟨⟨i, p, s, h, _⟩, h2⟩ m => by
    rcases m with m | m
    · subst m; exact ⟨_, h⟩
    · subst m; exact ⟨_, h2⟩
  st := fun H p o ⟨⟨i, q, s, h, z⟩, h2⟩ m => ⟨⟨i, q, s, by rw [upd_ne (fun e => m (.inl e.symm))]; exact h, z⟩, by rw [upd_ne (fun e => m (.inr e.symm))]; exact h2⟩
  wish := fun _ => True
  wst := fun _ _ _ _ _ => trivial
  hasbox := fun H a ⟨⟨i, q, s, h, z⟩, h2⟩ e => by
    subst e
    exact ⟨c, ns, i, q, s, hbc, h, by rw [h2, hc], z⟩
  boxset := fun H a c1 i1 p1 s1 i' p' s' ⟨⟨i, q, s, h, z⟩, h2⟩ e h1 z1 z2 => by
    subst e
    rw [h] at h1
    obtain rfl : c = c1 := by injection h1 with h1; injection h1 with h1; injection h1 with h1 _; injection h1
    exact ⟨⟨i', p', s', upd_same, z1, z2⟩, by rw [upd_ne (Ne.symm hbc)]; exact h2⟩
  boxmu := fun a e => .inl e
  oke := fun H H' ⟨⟨i, p, s, h, z⟩, h2⟩ k => ⟨⟨i, p, s, k _ _ h, z⟩, k _ _ h2⟩
/-- the rest of the law, behind its box -/
theorem law_run {B : Bs} {t : TS} {σ : L2.St} {H : Hp} {Q : VK} {b c : Addr} {ns : List Int} {s : Int} {j : Nat} (hbc : b ≠ c) (hb : H b = some (.lst [.ref c, .int 0, .int 0, .int s])) (hc : H c = some (.lst (ns.map V.int)))
    (hj : σ[j]? = some (some (.ref b))) (hQ : ∀ H', Q (.bl true) H')
    (hs : ∀ W : Wd, W.B = B → Sx W t ((List.replicate σ.length none).set j (some (T Bx.mk))) { nx := fun _ => False, rt := fun t => t = T true }) : t { nx := fun _ H' => Q .non H', rt := Q } σ H := by
  refine hs (boxW B b c hbc _ ns rfl) rfl _ σ H ⟨⟨⟨0, 0, s, hb, Int.le_refl _, Int.le_refl _⟩, hc⟩, trivial, fun i t h => ?_, by rw [List.length_set, List.length_replicate]⟩ ⟨fun _ _ _ _ _ q => q.elim, fun v H' t _ d q => ?_, fun _ _ _ _ _ q => q.elim, fun _ _ _ _ _ q => q.elim⟩
  · by_cases e : j = i
    · subst e
      have hl : j < (List.replicate σ.length (none : Option Ty)).length := by rw [List.length_replicate]; exact (List.getElem?_eq_some_iff.mp hj).1
      rw [List.getElem?_set_self hl] at h
      cases h
      exact ⟨_, hj, b, rfl, rfl⟩
    · rw [List.getElem?_set_ne e] at h
      have := List.mem_of_getElem? h
      rw [List.mem_replicate] at this
      cases this.2
  · subst q
    obtain rfl : v = .bl true := d
    exact hQ H'
theorem room {j k : Nat} {A : Around} (h : Room k A) (hjk : j ≤ k := by decide) : Room j A := h.mono hjk
theorem huD {k : Nat} {A : Around} (h : Room k A) : A.units + 64 < cLine := h.units
def DefM (K : PySem.W.Frag) (name qual : Str) (st : Stmt) (ps : List Str) (f : Addr) : Prop := ∃ fd, Fun K name qual st f fd ∧ Binds K fd ps []
structure DefAt (K : PySem.W.Frag) (mg : Str → Option Value) (name : Str) (st : Stmt) (ps : List Str) (f : Addr) : Prop where
  d : DefM K name name st ps f
  g : mg name = some (.ref f)
  kp : PySem.W.keepIn K (.ref f) = true
section
variable {P : Program} {w : World} {K : PySem.W.Frag} {mg : Str → Option Value} {base : Heap}
theorem fnR_of {st : Stmt} {N ps : List Str} {k : Nat} {sp : Sp} {f : Addr} {name qual : Str} (D : DefM K name qual st ps f) (S : FnScope N ps (defScope st)) (len : ∀ vs H Q E, sp vs H Q E → vs.length = ps.length)
    (hbody : ∀ (cdv : Value) (A : Around) (outer : List Env) (s : Shared) (H : Hp) (vs : List V) (Q : VK) (E : XK), Room k (A.deeper (envOfC qual (defScope st) s.heap.objs.size f cdv)) → sp vs H Q E →
      ∃ t, PSs (cxOf CX0 P w K mg base N qual (defScope st) f cdv A outer s H E).nox (defBody st) t ∧ t { nx := fun _ H' => Q .non H', rt := Q } (L2.start N vs) H) : FnR P w K mg base CX0 (k + 1) f sp := by
  obtain ⟨fd, F, b⟩ := D
  exact ((F.ok S len hbody).raw b .nil).imp fun vs H Q E h => by rw [List.append_nil]; exact h
end
end G
set_option Elab.async false
set_option linter.all false
set_option maxRecDepth 100000
set_option maxHeartbeats 2000000
namespace G
open PySem PySem.Spec PyProof.Rows L2 StX
section
variable {X : Cx} {e : Expr} {es : List Expr} {ta : TA} {p1 p2 pos : Pos}
/-- what the text says of GaugeError, at CG -/
structure GeT (K : PySem.W.Frag) (mg : Str → Option Value) (CG : Addr) : Prop where
  g : mg "GaugeError" = some (.ref CG)
  ga : PySem.W.specialIn K (.ref CG) "__getattribute__" = some (some (.builtin "type.__getattribute__"))
  rd : PySem.W.readsIn K CG (.type "type") = true
  at_ : PySem.W.findCls K (.ref CG) (.type "type") "__init__" = some (.val (.builtin "ValueError.__init__"))
theorem pe_geinit {pl : Sem Bool} {CG : Addr} (T : GeT X.K X.mg CG) (ha : PA X (e :: es) ta) (hg : Gl X "GaugeError" := by rfl)
    (hc : eval (.Call (.Attribute (.Name "GaugeError" p1) "__init__" p2) (e :: es) [] pos) X.env = (do
      let ov ← eval (.Name "GaugeError" p1) X.env
      standAt p2.atName
      let (f, first) ← holding [ov] (getMethod ov "__init__" pl)
      callWith pos f first (backTo pos (starEach (e :: es) X.env)) (backToKw pos (keywordEach [] X.env))) := by rfl)
    (he : starEach (e :: es) X.env = (false, eval e X.env) :: starEach es X.env := by rfl) (hpl : (backTo pos (starEach es X.env)).any (·.1) = false := by rfl) :
    PE X (.Call (.Attribute (.Name "GaugeError" p1) "__init__" p2) (e :: es) [] pos) (tVeI X.K ta) := by
  refine ⟨fun pins s σ H Q I h => ?_⟩
  refine PySem.W.methodCall_KW (ld_glob I hg T.g ?_) hc
  refine PySem.W.method_cls I.kIn T.ga (PySem.W.cls_value I.kIn T.rd T.at_ (by decide +kernel) ?_)
  show wpAny _ _ (callWith pos (Value.builtin "ValueError.__init__") [] (backTo pos (starEach (e :: es) X.env)) []) _ _ _
  refine PyProof.Rows.callWith_method1 (thn (ha.run pos pins _ σ H _ (I.tok _) h) fun us s1 ⟨vs, H1, I1, r1, a, C, ws, ev, hl, T, ea, q⟩ => ?_) he hpl
  subst ev
  cases r1 with
  | @cons _ u0 _ ur ra rw' =>
    obtain rfl : u0 = Value.ref a := ra
    have hlen : ur.length ≤ sizeLine := by
      rw [← Paired.length rw', sizeLine_eq]
      omega
    exact oinit_ok T I1 ea hlen fun s' J => ⟨.non, H1, J, rfl, q⟩
end
/-- numbers that can be written into a text -/
def Small (i : Int) : Prop := i.natAbs.log2 < 1920
theorem small_of {i : Int} (h : i.natAbs < 2 ^ 1000) : Small i := by
  unfold Small
  rcases Nat.eq_zero_or_pos i.natAbs with h0 | h0
  · rw [h0]; decide
  · have := (Nat.log2_lt (by omega)).mpr h
    omega
/-- __init__ of Stretch, all of it -/
def spSIX (B : Bs) : Sp := fun vs H Q E => ∃ (p dx : Addr) (lo hi : Int), vs = [.ref p, .int lo, .int hi] ∧ H p = some (.ins (B.cl .Stretch) dx []) ∧
  (lo ≤ hi → Q .non (upd (upd H p (.ins (B.cl .Stretch) dx [("low", .int lo)])) p (.ins (B.cl .Stretch) dx (stcF lo hi)))) ∧
  (hi < lo → Small lo ∧ Small hi ∧ ∀ d, H d = none → E (.ref (B.cl .BadStretch)) (some d) (upd H d (.xd [("high", .int hi), ("low", .int lo)])))
theorem XOk.ext {W : Wd} {H H' : Hp} {E : XK} {x : Xn → Prop} (w : XOk W H E x) (e : Ext W H H') : XOk W H' E x := fun n d H2 e2 => w n d H2 (e.trans e2)
section
variable {X : Cx} {CX : CXT} {k n : Nat} {f g C : Addr} {sp : Sp} {E : XK} {o e : Expr} {es : List Expr} {to te ta : TE} {t : TA} {p p' pos apos : Pos} {m : Str}
theorem pe_geinitK (K : PySem.W.Frag) {p1 p2 : Pos} {pl : Sem Bool} {CG : Addr} (T : GeT X.K X.mg CG) (ha : PA X (e :: es) t) (hK : X.K = K := by rfl) (hg : Gl X "GaugeError" := by rfl)
    (hc : eval (.Call (.Attribute (.Name "GaugeError" p1) "__init__" p2) (e :: es) [] pos) X.env = (do
      let ov ← eval (.Name "GaugeError" p1) X.env
      standAt p2.atName
      let (f, first) ← holding [ov] (getMethod ov "__init__" pl)
      callWith pos f first (backTo pos (starEach (e :: es) X.env)) (backToKw pos (keywordEach [] X.env))) := by rfl)
    (he : starEach (e :: es) X.env = (false, eval e X.env) :: starEach es X.env := by rfl) (hpl : (backTo pos (starEach es X.env)).any (·.1) = false := by rfl) :
    PE X (.Call (.Attribute (.Name "GaugeError" p1) "__init__" p2) (e :: es) [] pos) (tVeI K t) := by subst hK; exact pe_geinit T ha hg hc he hpl
theorem ps_ostK (K : PySem.W.Frag) (ho : PE X o to) (he : PE X e te) (hs : swapsWith e (some (.Attribute o m p')) pos.line X.env = pure false := by rfl) (hK : X.K = K := by rfl) : PS X (.Assign [.Attribute o m p'] e pos) (tOst K m to te) := by subst hK; exact ps_ost ho he hs
/-- C(e, ..), an error with its own __init__ -/
theorem pmk_oexR {x : Str} {C fI : Addr} (T : OexC X.K C) (iC : PySem.W.findIn X.K (.ref C) "__init__" = some (some (.ref fI))) (tI : PySem.W.typeIn X.K (.ref fI) = some (.type "function"))
    (F : FnR X.prog X.w X.K X.mg X.base CX k fI sp) (hr : Room (k + 1) X.A) (hx : Passes CX X (fun _ _ _ => False)) (hg : Gl X x) (hm : X.mg x = some (.ref C)) (ha : PA X (e :: es) t)
    (hdb : (x == ("__debug__" : Str)) = false := by decide) (he : starEach (e :: es) X.env = (false, eval e X.env) :: starEach es X.env := by rfl) (hpl : (backTo pos (starEach es X.env)).any (·.1) = false := by rfl) :
    PMk X (.Call (.Name x p) (e :: es) [] pos) (tMkO C sp [] t) := by
  intro pins s σ H Q I h
  obtain ⟨nm, q, N, bs, bm, sn, sub, ab, col, dd, k0, k1, k2, k3, k5, hC, hbm⟩ := T.cls
  refine wpAny_Call_Name_kw (ld_glob I hg hm ?_ hdb)
  refine PySem.W.callWith_K (h₀ := X.base) I.ok.mod.kin T.kC (thn (ha.run pos pins s σ H _ I h) fun us s1 ⟨vs, H1, I1, r1, hz, q1⟩ => ⟨I1.kIn, ?_⟩) he hpl
  show wpAny _ _ (call (.ref C) us) _ _ _
  obtain ⟨hp, g, dr, tk, os⟩ := s1
  have hsz : hp.objs.size ≤ hp.objs.size + 1 := Nat.le_succ _
  have hn : H1 (hp.objs.size + 1) = none := I1.hok.fresh hsz
  have hq := q1 (hp.objs.size + 1) hn
  have kk : ∀ b o, hp.get? b = some o → ((hp.push (PySem.W.kdv_tup us)).push (PySem.HandSPX.excO C hp.objs.size)).get? b = some o := fun b o e => Heap.get?_push_of_some _ (Heap.get?_push_of_some _ e)
  have hget : ((hp.push (PySem.W.kdv_tup us)).push (PySem.HandSPX.excO C hp.objs.size)).get? (hp.objs.size + 1) = some (PySem.HandSPX.excO C hp.objs.size) := by heap_get
  have I2 : Inv X pins σ (upd H1 (hp.objs.size + 1) (exo (hp.objs.size + 1) C none)) ⟨(hp.push (PySem.W.kdv_tup us)).push (PySem.HandSPX.excO C hp.objs.size), g, dr, tk, os⟩ :=
    I1.laid (t' := tk) (a := hp.objs.size + 1) (o := exo (hp.objs.size + 1) C none) (h' := (hp.push (PySem.W.kdv_tup us)).push (PySem.HandSPX.excO C hp.objs.size)) kk hsz (exo_ok hget)
  have r2 : Vals (V.ref (hp.objs.size + 1) :: (vs ++ [])) (Value.ref (hp.objs.size + 1) :: us) := .cons rfl (by rw [List.append_nil]; exact r1)
  have hus : us.length ≤ sizeLine := by
    rw [← Paired.length r1, sizeLine_eq]
    omega
  refine wpAny_call (PySem.HandSPX.call_own PySem.F.excBase_ValueError (fun Y => PySem.HandSPX.refsVE_contains Y bm hbm) (I1.kIn _ _ hC) (PySem.W.looks_findIn I1.kIn iC) (fun self => PySem.W.bind_fn I1.kIn self tI) hus
    (codeAny_mono (F _ X.stack _ _ (Value.ref (hp.objs.size + 1) :: us) _ _ (fun _ _ _ => False) (hr.make C us []) (I2.env0.make C us []) r2 hq) fun r s' hq' => ?_))
  cases r with
  | error er => exact hx pins σ _ _ er s' I2 hq'
  | ok fl =>
    cases fl with
    | ret u =>
      obtain ⟨v, H2, os2, bare2, un2, hok2, rv, ev, d, fs, ea, ed, hd1, q2⟩ := hq'
      subst ev
      obtain ⟨h2, g2, d2, t2, os'⟩ := s'
      exact ⟨rv, mk_end (raises_own T.exC T.tyC) I1 hsz kk un2 hok2 os2 bare2 ea ed hd1 q2⟩
    | next => exact False.elim hq'
    | brk => exact False.elim hq'
    | cont => exact False.elim hq'
end
end G
set_option Elab.async false
set_option linter.all false
set_option maxRecDepth 100000
set_option maxHeartbeats 2000000
set_option exponentiation.threshold 2000
namespace G
open PySem PySem.Spec PyProof.Rows L2 StX
section
variable {X : Cx} {CX : CXT} {k n : Nat} {f g C : Addr} {sp : Sp} {E : L2.St → XK} {x m : Str} {o e e2 : Expr} {es : List Expr} {te to tb : TE} {t : TA} {p pos apos : Pos}
theorem run_fnRS {pins : List (Addr × Obj)} {σ : L2.St} {H : Hp} {s : Shared} {E : XK} {Q : VK} {us : List Value} {vs : List V} (F : FnR X.prog X.w X.K X.mg X.base CX k f sp) (hr : Room k X.A) (hx : PassesAt CX X σ E) (I : L2.Inv X pins σ H s) (r : Vals vs us) (q : sp vs H Q E) :
    wpAny (model X.prog X.w) X.A (call (.ref f) us) (EP X pins σ Q) X.xe s := by
  refine wpAny_call (codeAny_mono (F _ X.stack _ _ us _ _ E hr I.env0 r q) fun r s' h => ?_)
  cases r with
  | error e => exact hx pins H s e s' I h
  | ok fl =>
    cases fl with
    | ret u =>
      obtain ⟨v, H2, os2, bare2, un2, hok2, rv, qv⟩ := h
      exact ⟨v, H2, I.call' os2 un2 hok2 bare2 (fun b hb => (nomatch hb)), rv, qv⟩
    | next => exact False.elim h
    | brk => exact False.elim h
    | cont => exact False.elim h
def tCallZ (sp : Sp) (E : L2.St → XK) (t : TA) : TE := fun σ H Q => t σ H fun vs H1 => sp vs H1 Q (E σ)
def tMakeZ (C : Addr) (sp : Sp) (E : L2.St → XK) (t : TA) : TE := fun σ H Q => t σ H fun vs H1 => ∀ x dx, H1 x = none → H1 dx = none → dx ≠ x → sp (.ref x :: vs) (upd (upd H1 dx (.own x)) x (.ins C dx [])) (fun v H2 => v = .non ∧ Q (.ref x) H2) (E σ)
theorem run_makeZ {pins : List (Addr × Obj)} {σ : L2.St} {H : Hp} {s : Shared} {E : XK} {Q : VK} {us : List Value} {vs : List V} (M : Mk X.K C f) (F : FnR X.prog X.w X.K X.mg X.base CX k f sp) (hr : Room (k + 1) X.A) (hx : PassesAt CX X σ E) (I : L2.Inv X pins σ H s) (r : Vals vs us)
    (q : ∀ x dx, H x = none → H dx = none → dx ≠ x → sp (.ref x :: vs) (upd (upd H dx (.own x)) x (.ins C dx [])) (fun v H2 => v = .non ∧ Q (.ref x) H2) E) :
    wpAny (model X.prog X.w) X.A (call (.ref C) us) (EP X pins σ Q) X.xe s := by
  have I2 := I.made (C := C)
  have n1 : H s.heap.objs.size = none := I.hok.fresh (Nat.le_refl _)
  have n2 : H (s.heap.objs.size + 1) = none := I.hok.fresh (Nat.le_succ _)
  have hq := q _ _ n2 n1 (Nat.ne_of_lt (Nat.lt_succ_self _))
  refine wpAny_call (make_map I.kIn M.makes M.init (by simpa [PySem.W.isFn] using M.fn) (codeAny_mono (F _ X.stack _ _ (.ref (s.heap.objs.size + 1) :: us) _ _ E (hr.make C us []) (I2.env0.make C us []) (.cons (show L2.RelV (.ref _) (.ref _) from rfl) r) hq) fun r s' h => ?_))
  cases r with
  | error e => exact hx pins _ _ e s' I2 h
  | ok fl =>
    cases fl with
    | ret u =>
      obtain ⟨v, H3, os2, bare2, un2, hok2, rv, ev, q3⟩ := h
      subst ev
      exact ⟨rv, .ref _, H3, I2.call' os2 un2 hok2 bare2 (fun b hb => (nomatch hb)), rfl, q3⟩
    | next => exact False.elim h
    | brk => exact False.elim h
    | cont => exact False.elim h
/-- C(e, ..) -/
theorem pe_makeZ (M : Mk X.K C f) (F : FnR X.prog X.w X.K X.mg X.base CX k f sp) (hr : Room (k + 1) X.A) (hg : Gl X x) (hm : X.mg x = some (.ref C)) (hx : ∀ σ, PassesAt CX X σ (E σ))
    (ha : PA X (e :: es) t) (hdb : (x == ("__debug__" : Str)) = false := by decide) (he : starEach (e :: es) X.env = (false, eval e X.env) :: starEach es X.env := by rfl) (hpl : (backTo pos (starEach es X.env)).any (·.1) = false := by rfl) :
    PE X (.Call (.Name x p) (e :: es) [] pos) (tMakeZ C sp E t) := by
  refine ⟨fun pins s σ H Q I h => ?_⟩
  refine wpAny_Call_Name_kw (ld_glob I hg hm ?_ hdb)
  exact PySem.W.callWith_K (h₀ := X.base) I.ok.mod.kin M.kp (thn (ha.run pos pins s σ H _ I h) fun us s1 ⟨vs, H1, I1, r, q⟩ => ⟨I1.kIn, run_makeZ M F hr (hx σ) I1 r q⟩) he hpl
def tMethZ (C : Addr) (m : Str) (sp : Sp) (E : L2.St → XK) (ta : TE) (t : TA) : TE := fun σ H Q => ta σ H fun x H1 => ∃ a dx fs, x = .ref a ∧ H1 a = some (.ins C dx fs) ∧ fs.lookup m = none ∧ t σ H1 fun vs H2 => sp (x :: vs) H2 Q (E σ)
/-- values that are not NotImplemented -/
def Pl (v : V) : Prop := (∃ c, v = .ref c) ∨ (∃ b, v = .bl b) ∨ ∃ i, v = .int i
def tBinI (C : Addr) (sp : Sp) (E : L2.St → XK) (ta tb : TE) : TE := fun σ H Q => ta σ H fun x H1 => tb σ H1 fun y H2 => ∃ a dx fs i, x = .ref a ∧ H2 a = some (.ins C dx fs) ∧ y = .int i ∧ sp [x, y] H2 (fun v H' => Pl v ∧ Q v H') (E σ)
def tBinO (C : Addr) (sp : Sp) (E : L2.St → XK) (ta tb : TE) : TE := fun σ H Q => ta σ H fun x H1 => tb σ H1 fun y H2 => ∃ a dx fs b dy gs, x = .ref a ∧ H2 a = some (.ins C dx fs) ∧ y = .ref b ∧ H2 b = some (.ins C dy gs) ∧ sp [x, y] H2 (fun v H' => Pl v ∧ Q v H') (E σ)
def tUnO (C : Addr) (sp : Sp) (E : L2.St → XK) (ta : TE) : TE := fun σ H Q => ta σ H fun x H1 => ∃ a dx fs, x = .ref a ∧ H1 a = some (.ins C dx fs) ∧ sp [x] H1 Q (E σ)
/-- the body of a def that may raise -/
theorem fnRX_of {P : Program} {w : World} {K : PySem.W.Frag} {mg : Str → Option Value} {base : Heap} {st : Stmt} {N ps : List Str} {k : Nat} {sp : Sp} {f : Addr} {name qual : Str} (D : DefM K name qual st ps f) (S : FnScope N ps (defScope st)) (len : ∀ vs H Q E, sp vs H Q E → vs.length = ps.length)
    (hbody : ∀ (cdv : Value) (A : Around) (outer : List Env) (s : Shared) (H : Hp) (vs : List V) (Q : VK) (E : XK), Room k (A.deeper (envOfC qual (defScope st) s.heap.objs.size f cdv)) → sp vs H Q E →
      ∃ t, PSs (cxOf (L2.CX P w) P w K mg base N qual (defScope st) f cdv A outer s H E) (defBody st) t ∧ t { nx := fun _ H' => Q .non H', rt := Q } (L2.start N vs) H) : FnR P w K mg base (L2.CX P w) (k + 1) f sp := by
  obtain ⟨fd, F, b⟩ := D
  exact ((F.okX S len hbody).raw b .nil).imp fun vs H Q E h => by rw [List.append_nil]; exact h
end
/-- what is raised is wished for -/
def HX (W : Wd) (Γ : Gam) (E : L2.St → XK) (x : Xn → Prop) : Prop := ∀ σ H, GOk W H σ Γ → XOk W H (E σ) x
theorem hx0 {W : Wd} {Γ : Gam} {E : L2.St → XK} : HX W Γ E fun _ => False := fun σ H _ n d H2 _ _ q => q.elim
theorem hx_of {W : Wd} {Γ : Gam} {E : XK} {x : Xn → Prop} (h : ∀ H', W.ok H' → W.wish H' → XOk W H' E x) : HX W Γ (fun _ => E) x := fun σ H G => h H G.ok G.wish
class Pln (α : Type) [Rep α] : Prop where
  at_ : ∀ {W : Wc} {H : Hp} {v : V} {a : α}, den W H v a → Pl v
/-- such data is never NotImplemented -/
def PlnG (α : Type) [Rep α] (G : Prop) : Prop := Pln α ∧ G
theorem plnG_in {α : Type} [Rep α] [i : Pln α] {G : Prop} (h : G) : PlnG α G := ⟨i, h⟩
instance : Pln Int := ⟨fun h => .inr (.inr ⟨_, h⟩)⟩
instance : Pln Bool := ⟨fun h => .inr (.inl ⟨_, h⟩)⟩
instance : Pln Stc := ⟨fun ⟨a, dx, hv, _⟩ => .inl ⟨a, hv⟩⟩
section
variable {W : Wd} {Γ : Gam} {ta : TA} {te tb to : TE} {B : Bs} {P : PT} {E : L2.St → XK} {x : Xn → Prop} {C : Addr}
theorem ev_callZ {α : Type} {rα : Rep α} {k : α → Prop} (hB : W.B = B) (hx : HX W Γ E x) (h : EvA W ta Γ fun ts => P (fun t => ∃ a : α, t = T a ∧ k a) x ts) : EvK W (tCallZ (spG B P) E ta) Γ k := fun σ H Q G c =>
  h σ H _ G fun vs H1 ts e1 d z => ⟨W, ts, _, x, hB, e1.ok, d, z, fun v H2 t e2 dt ⟨a, ea, q⟩ => by
    subst ea
    exact c v H2 a (e1.trans e2) dt q, hx σ H1 (G.ext e1)⟩
/-- the class of such data is at C, m is none of its fields -/
def OwnM (β : Type) [Rep β] (B : Bs) (C : Addr) (m : Str) (G : Prop) : Prop := ∃ c fl, Ins β c fl ∧ B.cl c = C ∧ m ∉ fl ∧ G
theorem ownM_in {β : Type} [Rep β] {c : Cn} {fl : List Str} [i : Ins β c fl] {B : Bs} {C : Addr} {m : Str} {G : Prop} (hC : B.cl c = C) (hm : m ∉ fl) (h : G) : OwnM β B C m G := ⟨c, fl, i, hC, hm, h⟩
theorem look_none {m : Str} : ∀ {fs : List (Str × V)}, m ∉ fs.map (·.1) → fs.lookup m = none
  | [], _ => rfl
  | (y, v) :: r, h => by
    have h1 : ¬ m = y := fun e => h (by rw [e]; exact List.mem_cons_self)
    have h2 : m ∉ r.map (·.1) := fun e => h (List.mem_cons_of_mem _ e)
    have h3 : (m == y) = false := by
      cases q : (m == y) with
      | false => rfl
      | true => exact absurd (eq_of_beq q) h1
    rw [List.lookup_cons, h3]
    exact look_none h2
theorem ev_methZ {α β : Type} {rα : Rep α} {rβ : Rep β} {m : Str} {k : α → Prop} (hB : W.B = B) (hx : HX W Γ E x)
    (h : EvK W to Γ fun s : β => OwnM β B C m (EvA W ta Γ fun ts => P (fun t => ∃ a : α, t = T a ∧ k a) x (T s :: ts))) : EvK W (tMethZ C m (spG B P) E to ta) Γ k := by
  subst hB
  refine fun σ H Q G c => h σ H _ G fun v H1 s e1 d ⟨cc, fl, iβ, hC, hm, z⟩ => ?_
  subst hC
  obtain ⟨p, dp, fs, hv, _, hH, hfl⟩ := iβ.at_ d
  refine ⟨p, dp, fs, hv, hH, look_none (by rw [hfl]; exact hm), ?_⟩
  refine z σ H1 _ (G.ext e1) fun vs H2 ts e2 d2 z2 => ?_
  exact ⟨W, _, _, x, rfl, e2.ok, .cons (t := T s) (Rep.mono e2.keep d) d2, z2, fun v H3 t e3 dt ⟨a, ea, q⟩ => by
    subst ea
    exact c v H3 a ((e1.trans e2).trans e3) dt q, hx σ H2 ((G.ext e1).ext e2)⟩
theorem ev_binI {α β : Type} {rα : Rep α} {rβ : Rep β} {k : α → Prop} (hB : W.B = B) (hx : HX W Γ E x)
    (h : EvK W to Γ fun s : β => EvK W te Γ fun i : Int => OwnG β B C (P (fun t => ∃ a : α, t = T a ∧ PlnG α (k a)) x [T s, T i])) : EvK W (tBinI C (spG B P) E to te) Γ k := by
  subst hB
  refine fun σ H Q G c => h σ H _ G fun v H1 s e1 d h1 => h1 σ H1 _ (G.ext e1) fun u H2 i e2 d2 ⟨cc, fl, iβ, hC, z⟩ => ?_
  subst hC
  have d' := Rep.mono (W := W.toWc) (a := s) e2.keep d
  obtain ⟨p, dp, fs, hv, _, hH, _⟩ := iβ.at_ d'
  exact ⟨p, dp, fs, i, hv, hH, d2, W, _, _, x, rfl, e2.ok, .cons (t := T s) d' (.cons (t := T i) d2 .nil), z, fun v H3 t e3 dt ⟨a, ea, pα, q⟩ => by
    subst ea
    exact ⟨pα.at_ dt, c v H3 a ((e1.trans e2).trans e3) dt q⟩, hx σ H2 ((G.ext e1).ext e2)⟩
theorem ev_binO {α β : Type} {rα : Rep α} {rβ : Rep β} {k : α → Prop} (hB : W.B = B) (hx : HX W Γ E x)
    (h : EvK W to Γ fun s : β => EvK W te Γ fun s2 : β => OwnG β B C (P (fun t => ∃ a : α, t = T a ∧ PlnG α (k a)) x [T s, T s2])) : EvK W (tBinO C (spG B P) E to te) Γ k := by
  subst hB
  refine fun σ H Q G c => h σ H _ G fun v H1 s e1 d h1 => h1 σ H1 _ (G.ext e1) fun u H2 s2 e2 d2 ⟨cc, fl, iβ, hC, z⟩ => ?_
  subst hC
  have d' := Rep.mono (W := W.toWc) (a := s) e2.keep d
  obtain ⟨p, dp, fs, hv, _, hH, _⟩ := iβ.at_ d'
  obtain ⟨p2, dp2, fs2, hv2, _, hH2, _⟩ := iβ.at_ d2
  exact ⟨p, dp, fs, p2, dp2, fs2, hv, hH, hv2, hH2, W, _, _, x, rfl, e2.ok, .cons (t := T s) d' (.cons (t := T s2) d2 .nil), z, fun v H3 t e3 dt ⟨a, ea, pα, q⟩ => by
    subst ea
    exact ⟨pα.at_ dt, c v H3 a ((e1.trans e2).trans e3) dt q⟩, hx σ H2 ((G.ext e1).ext e2)⟩
theorem ev_negO {α β : Type} {rα : Rep α} {rβ : Rep β} {k : α → Prop} (hB : W.B = B) (hx : HX W Γ E x)
    (h : EvK W to Γ fun s : β => OwnG β B C (P (fun t => ∃ a : α, t = T a ∧ k a) x [T s])) : EvK W (tUnO C (spG B P) E to) Γ k := by
  subst hB
  refine fun σ H Q G c => h σ H _ G fun v H1 s e1 d ⟨cc, fl, iβ, hC, z⟩ => ?_
  subst hC
  obtain ⟨p, dp, fs, hv, _, hH, _⟩ := iβ.at_ d
  exact ⟨p, dp, fs, hv, hH, W, _, _, x, rfl, e1.ok, .cons (t := T s) d .nil, z, fun v H3 t e3 dt ⟨a, ea, q⟩ => by
    subst ea
    exact c v H3 a (e1.trans e3) dt q, hx σ H1 (G.ext e1)⟩
/-- Stretch(lo, hi), in order or not -/
theorem ev_stretchZ {ta tb : TE} {k : Stc → Prop} (hB : W.B = B) (hC : B.cl .Stretch = C) (hx : HX W Γ E x)
    (h : EvK W ta Γ fun lo : Int => EvK W tb Γ fun hi : Int => (lo ≤ hi → k ⟨lo, hi⟩) ∧ (hi < lo → Small lo ∧ Small hi ∧ x ⟨.BadStretch, [("high", .i hi), ("low", .i lo)]⟩)) : EvK W (tMakeZ C (spSIX B) E (tCons ta (tCons tb tNil))) Γ k := by
  subst hB
  subst hC
  refine fun σ H Q G c => h σ H _ G fun v H1 lo e1 d1 h1 => h1 σ H1 _ (G.ext e1) fun u H2 hi e2 d2 ⟨hle, hlt⟩ => ?_
  intro xx dx nx ndx nex
  have o := e2.ok
  have m1 := fresh_mu o ndx
  have m2 := fresh_mu o nx
  have e3 : ∀ o', Ext W H2 (upd (upd H2 dx (.own xx)) xx o') := fun o' => ⟨fun a u _ q => by rw [upd_ne (ne_of_none q nx), upd_ne (ne_of_none q ndx)]; exact q, W.st _ _ _ (W.st _ _ _ o m1) m2⟩
  refine ⟨xx, dx, lo, hi, by cases d1; cases d2; rfl, upd_same, fun hl => ⟨rfl, ?_⟩, fun hl => ?_⟩
  · have okx : W.ok (upd (upd (upd (upd H2 dx (.own xx)) xx (.ins (W.B.cl .Stretch) dx [])) xx (.ins (W.B.cl .Stretch) dx [("low", .int lo)])) xx (.ins (W.B.cl .Stretch) dx (stcF lo hi))) :=
      W.st _ _ _ (W.st _ _ _ (W.st _ _ _ (W.st _ _ _ o m1) m2) m2) m2
    refine c (.ref xx) _ ⟨lo, hi⟩ ((e1.trans e2).trans ⟨fun a u _ q => ?_, okx⟩) ⟨xx, dx, rfl, m2, upd_same⟩ (hle hl)
    have n1 : a ≠ xx := ne_of_none q nx
    have n2 : a ≠ dx := ne_of_none q ndx
    rw [upd_ne n1, upd_ne n1, upd_ne n1, upd_ne n2]
    exact q
  · obtain ⟨s1, s2, xq⟩ := hlt hl
    refine ⟨s1, s2, fun d hd => ?_⟩
    have e4 := (e3 (.ins (W.B.cl .Stretch) dx []))
    have md := fresh_mu e4.ok hd
    exact hx σ H2 ((G.ext e1).ext e2) _ _ _ (e4.trans (Ext.new (o := .xd [("high", .int hi), ("low", .int lo)]) e4.ok hd)) (.inr ⟨d, _, rfl, md, upd_same, .cons (t := .i hi) rfl (.cons (t := .i lo) rfl .nil)⟩) xq
theorem ev_max2 {k : Int → Prop} (h : EvK W te Γ fun i : Int => EvK W tb Γ fun j : Int => k (max i j)) : EvK W (tCB (fun xs H Q => ∃ i j, xs = [.int i, .int j] ∧ Q (.int (if j > i then j else i)) H) (tCons te (tCons tb tNil))) Γ k := fun σ H Q G c =>
  h σ H _ G fun v H1 i e1 d h1 => h1 σ H1 _ (G.ext e1) fun u H2 j e2 d2 z => ⟨i, j, by rw [d, d2], c _ H2 (max i j) (e1.trans e2) (by show V.int _ = V.int _; congr 1; split <;> omega) z⟩
theorem ev_min2 {k : Int → Prop} (h : EvK W te Γ fun i : Int => EvK W tb Γ fun j : Int => k (min i j)) : EvK W (tCB (fun xs H Q => ∃ i j, xs = [.int i, .int j] ∧ Q (.int (if j < i then j else i)) H) (tCons te (tCons tb tNil))) Γ k := fun σ H Q G c =>
  h σ H _ G fun v H1 i e1 d h1 => h1 σ H1 _ (G.ext e1) fun u H2 j e2 d2 z => ⟨i, j, by rw [d, d2], c _ H2 (min i j) (e1.trans e2) (by show V.int _ = V.int _; congr 1; split <;> omega) z⟩
theorem ev_abs {k : Int → Prop} (h : EvK W te Γ fun i : Int => k (i.natAbs : Int)) : EvK W (tCB (fun xs H Q => ∃ i, xs = [.int i] ∧ Q (.int (if i < 0 then -i else i)) H) (tCons te tNil)) Γ k := fun σ H Q G c =>
  h σ H _ G fun v H1 i e1 d z => ⟨i, by rw [d], c _ H1 (i.natAbs : Int) e1 (by show V.int _ = V.int _; congr 1; split <;> omega) z⟩
theorem ev_sortedI {K : PySem.W.Frag} {k : List Int → Prop} (hK : W.B.K = K) (h : EvK W te Γ fun as : List Int => ∀ bs : List Int, bs.Perm as → bs.Pairwise (· ≤ ·) → k bs) : EvK W (tCB (rSortedI K) (tCons te tNil)) Γ k := by
  subst hK
  refine fun σ H Q G c => h σ H _ G fun v H1 as e1 ⟨p, vs, hv, hp, hd⟩ z => ?_
  obtain rfl := hd.ints
  refine ⟨p, as, by rw [hv], hp.sq, fun bs q hpm hpw hq => ?_⟩
  have e2 := Ext.new (o := .lst (bs.map V.int)) e1.ok hq
  exact c _ _ bs (e1.trans e2) ⟨q, _, rfl, Lq.new (fresh_mu e1.ok hq) upd_same, Dl.of_ints bs⟩ (z bs hpm hpw)
structure IsT (K : PySem.W.Frag) (C : Addr) : Prop where
  c : Cls K C
  f : PySem.W.findIn K (.ref C) "__class__" = some (some (.builtin "object.__class__"))
  s : PySem.W.specialIn K (.builtin "object.__class__") "__get__" = some (some (.builtin "getset_descriptor.__get__"))
  t : PySem.W.takesIn K (.builtin "object.__class__") = some true
  m : PySem.W.mroIn K C (.type "object") = some true
theorem kit_self {K : PySem.W.Frag} {C : Addr} : PySem.W.kitOne K (.ref C) (.ref C) = some true := by
  show (if (Value.ref C == Value.ref C) = true then some true else _) = some true
  rw [if_pos (beq_self_eq_true _)]
theorem ev_isiO {β : Type} {rβ : Rep β} {K : PySem.W.Frag} {C2 : Addr} {k : Bool → Prop} (hK : W.B.K = K) (h : EvK W te Γ fun _ : β => ∃ c fl b, Ins β c fl ∧ IsT K (W.B.cl c) ∧ PySem.W.kitOne K (.ref (W.B.cl c)) (.ref C2) = some b ∧ k b) :
    EvK W (tCB (rIsi K) (tCons te (tCons (tC (.ref C2)) tNil))) Γ k := by
  subst hK
  refine fun σ H Q E q => h σ H _ E fun v H1 a e1 d ⟨c, fl, b, i, T, hb, z⟩ => ?_
  obtain ⟨p, dp, fs, hv, _, hH, _⟩ := i.at_ d
  subst hv
  exact ⟨.ref p, .ref C2, _, _, b, rfl, .own C2, .base (.ins hH T.c T.f T.s T.t T.m), hb, q _ H1 b e1 rfl z⟩
end
section
variable {W : Wd} {Γ : Gam} {ta : TA} {te tb to : TE} {x : Xn → Prop} {C : Addr} {R : Po}
/-- W with what is wished of errors in a try -/
def Wd.tr (W : Wd) (Γ : Gam) (Ew : L2.St → XK) (x : Xn → Prop) : Wd where
  toWc := W.toWc
  ok := W.ok
  live := W.live
  st := W.st
  wish := fun H => W.wish H ∧ ∀ (σ : L2.St) (n : Xn) (d : Option Addr) (H2 : Hp), Ext W H H2 → GOk W H2 σ Γ → xden W.toWc H2 d n.fs → x n → Ew σ (.ref (W.B.cl n.c)) d H2
  wst := fun H H' k o w => ⟨W.wst H H' k o w.1, fun σ n d H2 e => w.2 σ n d H2 ⟨fun a u m z => e.keep a u m (k a u m z), e.ok⟩⟩
  hasbox := W.hasbox
  boxset := W.boxset
  boxmu := W.boxmu
  oke := W.oke
theorem GOk.untr {W : Wd} {H : Hp} {σ : L2.St} {Γ Γ' : Gam} {Ew : L2.St → XK} {x : Xn → Prop} (G : GOk (W.tr Γ' Ew x) H σ Γ) : GOk W H σ Γ := ⟨G.ok, G.wish.1, G.at_, G.len⟩
theorem Ext.untr {W : Wd} {H H' : Hp} {Γ' : Gam} {Ew : L2.St → XK} {x : Xn → Prop} (e : Ext (W.tr Γ' Ew x) H H') : Ext W H H' := ⟨e.keep, e.ok⟩
def tTry (K : PySem.W.Frag) (c : Value) (i : Nat) (tb : WX → TS) (ts : Addr → Value → Option Addr → TS) (Wout : WX) : TS := fun D σ H => tb (wAs K c i ts Wout D) D σ H
theorem ps_tryZ {X : Cx} {y n : Str} {c : Value} {i : Nat} {body suite : List Stmt} {b₀ : Stmt} {np pos pos' : Pos} {tb : WX → TS} {ts : Addr → Value → Option Addr → TS} {Wout : WX} (K : PySem.W.Frag) (hs : X.stack = X.env :: X.outer) (hf : X.env.frame = some X.env.locals) (hN : X.N.Nodup) (hi : X.N[i]? = some n) (hln : X.env.kindOf n = some .local) (hc : Names X y c) (tk : Takes X Wout)
    (hb : ∀ (W : WX) (pn : List (Addr × Obj)) (xe : Value → Shared → Prop), Takes (X.tr pn xe) W → PassesOwn (model X.prog X.w) X.A X.env xe → PSs (X.tr pn xe) body (tb W))
    (hsu : ∀ (a : Addr) (oe : Obj) (cls : Value) (d : Option Addr) (pn : List (Addr × Obj)), Zc cls d oe → (∃ vs, oe.data = .fields vs) → PSs (X.suite a ((a, oe) :: pn)) (b₀ :: suite) (ts a cls d)) (hK : X.K = K := by rfl) :
    PS X (.Try body [.ExceptHandler (some (.Name y np)) (some n) (b₀ :: suite) pos'] [] [] pos) (tTry K c i tb ts Wout) := by subst hK; exact ps_try_as hs hf hN hi hln hc tk hb hsu
/-- try: .. except c as n (slot i): .. -/
theorem sx_try {K : PySem.W.Frag} {c : Value} {i : Nat} {tb : WX → TS} {ts : Addr → Value → Option Addr → TS} {Wout : WX} (x : Xn → Prop)
    (hb : ∀ (W' : Wd) (Wx : WX), W'.B = W.B → HX W' Γ (WE Wx) x → Sx W' (tb Wx) Γ R)
    (hs : ∀ a d n, x n → PySem.W.exmOne K (.ref (W.B.cl n.c)) c = some true ∧ Sx W (ts a (.ref (W.B.cl n.c)) d) (Γ.set i (some (T (Er.mk a d n)))) { nx := fun Γ' => R.nx (Γ'.set i none), rt := R.rt, bk := fun Γ' => R.bk (Γ'.set i none), ct := fun Γ' => R.ct (Γ'.set i none) }) :
    Sx W (tTry K c i tb ts Wout) Γ R := fun D σ H G O => by
  have key : ∀ σ n d H2, Ext W H H2 → GOk W H2 σ Γ → xden W.toWc H2 d n.fs → x n → WE (wAs K c i ts Wout D) σ (.ref (W.B.cl n.c)) d H2 := by
    intro σ n d H2 e G2 xd xn
    obtain ⟨h1, _⟩ := hs 0 d n xn
    refine ⟨true, h1, fun _ a ha => ?_, fun q => Bool.noConfusion q⟩
    refine (hs a d n xn).2 _ _ H2 (G2.set i (t := T (Er.mk a d n)) ⟨rfl, xd⟩) ⟨fun σ' H' Γ' e' G' q => ?_, fun v H' t e' dv q => ?_, fun σ' H' Γ' e' G' q => ?_, fun σ' H' Γ' e' G' q => ?_⟩
    · exact O.nx _ H' _ (e.trans e') (G'.unset i) q
    · exact O.rt v H' t (e.trans e') dv q
    · exact O.bk _ H' _ (e.trans e') (G'.unset i) q
    · exact O.ct _ H' _ (e.trans e') (G'.unset i) q
  refine hb (W.tr Γ (WE (wAs K c i ts Wout D)) x) _ rfl (fun σ' H' G' n d H2 e xd xn => ?_) D σ H ⟨G.ok, ⟨G.wish, key⟩, G.at_, G.len⟩ ⟨fun σ' H' Γ' e' G' q => O.nx σ' H' Γ' e'.untr G'.untr q, fun v H' t e' dv q => O.rt v H' t e'.untr dv q, fun σ' H' Γ' e' G' q => O.bk σ' H' Γ' e'.untr G'.untr q, fun σ' H' Γ' e' G' q => O.ct σ' H' Γ' e'.untr G'.untr q⟩
  exact G'.wish.2 σ' n d H2 e.untr (G'.untr.ext e.untr) xd xn
/-- e.f of an error in hand -/
theorem ev_xfI {a : Addr} {cls : Value} {d : Option Addr} {f : Str} {k : Int → Prop} (hC : cls = .ref C) (h : EvK W te Γ fun e : Er => (e.a = a ∧ e.d = d) ∧ ∃ z : Int, e.n.fs.lookup f = some (.i z) ∧ k z) : EvK W (tXf a cls d C f te) Γ k := by
  refine fun σ H Q E c => h σ H _ E fun v H1 e e1 ⟨hv, xd⟩ ⟨⟨ha, hd⟩, z, hf, q⟩ => ?_
  subst ha
  subst hd
  rcases xd with ⟨h0, _⟩ | ⟨dd, vs, h1, _, h3, h4⟩
  · rw [h0] at hf
    cases hf
  · obtain ⟨v, hv2, dv⟩ := h4.at hf
    exact ⟨hv, hC, dd, vs, v, h1, h3, hv2, c v H1 z e1 dv q⟩
theorem ev_xfP {a : Addr} {cls : Value} {d : Option Addr} {f : Str} {k : Int × Int → Prop} (hC : cls = .ref C) (h : EvK W te Γ fun e : Er => (e.a = a ∧ e.d = d) ∧ ∃ z w : Int, e.n.fs.lookup f = some (.p z w) ∧ k (z, w)) : EvK W (tXf a cls d C f te) Γ k := by
  refine fun σ H Q E c => h σ H _ E fun v H1 e e1 ⟨hv, xd⟩ ⟨⟨ha, hd⟩, z, w, hf, q⟩ => ?_
  subst ha
  subst hd
  rcases xd with ⟨h0, _⟩ | ⟨dd, vs, h1, _, h3, h4⟩
  · rw [h0] at hf
    cases hf
  · obtain ⟨v, hv2, dv⟩ := h4.at hf
    exact ⟨hv, hC, dd, vs, v, h1, h3, hv2, c v H1 (z, w) e1 dv q⟩
end
section
variable {W : Wd} {Γ : Gam} {te : TE} {t u : TS} {R : Po} {g : TG}
theorem sx_seqA (h : Sx W (tAsg te g) Γ { R with nx := fun Γ' => Sx W u Γ' R }) : Sx W (tSeq (tAsg te g) u) Γ R := sx_seq h
theorem sx_seqD (h : Sx W (tDrop te) Γ { R with nx := fun Γ' => Sx W u Γ' R }) : Sx W (tSeq (tDrop te) u) Γ R := sx_seq h
theorem Sx.imp {R' : Po} (h : Sx W t Γ R') (n : ∀ Γ', R'.nx Γ' → R.nx Γ') (r : ∀ v, R'.rt v → R.rt v) (b : ∀ Γ', R'.bk Γ' → R.bk Γ') (c : ∀ Γ', R'.ct Γ' → R.ct Γ') : Sx W t Γ R := fun D σ H G O =>
  h D σ H G ⟨fun a b' d e f q => O.nx a b' d e f (n _ q), fun a b' d e f q => O.rt a b' d e f (r _ q), fun a b' d e f q => O.bk a b' d e f (b _ q), fun a b' d e f q => O.ct a b' d e f (c _ q)⟩
theorem sx_seqI (I : Gam → Prop) (h : Sx W t Γ { R with nx := I }) (k : ∀ Γ', I Γ' → Sx W u Γ' R) : Sx W (tSeq t u) Γ R := sx_seq (h.imp k (fun _ q => q) (fun _ q => q) fun _ q => q)
end
theorem Small.of {i : Int} (h1 : -1000000000000000000000000000000 ≤ i) (h2 : i ≤ 1000000000000000000000000000000) : Small i := by
  refine small_of (Nat.lt_of_le_of_lt (m := 1000000000000000000000000000000) (by omega) (by decide))
theorem mko_out {H H2 : Hp} {a d : Addr} {o : HO} {gs : List (Str × V)} (ha : H a = none) (hd : upd H a o d = none) (hda : d ≠ a) (h3 : ∀ b, b ≠ a → b ≠ d → H2 b = upd H a o b) : H d = none ∧ upd (del H2 a) d (.xd gs) = upd H d (.xd gs) := by
  refine ⟨by rw [upd_ne hda] at hd; exact hd, ?_⟩
  funext b
  by_cases hb : b = d
  · subst hb
    rw [upd_same, upd_same]
  · rw [upd_ne hb, upd_ne hb]
    by_cases hba : b = a
    · subst hba
      rw [del_same, ha]
    · rw [del_ne hba, h3 b hba hb, upd_ne hba]
theorem isO_self {β : Type} [Rep β] {c : Cn} {fl : List Str} [i : Ins β c fl] {K : PySem.W.Frag} {B : Bs} {C2 : Addr} {k : Bool → Prop} (hT : IsT K (B.cl c)) (hC : B.cl c = C2) (h : k true) : ∃ (c : Cn) (fl : List Str) (b : Bool), Ins β c fl ∧ IsT K (B.cl c) ∧ PySem.W.kitOne K (.ref (B.cl c)) (.ref C2) = some b ∧ k b :=
  ⟨c, fl, true, i, hT, by rw [hC]; exact kit_self, h⟩
theorem isT_of {K : PySem.W.Frag} {W : Wd} {B : Bs} {c : Cn} (h : W.B = B) (t : IsT K (B.cl c)) : IsT K (W.B.cl c) := h ▸ t
theorem cl_of {W : Wd} {B : Bs} {c : Cn} {C : Addr} (h : W.B = B) (t : B.cl c = C) : W.B.cl c = C := h ▸ t
theorem xcl_of {W : Wd} {B : Bs} {c : Cn} {C : Addr} (h : W.B = B) (t : B.cl c = C) : Value.ref (W.B.cl c) = Value.ref C := by rw [h, t]
theorem exm_at {K : PySem.W.Frag} {W : Wd} {B : Bs} {c : Cn} {S C : Addr} (h : W.B = B) (hc : B.cl c = C) (t : PySem.W.exmOne K (.ref C) (.ref S) = some true) : PySem.W.exmOne K (.ref (W.B.cl c)) (.ref S) = some true := by rw [h, hc]; exact t
theorem txt_len {i : Int} (s : Small i) : (Str.ofString (toString i)).length ≤ 3000 := by
  have h := PySem.int_text_length_le (a := i) (k := 1920) (by decide) s
  rw [PySem.ofString_length]
  omega
section
variable {W : Wd} {Γ : Gam} {te tb to : TE}
/-- an f-string over plain data -/
def EvJ (W : Wd) (ts : List TE) (Γ : Gam) (acc : Str) (k : Str → Prop) : Prop := ∀ σ H (Q : Str → Hp → Prop), GOk W H σ Γ → (∀ out H', Ext W H H' → k out → Q out H') → tJs ts acc σ H Q
theorem ev_joined {ts : List TE} {k : Str → Prop} (h : EvJ W ts Γ Str.empty k) : EvK W (fun σ H Q => tJs ts Str.empty σ H fun out H1 => Q (.str out) H1) Γ k := fun σ H Q G c => h σ H _ G fun out H1 e q => c _ H1 out e rfl q
theorem ej_nil {acc : Str} {k : Str → Prop} (q : k acc) : EvJ W [] Γ acc k := fun σ H Q G c => c acc H (Ext.refl G.ok) q
theorem ej_cons {t : TE} {ts : List TE} {acc : Str} {k : Str → Prop} (h : EvK W t Γ fun y : Str => (acc ++ y).length ≤ 1000000 ∧ EvJ W ts Γ (acc ++ y) k) : EvJ W (t :: ts) Γ acc k := fun σ H Q G c =>
  h σ H _ G fun v H1 y e d ⟨hl, z⟩ => ⟨y, d, Nat.le_trans hl (by decide), z σ H1 _ (G.ext e) fun out H2 e2 q => c out H2 (e.trans e2) q⟩
theorem ev_fmtI {k : Str → Prop} (h : EvK W te Γ fun i : Int => Small i ∧ k (toString i)) : EvK W (tFmt te) Γ k := fun σ H Q G c =>
  h σ H _ G fun v H1 i e d ⟨s, q⟩ => .inr ⟨i, d, s, c _ H1 _ e rfl q⟩
end
theorem err_one {K : PySem.W.Frag} {C a : Addr} {f1 : Str} {x : V} {D : Ends} {σ : L2.St} {H : Hp} {first : TE} (T : OexC K C) (n1 : PySem.W.findIn K (.ref C) f1 = some none) (h0 : σ[0]? = some (some (.ref a))) (h1 : σ[1]? = some (some x))
    (hF : ∀ Q : VK, Q .non H → first σ H Q) (ha : H a = some (exo a C none)) (k : ∀ d H2, H d = none → d ≠ a → H2 a = some (exo a C (some d)) → H2 d = some (exd d [(f1, x)]) → (∀ b, b ≠ a → b ≠ d → H2 b = H b) → D.nx σ H2) :
    tSeq (tDrop first) (tOst K f1 (tVar 0) (tVar 1)) D σ H := by
  refine hF _ ⟨x, h1, .ref a, h0, a, C, rfl, T, n1, .inl ⟨ha, fun d hd hda => ?_⟩⟩
  exact k d _ hd hda upd_same (by rw [upd_ne hda]; exact upd_same) fun b hb hb2 => by rw [upd_ne hb, upd_ne hb2]
/-- GaugeError.__init__(self, text) -/
theorem first_ge {K : PySem.W.Frag} {C a : Addr} {σ : L2.St} {H : Hp} {J : TE} (T : OexC K C) (h0 : σ[0]? = some (some (.ref a))) (ha : H a = some (exo a C none)) (hJ : ∀ Q : VK, (∀ y, Q (.str y) H) → J σ H Q) : ∀ Q : VK, Q .non H → tVeI K (tCons (tVar 0) (tCons J tNil)) σ H Q := fun Q q =>
  ⟨_, h0, hJ _ fun y => ⟨a, C, _, rfl, by show 1 ≤ 1000; decide, T, ha, q⟩⟩
theorem var_is {σ : L2.St} {H : Hp} {i : Nat} {v : V} (h : σ[i]? = some (some v)) : ∀ Q : VK, Q v H → tVar i σ H Q := fun Q q => ⟨v, h, q⟩
/-- an error of the class at E is what «except S» names -/
theorem exm_of {K : PySem.W.Frag} {E S : Addr} (h1 : PySem.W.subIn K (.ref S) (.type "BaseException") = some true) (h2 : PySem.W.isClsIn K S = true) (h3 : PySem.W.typeIn K (.ref S) = some (.type "type")) (h4 : PySem.W.subIn K (.ref E) (.ref S) = some true) :
    PySem.W.exmOne K (.ref E) (.ref S) = some true := by
  have e1 : (PySem.W.subIn K (.ref S) (.type "BaseException") == some true) = true := by rw [h1] <;> rfl
  have e2 : ((PySem.W.clsIn K S).isSome && PySem.W.typeIn K (.ref S) == some (.type "type")) = true := by
    have h2' : (PySem.W.clsIn K S).isSome = true := h2
    rw [h2', h3] <;> rfl
  show (if (PySem.W.subIn K (.ref S) (.type "BaseException") == some true) = true then (if ((PySem.W.clsIn K S).isSome && PySem.W.typeIn K (.ref S) == some (.type "type")) = true then PySem.W.subIn K (.ref E) (.ref S) else none) else none) = some true
  rw [if_pos e1, if_pos e2]
  exact h4
end G
set_option maxRecDepth 100000
set_option maxHeartbeats 400000
set_option Elab.async false
set_option linter.all false
namespace G
open PySem PySem.Spec PyProof.Rows L2
theorem class_find {K : PySem.W.Frag} {D : Addr} {od : Option Obj} {name : Str} {a g : Value} (hd : PySem.W.hasDictIn K D = true) (ha : PySem.W.findIn K (.ref D) name = some (some a)) (hn : PySem.W.specialIn K a "__get__" = some (some g)) (ht : PySem.W.takesIn K a = some true) :
    PySem.W.findObj K D od name = some (.bind g a) := by
  unfold PySem.W.hasDictIn at hd
  cases hc : PySem.W.clsIn K D with
  | none => rw [hc] at hd; cases hd
  | some cd =>
    unfold PySem.W.findObj
    rw [hc, Option.bind_some, ha, Option.bind_some]
    show (PySem.W.specialIn K a "__get__").bind _ = _
    rw [hn, Option.bind_some]
    show (PySem.W.takesIn K a).bind _ = _
    rw [ht, Option.bind_some]
theorem chk1 : builtinKind "BaseException.__getattribute__" = some Manifest.AttrKind.slot := PySem.W.kin_classE._proof_2
theorem chk2 : splitId "BaseException.__getattribute__" = some ("BaseException", "__getattribute__") := PySem.W.kin_classE._proof_3
theorem chk3 (x : Addr) (v : Value) : argsOk "BaseException.__getattribute__" { pos := Value.ref x :: [v], kw := [] } := F.args_bexc_ga _ _
theorem chk_aux {M : Model} {A : Around} {E : Value → Shared → Prop} {s : Shared} {x : Addr} {v : Value} {Q : Unit → Shared → Prop} (hi : PySem.W.Looks M s.heap (isInstance (.ref x) (.type "BaseException")) true) (q : Q () s) :
    wpAny M A (checkBuiltinCall "BaseException.__getattribute__" { pos := [.ref x, v] }) Q E s := by
  have := @PySem.W.check_slot M A E s "BaseException.__getattribute__" "BaseException" "__getattribute__" (.ref x) [v] [] Q chk1 chk2 hi (chk3 x v) q
  exact this
theorem exc_class {prog : Program} {w : World} {A : Around} {E : Value → Shared → Prop} {s : Shared} {K : PySem.W.Frag} {x D : Addr} {ox : Obj} {od : Option Obj} {Q : Option Value → Shared → Prop}
    (T : ExcC K D) (X : K.In s.heap) (J : PySem.W.InstAt s.heap x ox D od) (q : Q (some (.ref D)) { heap := s.heap, gens := s.gens, drawn := s.drawn, toks := s.toks + 1, os := s.os }) :
    wpAny (model prog w) A (getAttr? (.ref x) "__class__") Q E s := by
  obtain ⟨h, g, d, t, os⟩ := s
  have hf := class_find (od := od) T.hd T.ha T.hn T.ht
  have e1 : (onTheHeap (Value.ref D) && (Value.builtin "BaseException.__getattribute__" == Value.builtin "object.__getattribute__")) = false := by
    rw [show (Value.builtin "BaseException.__getattribute__" == Value.builtin "object.__getattribute__") = false by decide +kernel, Bool.and_false]
  unfold getAttr?
  refine wpAny_bind (wpAny_mkText ?_)
  unfold getAttrBy?
  refine wpAny_bind (wpAny_attempt ?_)
  unfold getAttrBy
  refine wpAny_holding (wpAny_bind (PySem.W.Looks.at J.type (wpAny_bind (PySem.W.Looks.at (PySem.W.looks_findIn X T.hg) ?_))))
  show wpAny _ _ (if (onTheHeap (Value.ref D) && (Value.builtin "BaseException.__getattribute__" == Value.builtin "object.__getattribute__")) = true then getAttrEveryday _ _ _ else getAttrByItsOwn _ _ _ _ _ _) _ _ _
  rw [e1, if_neg Bool.false_ne_true]
  unfold getAttrByItsOwn
  refine wpAny_bind (PySem.W.Looks.at (t := hookBefore (.ref D)) (show PySem.W.Looks _ _ (typeLookup (.ref D) "__getattr__") none from PySem.W.looks_findIn X T.hk) ?_)
  refine wpAny_bind (wpAny_attempt (wpAny_holding ?_))
  show wpAny _ _ (boundAndCalled _ _ _) _ _ _
  unfold boundAndCalled
  refine wpAny_bind (wpAny_of_eq ((ExcAttrFacts.ga F.excAttr_ValueError).bind _) ?_)
  show wpAny _ _ (call (.builtin "BaseException.__getattribute__") [.ref x, .str "__class__" t]) _ _ _
  refine wpAny_call ?_
  have hi : PySem.W.Looks (model prog w) h (isInstance (.ref x) (.type "BaseException")) true := PySem.W.Looks.andThen J.type (PySem.W.looks_subIn X T.hs)
  refine codeAny_call_builtin (b := Builtin.«object.__getattribute__») (Slot.plain (ExcAttrFacts.ga F.excAttr_ValueError)) F.entry_bexc_ga ?_
  refine chk_aux hi ?_
  unfold Builtin.«object.__getattribute__»
  refine wpAny_bind (wpAny_of_eq (a := (Value.ref x, [Value.str "__class__" t])) rfl ?_)
  refine wpAny_bind (wpAny_of_eq (a := ("__class__" : Str)) rfl ?_)
  refine wpAny_bind (PySem.W.Looks.at J.type (wpAny_bind (PySem.W.Looks.at (PySem.W.looks_find X J hf) ?_)))
  show wpAny _ _ (do let v ← holding [Value.builtin "object.__class__"] (call (.builtin "getset_descriptor.__get__") [.builtin "object.__class__", .ref x, .ref D]); ret v) _ _ _
  refine wpAny_bind (wpAny_holding (wpAny_call (PySem.W.class_get X J T.hm ?_)))
  show wpAny _ _ (ret (Value.ref D)) _ _ _
  refine wpAny_of_eq (a := Fin.done (.ret (.ref D))) rfl ?_
  show wpAny _ _ (handedOut (.ref D)) _ _ _
  refine wpAny_of_eq (a := Value.ref D) rfl ?_
  refine wpAny_of_eq (a := some (Value.ref D)) rfl ?_
  exact q
theorem kitx_excF (s0 : Shared) {K : PySem.W.Frag} {x D : Addr} {ox : Obj} {od : Option Obj} (T : ExcC K D) : PySem.W.KitX K (.ref x) (.ref D) fun h => PySem.W.InstAt h x ox D od :=
  ⟨fun M h X J => J.type, fun M h X J => PySem.W.mc_isType (s := { s0 with heap := h }) X T.hd, (PySem.W.handS_kitx_exc (x := x) (ox := ox) T.hg T.hk T.hs T.hd T.ha T.hn T.ht T.hm).ne, fun X J q => exc_class T X J q⟩
/-- isinstance(e, c) of the error in hand, with or without a dict -/
def rIsF (K : PySem.W.Frag) (cls : Value) (d : Option Addr) (a : Addr) : List V → Hp → VK → Prop := fun xs H Q => ∃ D c cv b, cls = .ref D ∧ ExcC K D ∧ (d = none ∨ ∃ dd fs, d = some dd ∧ H dd = some (.xd fs)) ∧ xs = [.ref a, c] ∧ (∀ u, L2.RelV c u → u = cv) ∧ PySem.W.kitOne K (.ref D) cv = some b ∧ Q (.bl b) H
theorem call_isF {X : Cx} {a : Addr} {oe : Obj} {cls : Value} {d : Option Addr} {pn : List (Addr × Obj)} (K : PySem.W.Frag) (hz : Zc cls d oe) (hf : ∃ vs, oe.data = .fields vs) (hK : X.K = K := by rfl) :
    CallR (X.suite a ((a, oe) :: pn)) (.builtin "isinstance") (rIsF K cls d a) := by
  subst hK
  intro pins s σ H xs us Q I r h
  obtain ⟨D, c, cv, b, hcls, T, hd, rfl, hc, hk, q⟩ := h
  subst hcls
  cases r with
  | @cons _ u0 _ ur ra rr =>
  cases rr with
  | @cons _ u1 _ ur2 rb rn =>
  cases rn
  obtain rfl : u0 = Value.ref a := ra
  obtain rfl : u1 = cv := hc _ rb
  obtain ⟨hg, _⟩ := I.pin (a, oe) (List.mem_append_left _ List.mem_cons_self)
  obtain ⟨vs, hvs⟩ := hf
  have J : ∃ od, PySem.W.InstAt s.heap a oe D od := by
    rcases hd with hd | ⟨dd, fs, hd, hH⟩
    · refine ⟨none, hg, hz.1, by unfold PySem.W.notCls; rw [hvs], ?_⟩
      rw [hz.2, hd]
      trivial
    · obtain ⟨mA, hN, _⟩ := I.hok dd _ hH
      obtain ⟨o, es, ep, ho, _⟩ := hN
      refine ⟨some o, hg, hz.1, by unfold PySem.W.notCls; rw [hvs], ?_⟩
      rw [hz.2, hd]
      exact ho
  obtain ⟨od, J⟩ := J
  refine PySem.W.kia_one (kitx_excF s (ox := oe) (od := od) T) I.kIn J hk (by intro e; cases e) fun tk => ⟨.bl b, H, I.tok tk, rfl, q⟩
section
variable {W : Wd} {Γ : Gam} {te : TE}
theorem ev_isF {K : PySem.W.Frag} {B : Bs} {cls : Value} {d : Option Addr} {a : Addr} {v : V} {k : Bool → Prop} (hB : W.B = B) (hK : B.K = K)
    (h : EvK W te Γ fun e : Er => (e.a = a ∧ e.d = d) ∧ ∃ D cv b, cls = .ref D ∧ ExcC K D ∧ (∀ u, L2.RelV v u → u = cv) ∧ PySem.W.kitOne K (.ref D) cv = some b ∧ k b) : EvK W (tCB (rIsF K cls d a) (tCons te (tCons (tC v) tNil))) Γ k := by
  refine fun σ H Q E q => h σ H _ E fun u H1 e e1 ⟨hv, xd⟩ ⟨⟨ha, hd⟩, D, cv, b, hcls, T, hc, hk, z⟩ => ?_
  subst ha
  subst hd
  refine ⟨D, v, cv, b, hcls, T, ?_, by rw [hv], hc, hk, q _ H1 b e1 rfl z⟩
  rcases xd with ⟨_, h0⟩ | ⟨dd, vs, h1, _, h3, _⟩
  · exact .inl h0
  · exact .inr ⟨dd, vs, h1, h3⟩
theorem rel_ref {C : Addr} : ∀ u, L2.RelV (.ref C) u → u = Value.ref C := fun _ h => h
/-- isinstance of an own error and an own class -/
theorem kit_own {K : PySem.W.Frag} {E C : Addr} {b : Bool} (h2 : PySem.W.isClsIn K C = true) (h3 : PySem.W.typeIn K (.ref C) = some (.type "type")) (h4 : PySem.W.subIn K (.ref E) (.ref C) = some b) (hne : (Value.ref E == Value.ref C) = false ∨ b = true) :
    PySem.W.kitOne K (.ref E) (.ref C) = some b := by
  have e2 : ((PySem.W.clsIn K C).isSome && PySem.W.typeIn K (.ref C) == some (.type "type")) = true := by
    have h2' : (PySem.W.clsIn K C).isSome = true := h2
    rw [h2', h3] <;> rfl
  show (if (Value.ref E == Value.ref C) = true then some true else (if ((PySem.W.clsIn K C).isSome && PySem.W.typeIn K (.ref C) == some (.type "type")) = true then PySem.W.subIn K (.ref E) (.ref C) else none)) = some b
  by_cases hq : (Value.ref E == Value.ref C) = true
  · rw [if_pos hq]
    rcases hne with h | h
    · rw [h] at hq; cases hq
    · rw [h]
  · rw [if_neg hq, if_pos e2]
    exact h4
end
/-- the class of a value -/
inductive TyV (K : PySem.W.Frag) (H : Hp) : V → Value → Prop
  | non : TyV K H .non (.type "NoneType")
  | ins {a C dx : Addr} {fs : List (Str × V)} : H a = some (.ins C dx fs) → TyV K H (.ref a) (.ref C)
  | tup {a : Addr} {xs : List V} : SqT K H a xs → TyV K H (.ref a) (.type "tuple")
  | lst {a : Addr} {xs : List V} : SqL K H a xs → TyV K H (.ref a) (.type "list")
section
variable {X : Cx} {CX : CXT} {n : Nat} {f C : Addr} {sp : Sp} {E : XK}
def rEqO (K : PySem.W.Frag) (C : Addr) (sp : Sp) (E : XK) : R2 := fun x y H Q => ∃ a dx fs tb, x = .ref a ∧ H a = some (.ins C dx fs) ∧ TyV K H y tb ∧ PySem.W.notFirst K C tb = true ∧ sp [x, y] H (fun v H' => ∃ b, v = .bl b ∧ Q (.bl b) H') E
def rNeO (K : PySem.W.Frag) (C : Addr) (sp : Sp) (E : XK) : R2 := fun x y H Q => ∃ a dx fs tb, x = .ref a ∧ H a = some (.ins C dx fs) ∧ TyV K H y tb ∧ PySem.W.notFirst K C tb = true ∧ sp [x, y] H (fun v H' => ∃ b, v = .bl b ∧ Q (.bl (!b)) H') E
end
class HasTy (α : Type) [Rep α] (ty : outParam (Bs → Value)) : Prop where
  at_ : ∀ {W : Wc} {H : Hp} {v : V} {a : α}, den W H v a → TyV W.B.K H v (ty W.B)
instance : HasTy Stc fun B => .ref (B.cl .Stretch) := ⟨fun ⟨a, dx, hv, m, h⟩ => by subst hv; exact .ins h⟩
instance : HasTy Unit fun _ => .type "NoneType" := ⟨fun h => by cases h; exact .non⟩
instance {α β : Type} [Rep α] [Rep β] : HasTy (α × β) fun _ => .type "tuple" := ⟨fun ⟨p, x, y, hv, s, _⟩ => by subst hv; exact .tup s.sq⟩
instance {α : Type} [Rep α] : HasTy (List α) fun _ => .type "list" := ⟨fun ⟨p, vs, hv, s, _⟩ => by subst hv; exact .lst s.sq⟩
/-- the right one is of a class that does not come first -/
def TyG (α : Type) [Rep α] (B : Bs) (C : Addr) (G : Prop) : Prop := ∃ ty, HasTy α ty ∧ PySem.W.notFirst B.K C (ty B) = true ∧ G
theorem tyG_in {α : Type} [Rep α] {ty : Bs → Value} [i : HasTy α ty] {B : Bs} {C : Addr} {G : Prop} (hn : PySem.W.notFirst B.K C (ty B) = true) (h : G) : TyG α B C G := ⟨ty, i, hn, h⟩
theorem nf_self {K : PySem.W.Frag} {C : Addr} : PySem.W.notFirst K C (.ref C) = true := by
  unfold PySem.W.notFirst
  rw [beq_self_eq_true, Bool.true_or]
section
variable {W : Wd} {Γ : Gam} {te tb : TE} {B : Bs} {P : PT} {C : Addr} {K : PySem.W.Frag} {E : XK}
theorem ev_eqO {α β : Type} {rα : Rep α} {rβ : Rep β} {k : Bool → Prop} (hB : W.B = B) (hK : B.K = K)
    (h : EvK W te Γ fun s : β => EvK W tb Γ fun y : α => OwnG β B C (TyG α B C (P (fun t => ∃ b : Bool, t = T b ∧ k b) (fun _ => False) [T s, T y]))) : EvK W (tOp (rEqO K C (spG B P) E) te tb) Γ k := by
  subst hB
  subst hK
  refine ev_two (h.imp fun s hs => hs.imp fun y ⟨c, fl, iβ, hC, ty, iα, hn, hp⟩ x z H Q o dx dz q => ?_)
  subst hC
  obtain ⟨p, dp, fs, hv, _, hH, _⟩ := iβ.at_ dx
  exact ⟨p, dp, fs, _, hv, hH, iα.at_ dz, hn, W, _, _, _, rfl, o, .cons (t := T s) dx (.cons (t := T y) dz .nil), hp, fun v H2 t e2 dt ⟨b, eb, kb⟩ => by
    subst eb
    exact ⟨b, dt, q _ H2 b e2 rfl kb⟩, fun n d2 H2 _ _ z => z.elim⟩
theorem ev_neO {α β : Type} {rα : Rep α} {rβ : Rep β} {k : Bool → Prop} (hB : W.B = B) (hK : B.K = K)
    (h : EvK W te Γ fun s : β => EvK W tb Γ fun y : α => OwnG β B C (TyG α B C (P (fun t => ∃ b : Bool, t = T b ∧ k (!b)) (fun _ => False) [T s, T y]))) : EvK W (tOp (rNeO K C (spG B P) E) te tb) Γ k := by
  subst hB
  subst hK
  refine ev_two (h.imp fun s hs => hs.imp fun y ⟨c, fl, iβ, hC, ty, iα, hn, hp⟩ x z H Q o dx dz q => ?_)
  subst hC
  obtain ⟨p, dp, fs, hv, _, hH, _⟩ := iβ.at_ dx
  exact ⟨p, dp, fs, _, hv, hH, iα.at_ dz, hn, W, _, _, _, rfl, o, .cons (t := T s) dx (.cons (t := T y) dz .nil), hp, fun v H2 t e2 dt ⟨b, eb, kb⟩ => by
    subst eb
    exact ⟨b, dt, q _ H2 (!b) e2 rfl kb⟩, fun n d2 H2 _ _ z => z.elim⟩
end
end G
set_option Elab.async false
set_option linter.all false
set_option maxRecDepth 100000
set_option maxHeartbeats 2000000
namespace G
open PySem PySem.Spec PyProof.Rows L2 StX
section
variable {X : Cx} {CX : CXT} {k n : Nat} {f g C : Addr} {sp : Sp} {E : L2.St → XK} {x m : Str} {o e : Expr} {es : List Expr} {te : TE} {t : TA} {p p2 pos apos : Pos}
/-- what the text says of C.__init__, a def at f, read from the class -/
structure CliT (K : PySem.W.Frag) (C f : Addr) : Prop where
  ga : PySem.W.specialIn K (.ref C) "__getattribute__" = some (some (.builtin "type.__getattribute__"))
  rd : PySem.W.readsIn K C (.type "type") = true
  at_ : PySem.W.findCls K (.ref C) (.type "type") "__init__" = some (.val (.ref f))
  kp : PySem.W.keepIn K (.ref f) = true
/-- C.__init__(self, ..) of an own class -/
theorem pe_cinit {pl : Sem Bool} (T : CliT X.K C f) (F : FnR X.prog X.w X.K X.mg X.base CX k f sp) (hr : Room k X.A) (hx : ∀ σ, PassesAt CX X σ (E σ)) (hm : X.mg x = some (.ref C)) (ha : PA X (e :: es) t) (hg : Gl X x := by rfl) (hdb : (x == ("__debug__" : Str)) = false := by decide)
    (hc : eval (.Call (.Attribute (.Name x p) "__init__" p2) (e :: es) [] pos) X.env = (do
      let ov ← eval (.Name x p) X.env
      standAt p2.atName
      let (f, first) ← holding [ov] (getMethod ov "__init__" pl)
      callWith pos f first (backTo pos (starEach (e :: es) X.env)) (backToKw pos (keywordEach [] X.env))) := by rfl)
    (he : starEach (e :: es) X.env = (false, eval e X.env) :: starEach es X.env := by rfl) (hpl : (backTo pos (starEach es X.env)).any (·.1) = false := by rfl) :
    PE X (.Call (.Attribute (.Name x p) "__init__" p2) (e :: es) [] pos) (tCallZ sp E t) := by
  refine ⟨fun pins s σ H Q I h => ?_⟩
  refine PySem.W.methodCall_KW (ld_glob I hg hm ?_ hdb) hc
  refine PySem.W.method_cls I.kIn T.ga (PySem.W.cls_value I.kIn T.rd T.at_ (by rfl) ?_)
  show wpAny _ _ (callWith pos (Value.ref f) [] (backTo pos (starEach (e :: es) X.env)) []) _ _ _
  exact PySem.W.callWith_K (h₀ := X.base) I.ok.mod.kin T.kp (thn (ha.run pos pins _ σ H _ (I.tok _) h) fun us s1 ⟨vs, H1, I1, r1, q⟩ => ⟨I1.kIn, run_fnRS F hr (hx σ) I1 r1 q⟩) he hpl
end
theorem isF_in {W : Wd} {B : Bs} {K : PySem.W.Frag} {c : Cn} {D : Addr} {e : Er} {v : V} {cv : Value} {b : Bool} {k : Bool → Prop} (hB : W.B = B) (hc : B.cl c = D) (T : ExcC K D) (hr : ∀ u, L2.RelV v u → u = cv) (hk : PySem.W.kitOne K (.ref D) cv = some b) (h : k b) :
    (e.a = e.a ∧ e.d = e.d) ∧ ∃ (D : Addr) (cv : Value) (b : Bool), Value.ref (W.B.cl c) = .ref D ∧ ExcC K D ∧ (∀ u, L2.RelV v u → u = cv) ∧ PySem.W.kitOne K (.ref D) cv = some b ∧ k b :=
  ⟨⟨rfl, rfl⟩, D, cv, b, xcl_of hB hc, T, hr, hk, h⟩
/-- a list of four of several kinds -/
structure L4 (α β γ δ : Type) where
  a : α
  b : β
  c : γ
  d : δ
  deriving DecidableEq
instance {α β γ δ : Type} [Rep α] [Rep β] [Rep γ] [Rep δ] : Rep (L4 α β γ δ) :=
  ⟨fun W H v t => ∃ p x y z u, v = .ref p ∧ Lq W H p [x, y, z, u] ∧ den W H x t.a ∧ den W H y t.b ∧ den W H z t.c ∧ den W H u t.d,
   fun e ⟨p, x, y, z, u, hv, s, h1, h2, h3, h4⟩ => ⟨p, x, y, z, u, hv, s.mono e, Rep.mono e h1, Rep.mono e h2, Rep.mono e h3, Rep.mono e h4⟩,
   fun D n ⟨p, x, y, z, u, hv, s, h1, h2, h3, h4⟩ => ⟨p, x, y, z, u, hv, s.grow D n, Rep.grow D n h1, Rep.grow D n h2, Rep.grow D n h3, Rep.grow D n h4⟩,
   fun D ⟨p, x, y, z, u, hv, s, h1, h2, h3, h4⟩ => ⟨p, x, y, z, u, hv, s.shrink D, Rep.shrink D h1, Rep.shrink D h2, Rep.shrink D h3, Rep.shrink D h4⟩⟩
theorem eqv4 (a b c d e f g h : PyData) : PyData.eqv (.list [a, b, c, d]) (.list [e, f, g, h]) = (PyData.eqv a e && (PyData.eqv b f && (PyData.eqv c g && PyData.eqv d h))) := by
  show (PyData.eqv a e && (PyData.eqv b f && (PyData.eqv c g && (PyData.eqv d h && true)))) = _
  rw [Bool.and_true]
instance {α β γ δ : Type} [Rep α] [Rep β] [Rep γ] [Rep δ] [Dat α] [Dat β] [Dat γ] [Dat δ] : Dat (L4 α β γ δ) where
  toD := fun x => .list [Dat.toD x.a, Dat.toD x.b, Dat.toD x.c, Dat.toD x.d]
  dp := fun ⟨p, x, y, z, u, hv, s, h1, h2, h3, h4⟩ => by
    subst hv
    exact .lst s.sq (.cons (Dat.dp h1) (.cons (Dat.dp h2) (.cons (Dat.dp h3) (.cons (Dat.dp h4) .nil))))
  dep := max (Dat.dep α) (max (Dat.dep β) (max (Dat.dep γ) (Dat.dep δ))) + 1
  ddep := fun x => by
    have h1 := Dat.ddep x.a
    have h2 := Dat.ddep x.b
    have h3 := Dat.ddep x.c
    have h4 := Dat.ddep x.d
    show max (Dat.toD x.a).depth (max (Dat.toD x.b).depth (max (Dat.toD x.c).depth (max (Dat.toD x.d).depth 0))) + 1 ≤ _
    omega
  inj := fun x y => by
    rw [eqv4, Bool.and_eq_true, Bool.and_eq_true, Bool.and_eq_true, Dat.inj, Dat.inj, Dat.inj, Dat.inj]
    cases x; cases y
    exact ⟨fun h => by obtain ⟨h1, h2, h3, h4⟩ := h; cases h1; cases h2; cases h3; cases h4; rfl, fun h => by cases h; exact ⟨rfl, rfl, rfl, rfl⟩⟩
  good := fun x => Dat.good x.a ∧ Dat.good x.b ∧ Dat.good x.c ∧ Dat.good x.d
  gshp := fun x h => by
    have h1 := Dat.gshp _ h.1
    have h2 := Dat.gshp _ h.2.1
    have h3 := Dat.gshp _ h.2.2.1
    have h4 := Dat.gshp _ h.2.2.2
    show ((Dat.toD x.a).canLay0 && ((Dat.toD x.b).canLay0 && ((Dat.toD x.c).canLay0 && ((Dat.toD x.d).canLay0 && true)))) = true
    rw [h1, h2, h3, h4]
    rfl
section
variable {W : Wd} {Γ : Gam} {ta tb tc td : TE}
theorem ev_lst4 {α β γ δ : Type} {rα : Rep α} {rβ : Rep β} {rγ : Rep γ} {rδ : Rep δ} {k : L4 α β γ δ → Prop} (h : EvK W ta Γ fun a : α => EvK W tb Γ fun b : β => EvK W tc Γ fun c : γ => EvK W td Γ fun d : δ => k ⟨a, b, c, d⟩) :
    EvK W (tLst (tCons ta (tCons tb (tCons tc (tCons td tNil))))) Γ k := fun σ H Q E c =>
  h σ H _ E fun x H1 a e1 d1 h1 => h1 σ H1 _ (E.ext e1) fun y H2 b e2 d2 h2 => h2 σ H2 _ ((E.ext e1).ext e2) fun u H3 b3 e3 d3 h3 => h3 σ H3 _ (((E.ext e1).ext e2).ext e3) fun w H4 b4 e4 d4 z => ⟨by show 4 ≤ sizeLine; decide, fun p hp =>
    have e5 := Ext.new (o := .lst [x, y, u, w]) e4.ok hp
    c _ _ ⟨a, b, b3, b4⟩ ((((e1.trans e2).trans e3).trans e4).trans e5) ⟨p, x, y, u, w, rfl, Lq.new (fresh_mu e4.ok hp) upd_same, Rep.mono (((e2.trans e3).trans e4).trans e5).keep d1, Rep.mono ((e3.trans e4).trans e5).keep d2, Rep.mono (e4.trans e5).keep d3, Rep.mono e5.keep d4⟩ z⟩
end
end G
set_option Elab.async false
set_option linter.all false
set_option maxRecDepth 100000
set_option maxHeartbeats 2000000
namespace G
open PySem PySem.Spec PyProof.Rows L2 StX
abbrev Own := List (Addr × List V)
abbrev keys (L : Own) : List Addr := L.map (·.1)
structure Ol (α : Type) where
  p : Addr
  vs : List V
  as : List α
instance {α : Type} [Rep α] : Rep (Ol α) :=
  ⟨fun W H v a => v = .ref a.p ∧ Dl (den W H) a.vs a.as, fun e h => ⟨h.1, h.2.imp fun _ _ d => Rep.mono e d⟩, fun D n h => ⟨h.1, h.2.imp fun _ _ d => Rep.grow D n d⟩, fun D h => ⟨h.1, h.2.imp fun _ _ d => Rep.shrink D d⟩⟩
def Wc.plusL (W : Wc) : List Addr → Wc
  | [] => W
  | k :: r => (W.plusL r).plus k
theorem plusL_mu {W : Wc} {a : Addr} : ∀ {ks : List Addr}, (W.plusL ks).mu a ↔ W.mu a ∨ a ∈ ks
  | [] => ⟨.inl, fun h => h.elim id fun h => nomatch h⟩
  | k :: r => by
    show ((W.plusL r).mu a ∨ a = k) ↔ _
    rw [plusL_mu (ks := r), List.mem_cons]
    constructor
    · rintro ((h | h) | h)
      · exact .inl h
      · exact .inr (.inr h)
      · exact .inr (.inl h)
    · rintro (h | h | h)
      · exact .inl (.inl h)
      · exact .inr h
      · exact .inl (.inr h)
theorem plusL_B {W : Wc} : ∀ {ks : List Addr}, (W.plusL ks).B = W.B
  | [] => rfl
  | _ :: r => plusL_B (ks := r)
theorem plusL_box {W : Wc} : ∀ {ks : List Addr}, (W.plusL ks).box = W.box
  | [] => rfl
  | _ :: r => plusL_box (ks := r)
theorem shrinkL {W : Wc} {H : Hp} {v : V} {t : Ty} : ∀ {ks : List Addr}, t.den (W.plusL ks) H v → t.den W H v
  | [], h => h
  | k :: _, h => shrinkL (t.r.shrink k h)
theorem fshrinkL {W : Wc} {H : Hp} {v : V} {t : Fv} : ∀ {ks : List Addr}, t.den (W.plusL ks) H v → t.den W H v
  | [], h => h
  | k :: _, h => fshrinkL (Fv.shrink k h)
def Wd.own (W : Wd) (F : Hp) (L : Own) (oF : W.ok F) (nF : ∀ k ∈ keys L, F k = none) : Wd where
  toWc := W.toWc.plusL (keys L)
  ok := fun H => W.ok H ∧ ∀ x ∈ L, H x.1 = some (.lst x.2)
  live := fun H a ⟨h, e⟩ m => by
    rcases plusL_mu.mp m with m | m
    · exact W.live H a h m
    · obtain ⟨x, hx, rfl⟩ := List.mem_map.mp m
      exact ⟨_, e x hx⟩
  st := fun H p o ⟨h, e⟩ m => ⟨W.st H p o h fun z => m (plusL_mu.mpr (.inl z)), fun x hx => by
    have hne : x.1 ≠ p := fun z => m (plusL_mu.mpr (.inr (by rw [← z]; exact List.mem_map.mpr ⟨x, hx, rfl⟩)))
    rw [upd_ne hne]
    exact e x hx⟩
  wish := fun H => Kp W.toWc F H
  wst := fun H H' k _ w a o m e => k a o (fun z => (plusL_mu.mp z).elim m fun z => by rw [nF a z] at e; cases e) (w a o m e)
  hasbox := fun H b ⟨h, _⟩ hb => W.hasbox H b h (by rw [plusL_box] at hb; exact hb)
  boxset := fun H b c i p s i' p' s' ⟨h, e⟩ hb q h1 h2 => by
    rw [plusL_box] at hb
    refine ⟨W.boxset H b c i p s i' p' s' h hb q h1 h2, fun x hx => ?_⟩
    have z : x.1 ≠ b := fun z => by
      have h3 := nF x.1 (List.mem_map.mpr ⟨x, hx, rfl⟩)
      rw [z] at h3
      exact fresh_mu oF h3 (W.boxmu b hb)
    rw [upd_ne z]
    exact e x hx
  boxmu := fun b hb => plusL_mu.mpr (.inl (W.boxmu b (by rw [plusL_box] at hb; exact hb)))
  oke := fun H H' ⟨h, e⟩ k => ⟨W.oke H H' h k, fun x hx => k _ _ (e x hx)⟩
/-- the world Wo is W with the own lists L kept apart -/
structure OwnW (W : Wd) (L : Own) (Wo : Wd) : Prop where
  B : Wo.B = W.B
  pin : ∀ H, Wo.ok H → ∀ x ∈ L, H x.1 = some (.lst x.2)
  err : ∀ (E : XK) (x : Xn → Prop), (∀ H', W.ok H' → W.wish H' → XOk W H' E x) → ∀ H', Wo.ok H' → Wo.wish H' → XOk Wo H' E x
section
variable {W : Wd} {F : Hp} {L L' : Own} {oF : W.ok F} {nF : ∀ k ∈ keys L, F k = none}
theorem own_ext {H H' : Hp} (o : (W.own F L oF nF).ok H) (e : Ext (W.own F L oF nF) H H') : Ext W H H' := ⟨fun a u m z => by
  by_cases h : a ∈ keys L
  · obtain ⟨x, hx, rfl⟩ := List.mem_map.mp h
    have h1 := o.2 x hx
    have h2 := e.ok.2 x hx
    rw [h1] at z
    cases z
    exact h2
  · exact e.keep a u (fun z => (plusL_mu.mp z).elim m h) z, e.ok.1⟩
theorem xdenL {H : Hp} {d : Option Addr} {fs : List (Str × Fv)} {ks : List Addr} (h : xden (W.toWc.plusL ks) H d fs) : xden W.toWc H d fs :=
  h.imp (fun h => h) fun ⟨dd, vs, h1, h2, h3, h4⟩ => ⟨dd, vs, h1, fun z => h2 (plusL_mu.mpr (.inl z)), h3, h4.imp fun _ _ z => fshrinkL z⟩
theorem own_w (wF : W.wish F) : OwnW W L (W.own F L oF nF) := by
  refine ⟨plusL_B, fun H o x hx => o.2 x hx, fun E x h H' o w n d H2 e xd xn => ?_⟩
  have wH : W.wish H' := W.wst F H' w o.1 wF
  have := h H' o.1 wH n d H2 (own_ext o e) (xdenL xd) xn
  have hB : (W.own F L oF nF).B = W.B := plusL_B
  rw [hB]
  exact this
end
/-- from L at H to L' at H' -/
def Stp (W : Wd) (L : Own) (H : Hp) (L' : Own) (H' : Hp) : Prop := Kp (W.toWc.plusL (keys L)) H H' ∧ ∀ k ∈ keys L', k ∈ keys L ∨ H k = none
theorem Stp.refl {W : Wd} {L : Own} {H : Hp} : Stp W L H L H := ⟨fun _ _ _ z => z, fun _ h => .inl h⟩
theorem Stp.trans {W : Wd} {L L1 L2 : Own} {H H1 H2 : Hp} (o1 : W.ok H1) (a : Stp W L H L1 H1) (b : Stp W L1 H1 L2 H2) : Stp W L H L2 H2 := by
  refine ⟨fun x o m z => b.1 x o (fun q => ?_) (a.1 x o m z), fun k hk => ?_⟩
  · rcases plusL_mu.mp q with q | q
    · exact m (plusL_mu.mpr (.inl q))
    · rcases a.2 x q with q | q
      · exact m (plusL_mu.mpr (.inr q))
      · rw [q] at z; cases z
  · rcases b.2 k hk with h | h
    · exact a.2 k h
    · by_cases hm : k ∈ keys L
      · exact .inl hm
      · refine .inr ?_
        cases q : H k with
        | none => rfl
        | some u =>
          by_cases hw : W.mu k
          · obtain ⟨o, e⟩ := W.live H1 k o1 hw
            rw [h] at e; cases e
          · rw [a.1 k u (fun z => (plusL_mu.mp z).elim hw hm) q] at h
            cases h
structure PoM where
  nx : Own → Gam → Prop
  rt : Ty → Prop
  bk : Own → Gam → Prop := fun _ _ => False
  ct : Own → Gam → Prop := fun _ _ => False
structure EOkM (W : Wd) (F : Hp) (L : Own) (H : Hp) (D : Ends) (R : PoM) : Prop where
  nx : ∀ L' oF nF σ' H' Γ', Stp W L H L' H' → (keys L').Nodup → GOk (W.own F L' oF nF) H' σ' Γ' → R.nx L' Γ' → D.nx σ' H'
  rt : ∀ v H' (t : Ty), Ext W F H' → t.den W H' v → R.rt t → D.rt v H'
  bk : ∀ L' oF nF σ' H' Γ', Stp W L H L' H' → (keys L').Nodup → GOk (W.own F L' oF nF) H' σ' Γ' → R.bk L' Γ' → D.bk σ' H'
  ct : ∀ L' oF nF σ' H' Γ', Stp W L H L' H' → (keys L').Nodup → GOk (W.own F L' oF nF) H' σ' Γ' → R.ct L' Γ' → D.ct σ' H'
theorem EOkM.step {W : Wd} {F : Hp} {L L1 : Own} {H H1 : Hp} {D : Ends} {R : PoM} (h : EOkM W F L H D R) (o1 : W.ok H1) (s : Stp W L H L1 H1) : EOkM W F L1 H1 D R :=
  ⟨fun L' oF nF σ' H' Γ' s' => h.nx L' oF nF σ' H' Γ' (s.trans o1 s'), h.rt, fun L' oF nF σ' H' Γ' s' => h.bk L' oF nF σ' H' Γ' (s.trans o1 s'), fun L' oF nF σ' H' Γ' s' => h.ct L' oF nF σ' H' Γ' (s.trans o1 s')⟩
/-- a statement in a def with own lists L; F: the heap ahead of the first of them -/
def SxM (W : Wd) (F : Hp) (t : TS) (L : Own) (Γ : Gam) (R : PoM) : Prop :=
  ∀ D σ H oF nF, W.wish F → (keys L).Nodup → GOk (W.own F L oF nF) H σ Γ → EOkM W F L H D R → t D σ H
theorem own_gok_nil {W : Wd} {F H : Hp} {σ : L2.St} {Γ : Gam} {oF : W.ok F} {nF : ∀ k ∈ keys [], F k = none} (k : Kp W.toWc F H) (G : GOk W H σ Γ) : GOk (W.own F [] oF nF) H σ Γ := ⟨⟨G.ok, fun _ h => nomatch h⟩, k, G.at_, G.len⟩
theorem own_gok_out {W : Wd} {F H : Hp} {L : Own} {σ : L2.St} {Γ : Gam} {oF : W.ok F} {nF : ∀ k ∈ keys L, F k = none} (wF : W.wish F) (G : GOk (W.own F L oF nF) H σ Γ) : GOk W H σ Γ :=
  ⟨G.ok.1, W.wst F H G.wish G.ok.1 wF, fun i t h => let ⟨v, h1, h2⟩ := G.at_ i t h; ⟨v, h1, shrinkL h2⟩, G.len⟩
theorem own_stp {W : Wd} {F H H' : Hp} {L : Own} {oF : W.ok F} {nF : ∀ k ∈ keys L, F k = none} (e : Ext (W.own F L oF nF) H H') : Stp W L H L H' := ⟨e.keep, fun _ h => .inl h⟩
section
variable {W : Wd} {F : Hp} {L : Own} {Γ : Gam} {ta tb te : TE} {tt : TT} {t u : TS} {R : PoM} {g : TG}
/-- into the part with own lists -/
theorem sx_own {R : Po} (h : ∀ F, SxM W F t [] Γ { nx := fun _ => R.nx, rt := R.rt, bk := fun _ => R.bk, ct := fun _ => R.ct }) : Sx W t Γ R := fun D σ H G O =>
  h H D σ H G.ok (fun _ z => nomatch z) G.wish .nil (own_gok_nil (fun _ _ _ z => z) G)
    ⟨fun L' oF nF σ' H' Γ' s _ G' q => O.nx σ' H' Γ' ⟨G'.wish, G'.ok.1⟩ (own_gok_out G.wish G') q, fun v H' t e d q => O.rt v H' t e d q,
     fun L' oF nF σ' H' Γ' s _ G' q => O.bk σ' H' Γ' ⟨G'.wish, G'.ok.1⟩ (own_gok_out G.wish G') q, fun L' oF nF σ' H' Γ' s _ G' q => O.ct σ' H' Γ' ⟨G'.wish, G'.ok.1⟩ (own_gok_out G.wish G') q⟩
theorem eok_un {D : Ends} {H : Hp} {oF : W.ok F} {nF : ∀ k ∈ keys L, F k = none} (nd : (keys L).Nodup) (O : EOkM W F L H D R) (wk : Kp W.toWc F H) (o : (W.own F L oF nF).ok H) : EOk (W.own F L oF nF) H D { nx := R.nx L, rt := R.rt, bk := R.bk L, ct := R.ct L } :=
  ⟨fun σ' H' Γ' e G q => O.nx L oF nF σ' H' Γ' (own_stp e) nd G q, fun v H' t e d q => O.rt v H' t (Ext.trans (W := W) ⟨wk, o.1⟩ (own_ext o e)) (shrinkL d) q,
   fun σ' H' Γ' e G q => O.bk L oF nF σ' H' Γ' (own_stp e) nd G q, fun σ' H' Γ' e G q => O.ct L oF nF σ' H' Γ' (own_stp e) nd G q⟩
/-- a statement that leaves the own lists -/
theorem sxm_pure (h : ∀ Wo, OwnW W L Wo → Sx Wo t Γ { nx := R.nx L, rt := R.rt, bk := R.bk L, ct := R.ct L }) : SxM W F t L Γ R := fun D σ H oF nF wF nd G O =>
  h _ (own_w wF) D σ H G (eok_un nd O G.wish G.ok)
theorem sxm_seq (h : SxM W F t L Γ { R with nx := fun L' Γ' => SxM W F u L' Γ' R }) : SxM W F (tSeq t u) L Γ R := fun D σ H oF nF wF nd G O =>
  h _ σ H oF nF wF nd G ⟨fun L' oF nF σ' H' Γ' s nd' G' q => q D σ' H' oF nF wF nd' G' (O.step G'.ok.1 s), O.rt, O.bk, O.ct⟩
theorem SxM.imp {R' : PoM} (h : SxM W F t L Γ R') (n : ∀ L Γ', R'.nx L Γ' → R.nx L Γ') (r : ∀ v, R'.rt v → R.rt v) (b : ∀ L Γ', R'.bk L Γ' → R.bk L Γ') (c : ∀ L Γ', R'.ct L Γ' → R.ct L Γ') : SxM W F t L Γ R := fun D σ H oF nF wF nd G O =>
  h D σ H oF nF wF nd G ⟨fun L' oF nF σ' H' Γ' s nd' G' q => O.nx L' oF nF σ' H' Γ' s nd' G' (n _ _ q), fun v H' t e d q => O.rt v H' t e d (r _ q), fun L' oF nF σ' H' Γ' s nd' G' q => O.bk L' oF nF σ' H' Γ' s nd' G' (b _ _ q), fun L' oF nF σ' H' Γ' s nd' G' q => O.ct L' oF nF σ' H' Γ' s nd' G' (c _ _ q)⟩
theorem sxm_next (q : R.nx L Γ) : SxM W F tNext L Γ R := sxm_pure fun Wo _ => sx_next q
theorem fresh_F {H : Hp} {p : Addr} (oH : W.ok H) (wk : Kp W.toWc F H) (n : H p = none) : F p = none := by
  cases q : F p with
  | none => rfl
  | some u =>
    rw [wk p u (fresh_mu oH n) q] at n
    cases n
/-- x = a new list, from now on an own one -/
theorem sxm_new {β : Type} {rβ : Rep β} {i : Nat} (h : ∀ Wo, OwnW W L Wo → EvF Wo te Γ fun bs : List β => ∀ p vs, R.nx ((p, vs) :: L) (Γ.set i (some (T (Ol.mk p vs bs))))) : SxM W F (tAsg te (gName i)) L Γ R := fun D σ H oF nF wF nd G O => by
  refine h _ (own_w wF) σ H _ G fun p H1 vs bs n e hp hb q => ?_
  have nFp : F p = none := fresh_F G.ok.1 G.wish n
  have hpk : p ∉ keys L := fun hk => by
    obtain ⟨x, hx, e1⟩ := List.mem_map.mp hk
    have := G.ok.2 x hx
    rw [e1, n] at this
    cases this
  have nF' : ∀ k ∈ keys ((p, vs) :: L), F k = none := fun k hk => by
    rcases List.mem_cons.mp hk with rfl | hk
    · exact nFp
    · exact nF k hk
  have s : Stp W L H ((p, vs) :: L) H1 := ⟨e.keep, fun k hk => by
    rcases List.mem_cons.mp hk with rfl | hk
    · exact .inr n
    · exact .inl hk⟩
  have G1 := G.ext e
  have kp : Kp ((W.toWc.plusL (keys L)).plus p) H H1 := fun b o m z => e.keep b o (fun z => m (.inl z)) z
  have G2 : GOk (W.own F ((p, vs) :: L) oF nF') H1 σ Γ := ⟨⟨G1.ok.1, fun x hx => by
    rcases List.mem_cons.mp hx with rfl | hx
    · exact hp
    · exact G1.ok.2 x hx⟩, G1.wish, fun j t ht => by
      obtain ⟨v, h1, h2⟩ := G.at_ j t ht
      exact ⟨v, h1, Ty.mono kp (t.r.grow p n h2)⟩, G.len⟩
  exact O.nx _ oF nF' _ H1 _ s (List.nodup_cons.mpr ⟨hpk, nd⟩) (G2.set i (t := T (Ol.mk p vs bs)) ⟨rfl, hb⟩) (q p vs)
theorem keys_set {k : Nat} {p : Addr} {vs vs' : List V} (h : L[k]? = some (p, vs)) : keys (L.set k (p, vs')) = keys L := by
  refine List.ext_getElem? fun i => ?_
  rw [List.getElem?_map, List.getElem?_map, List.getElem?_set]
  by_cases e : k = i
  · subst e
    rw [if_pos rfl]
    have hl : k < L.length := (List.getElem?_eq_some_iff.mp h).1
    rw [if_pos hl, h]
    rfl
  · rw [if_neg e]
/-- an own list changes at its place -/
theorem own_put {H : Hp} {σ : L2.St} {D : Ends} {oF : W.ok F} {nF : ∀ k ∈ keys L, F k = none} {k i : Nat} {p : Addr} {vs vs' : List V} {β : Type} {rβ : Rep β} {bs : List β} (nd : (keys L).Nodup) (G : GOk (W.own F L oF nF) H σ Γ) (O : EOkM W F L H D R)
    (hk : L[k]? = some (p, vs)) (hi : σ[i]? = some (some (.ref p))) (hb : Dl (den (W.toWc.plusL (keys L)) H) vs' bs) (q : R.nx (L.set k (p, vs')) (Γ.set i (some (T (Ol.mk p vs' bs))))) : D.nx σ (upd H p (.lst vs')) := by
  have hks : keys (L.set k (p, vs')) = keys L := keys_set hk
  have hmem : p ∈ keys L := List.mem_map.mpr ⟨_, List.mem_of_getElem? hk, rfl⟩
  have kp : Kp (W.toWc.plusL (keys L)) H (upd H p (.lst vs')) := fun b o m z => by
    have hne : b ≠ p := fun e => m (plusL_mu.mpr (.inr (by rw [e]; exact hmem)))
    rw [upd_ne hne]
    exact z
  have nF' : ∀ k' ∈ keys (L.set k (p, vs')), F k' = none := fun k' h => nF k' (by rw [hks] at h; exact h)
  have nmu : ¬ W.mu p := fresh_mu oF (nF p hmem)
  have s : Stp W L H (L.set k (p, vs')) (upd H p (.lst vs')) := ⟨kp, fun k' h => .inl (by rw [hks] at h; exact h)⟩
  have hl : k < L.length := (List.getElem?_eq_some_iff.mp hk).1
  have G2 : GOk (W.own F (L.set k (p, vs')) oF nF') (upd H p (.lst vs')) σ (Γ.set i (some (T (Ol.mk p vs' bs)))) := by
    refine ⟨⟨W.st _ _ _ G.ok.1 nmu, fun x hx => ?_⟩, fun a o m z => ?_, fun j t ht => ?_, by rw [List.length_set]; exact G.len⟩
    · obtain ⟨j, hj⟩ := List.getElem?_of_mem hx
      rw [List.getElem?_set] at hj
      by_cases e : k = j
      · rw [if_pos e, if_pos hl] at hj
        cases hj
        exact upd_same
      · rw [if_neg e] at hj
        have hne : x.1 ≠ p := fun z => by
          have h1 : (keys L)[j]? = some p := by rw [List.getElem?_map, hj, ← z]; rfl
          have h2 : (keys L)[k]? = some p := by rw [List.getElem?_map, hk]; rfl
          exact e ((List.getElem?_inj (by rw [List.length_map]; exact hl) nd).mp (h2.trans h1.symm))
        rw [upd_ne hne]
        exact G.ok.2 x (List.mem_of_getElem? hj)
    · have hne : a ≠ p := fun e => by rw [e, nF p hmem] at z; cases z
      rw [upd_ne hne]
      exact G.wish a o m z
    · show ∃ v, σ[j]? = some (some v) ∧ t.den (W.toWc.plusL (keys (L.set k (p, vs')))) _ v
      rw [hks]
      by_cases e : i = j
      · subst e
        have hl2 : i < Γ.length := by
          have := (List.getElem?_eq_some_iff.mp hi).1
          rw [G.len] at this
          exact this
        rw [List.getElem?_set_self hl2] at ht
        cases ht
        exact ⟨_, hi, rfl, hb.imp fun _ _ d => Rep.mono kp d⟩
      · rw [List.getElem?_set_ne e] at ht
        obtain ⟨v, h1, h2⟩ := G.at_ j t ht
        exact ⟨v, h1, Ty.mono kp h2⟩
  exact O.nx _ oF nF' σ _ _ s (by rw [hks]; exact nd) G2 q
theorem ol_at {Wo : Wd} {H : Hp} {σ : L2.St} {α : Type} {rα : Rep α} {i : Nat} {p : Addr} {vs : List V} {as : List α} (G : GOk Wo H σ Γ) (h : Γ[i]? = some (some (T (Ol.mk p vs as)))) : σ[i]? = some (some (.ref p)) ∧ Dl (den Wo H) vs as := by
  obtain ⟨v, h1, h2, h3⟩ := G.at_ i _ h
  subst h2
  exact ⟨h1, h3⟩
/-- xs.append(e), xs an own list -/
theorem sxm_append {α : Type} {rα : Rep α} {K : PySem.W.Frag} {i : Nat} (k : Nat) {p : Addr} {vs : List V} {as : List α} (hk : L[k]? = some (p, vs)) (hi : Γ[i]? = some (some (T (Ol.mk p vs as))))
    (h : ∀ Wo, OwnW W L Wo → EvK Wo te Γ fun a : α => as.length < 100000 ∧ ∀ v, R.nx (L.set k (p, vs ++ [v])) (Γ.set i (some (T (Ol.mk p (vs ++ [v]) (as ++ [a])))))) : SxM W F (tDrop (tBM K "list" rAppend (tVar i) (tCons te tNil))) L Γ R := fun D σ H oF nF wF nd G O => by
  obtain ⟨h1, h2⟩ := ol_at G hi
  refine ⟨_, h1, .inl ⟨rfl, _, .inl (.inl (G.ok.2 _ (List.mem_of_getElem? hk)))⟩, ?_⟩
  refine h _ (own_w wF) σ H _ G fun v H1 a e1 d ⟨hl, q⟩ => ?_
  have G1 := G.ext e1
  refine ⟨p, vs, v, rfl, rfl, G1.ok.2 _ (List.mem_of_getElem? hk), Nat.lt_of_lt_of_le (by rw [h2.length]; exact hl) (by decide : 100000 ≤ sizeLine), ?_⟩
  exact own_put nd G1 (O.step G1.ok.1 (own_stp e1)) hk h1 (Dl.append (h2.imp fun _ _ d => Rep.mono e1.keep d) (.cons d .nil)) (q v)
theorem Dl.set {α : Type} {f : V → α → Prop} : ∀ {vs : List V} {as : List α} {m : Nat} {v : V} {a : α}, Dl f vs as → f v a → Dl f (vs.set m v) (as.set m a)
  | _, _, _, _, _, .nil, _ => .nil
  | _, _, 0, _, _, .cons _ y, h => .cons h y
  | _, _, m + 1, _, _, .cons x y, h => .cons x (y.set h)
/-- xs[j] = e, xs an own list -/
theorem sxm_put {α : Type} {rα : Rep α} {i : Nat} (k : Nat) {ti : TE} {p : Addr} {vs : List V} {as : List α} (hk : L[k]? = some (p, vs)) (hi : Γ[i]? = some (some (T (Ol.mk p vs as))))
    (h : ∀ Wo, OwnW W L Wo → EvK Wo te Γ fun a : α => EvK Wo ti Γ fun j : Int => ∃ m, ixN as.length j = some m ∧ ∀ v, R.nx (L.set k (p, vs.set m v)) (Γ.set i (some (T (Ol.mk p (vs.set m v) (as.set m a)))))) : SxM W F (tAsg te (gSub (tVar i) ti rSetL)) L Γ R := fun D σ H oF nF wF nd G O => by
  refine h _ (own_w wF) σ H _ G fun v H1 a e1 d h' => ?_
  have G1 := G.ext e1
  obtain ⟨h1, h2⟩ := ol_at G1 hi
  refine ⟨_, h1, ?_⟩
  refine h' σ H1 _ G1 fun w H2 j e2 dj ⟨m, hm, q⟩ => ?_
  have G2 := G1.ext e2
  obtain ⟨_, h3⟩ := ol_at G2 hi
  refine ⟨p, vs, j, m, rfl, dj, G2.ok.2 _ (List.mem_of_getElem? hk), by rw [h3.length]; exact hm, ?_⟩
  exact own_put nd G2 (O.step G2.ok.1 (own_stp (e1.trans e2))) hk h1 (h3.set (Rep.mono e2.keep d)) (q v)
/-- for x in range(n), with own lists -/
theorem sxm_forR (h : ∀ Wo, OwnW W L Wo → EvK Wo te Γ fun n : Int => (-(2 ^ 62) ≤ n ∧ n < 2 ^ 62) ∧ ∃ I : Nat → Own → Gam → Prop, I 0 L Γ ∧
      (∀ (i : Nat) L' Γ', i < n.toNat → I i L' Γ' → ∀ Wo', OwnW W L' Wo' → Tg Wo' g Γ' (i : Int) fun Γ1 => SxM W F t L' Γ1 { R with nx := I (i + 1), ct := I (i + 1), bk := R.nx }) ∧ ∀ L' Γ', I n.toNat L' Γ' → R.nx L' Γ') : SxM W F (tFor (iRng1 (tCons te tNil)) g t) L Γ R := by
  refine fun D σ H oF nF wF nd G O => h _ (own_w wF) σ H _ G fun v H1 n e1 hv ⟨⟨b1, b2⟩, I, h0, hs, hl⟩ => ?_
  have G1 := G.ext e1
  have O1 := O.step G1.ok.1 (own_stp e1)
  refine ⟨n, congrArg (fun x => [x]) hv, b1, b2, for_range (lo := 0) (n := n.toNat) (fun i σ' H' => ∃ L' oF nF Γ', Stp W L H1 L' H' ∧ (keys L').Nodup ∧ GOk (W.own F L' oF nF) H' σ' Γ' ∧ I i L' Γ') ⟨L, oF, nF, Γ, .refl, nd, G1, h0⟩ ?_ ?_⟩
  · rintro i σ' H' hi ⟨L', oF', nF', Γ', s, nd', G', q⟩
    obtain ⟨js, hj⟩ := hs i L' Γ' hi q _ (own_w (oF := oF') (nF := nF') wF)
    refine hj σ' H' _ _ G' (by show V.int ((0 : Int) + i) = .int i; rw [Int.zero_add]) fun σ2 Γ2 G2 _ q2 => ?_
    exact q2 _ σ2 H' oF' nF' wF nd' G2 ⟨fun L3 oF3 nF3 σ3 H3 Γ3 s3 nd3 G3 q3 => ⟨L3, oF3, nF3, Γ3, s.trans G'.ok.1 s3, nd3, G3, q3⟩, fun v3 H3 t3 e3 d3 q3 => O.rt v3 H3 t3 e3 d3 q3,
      fun L3 oF3 nF3 σ3 H3 Γ3 s3 nd3 G3 q3 => O1.nx L3 oF3 nF3 σ3 H3 Γ3 (s.trans G'.ok.1 s3) nd3 G3 q3, fun L3 oF3 nF3 σ3 H3 Γ3 s3 nd3 G3 q3 => ⟨L3, oF3, nF3, Γ3, s.trans G'.ok.1 s3, nd3, G3, q3⟩⟩
  · rintro σ' H' ⟨L', oF', nF', Γ', s, nd', G', q⟩
    exact O1.nx L' oF' nF' σ' H' Γ' s nd' G' (hl L' Γ' q)
inductive Frz (L : Own) : Gam → Gam → Prop
  | nil : Frz L [] []
  | own {α : Type} {rα : Rep α} {p : Addr} {vs : List V} {as : List α} {Γ Γ' : Gam} : (p, vs) ∈ L → Frz L Γ Γ' → Frz L (some (T (Ol.mk p vs as)) :: Γ) (some (T as) :: Γ')
  | same {t : Option Ty} {Γ Γ' : Gam} : Frz L Γ Γ' → Frz L (t :: Γ) (t :: Γ')
theorem Frz.len {Γ Γ' : Gam} (h : Frz L Γ Γ') : Γ.length = Γ'.length := by
  induction h with
  | nil => rfl
  | own _ _ ih => exact congrArg (· + 1) ih
  | same _ ih => exact congrArg (· + 1) ih
theorem frz_slots {H : Hp} {Γ Γ' : Gam} (nm : ∀ k ∈ keys L, ¬ W.mu k) (pin : ∀ x ∈ L, H x.1 = some (.lst x.2)) (f : Frz L Γ Γ') : ∀ (i : Nat) (t : Ty), Γ'[i]? = some (some t) → (∀ u v, Γ[i]? = some (some u) → u.den (W.toWc.plusL (keys L)) H v → t.den W.toWc H v) ∧ ∃ u, Γ[i]? = some (some u) := by
  induction f with
  | nil => intro i t h; simp at h
  | @own α rα p vs as Γ Γ' hm _ ih =>
    intro i t h
    cases i with
    | zero =>
      have h' : some (some (T as)) = some (some t) := by simpa using h
      cases h'
      refine ⟨fun u v hu hd => ?_, _, rfl⟩
      have hu' : some (some (T (Ol.mk p vs as))) = some (some u) := by simpa using hu
      cases hu'
      obtain ⟨hv, hb⟩ := hd
      exact ⟨p, vs, hv, ⟨nm p (List.mem_map.mpr ⟨_, hm, rfl⟩), pin _ hm⟩, hb.imp fun _ _ d => shrinkL (t := T _) d⟩
    | succ i => exact ih i t (by simpa using h)
  | @same t0 Γ Γ' _ ih =>
    intro i t h
    cases i with
    | zero =>
      have h' : some t0 = some (some t) := by simpa using h
      cases h'
      refine ⟨fun u v hu hd => ?_, _, rfl⟩
      have hu' : some (some t) = some (some u) := by simpa using hu
      cases hu'
      exact shrinkL hd
    | succ i => exact ih i t (by simpa using h)
/-- own lists come to rest: from now on they do not change -/
theorem sxm_freeze {Γ' : Gam} (f : Frz L Γ Γ') (h : SxM W F t [] Γ' R) : SxM W F t L Γ R := fun D σ H oF nF wF nd G O => by
  have nm : ∀ k ∈ keys L, ¬ W.mu k := fun k hk => fresh_mu oF (nF k hk)
  have G' : GOk (W.own F [] oF fun _ z => nomatch z) H σ Γ' := ⟨⟨G.ok.1, fun _ z => nomatch z⟩, G.wish, fun i t ht => by
    obtain ⟨h1, u, hu⟩ := frz_slots nm G.ok.2 f i t ht
    obtain ⟨v, h2, h3⟩ := G.at_ i u hu
    exact ⟨v, h2, h1 u v hu h3⟩, G.len.trans f.len⟩
  refine h D σ H oF (fun _ z => nomatch z) wF .nil G' ⟨fun L' oF' nF' σ' H' Γ2 s nd' G2 q => O.nx L' oF' nF' σ' H' Γ2 ?_ nd' G2 q, O.rt, fun L' oF' nF' σ' H' Γ2 s nd' G2 q => O.bk L' oF' nF' σ' H' Γ2 ?_ nd' G2 q, fun L' oF' nF' σ' H' Γ2 s nd' G2 q => O.ct L' oF' nF' σ' H' Γ2 ?_ nd' G2 q⟩ <;>
  exact ⟨fun a o m z => s.1 a o (fun q => m (plusL_mu.mpr (.inl q))) z, fun k hk => .inr ((s.2 k hk).resolve_left fun z => nomatch z)⟩
/-- data that holds no list -/
class NoLst (α : Type) [Rep α] : Prop where
  at_ : ∀ {W : Wc} {H : Hp} {v : V} {a : α} {D : Addr} {xs : List V}, H D = some (.lst xs) → den W H v a → den (W.plus D) H v a
instance : NoLst Int := ⟨fun _ h => h⟩
instance : NoLst Bool := ⟨fun _ h => h⟩
instance : NoLst Str := ⟨fun _ h => h⟩
instance : NoLst Unit := ⟨fun _ h => h⟩
theorem tq_nl {W : Wc} {H : Hp} {p D : Addr} {vs xs : List V} (h : H D = some (.lst xs)) (s : Tq W H p vs) : Tq (W.plus D) H p vs :=
  ⟨fun z => z.elim s.1 (fun z => by have s2 := s.2; rw [z, h] at s2; cases s2), s.2⟩
instance {α β : Type} [Rep α] [Rep β] [NoLst α] [NoLst β] : NoLst (α × β) := ⟨fun h ⟨p, x, y, hv, s, h1, h2⟩ => ⟨p, x, y, hv, tq_nl h s, NoLst.at_ h h1, NoLst.at_ h h2⟩⟩
instance {α β γ : Type} [Rep α] [Rep β] [Rep γ] [NoLst α] [NoLst β] [NoLst γ] : NoLst (T3 α β γ) := ⟨fun h ⟨p, x, y, z, hv, s, h1, h2, h3⟩ => ⟨p, x, y, z, hv, tq_nl h s, NoLst.at_ h h1, NoLst.at_ h h2, NoLst.at_ h h3⟩⟩
instance : NoLst Stc := ⟨fun h ⟨a, dx, hv, m, e⟩ => ⟨a, dx, hv, fun z => z.elim m (fun z => by rw [z, h] at e; cases e), e⟩⟩
section
variable {oF : W.ok F} {nF : ∀ k ∈ keys L, F k = none}
theorem look_gok {H : Hp} {σ : L2.St} {Γ' : Gam} (wF : W.wish F) (f : Frz L Γ Γ') (G : GOk (W.own F L oF nF) H σ Γ) : GOk W H σ Γ' := by
  have nm : ∀ k ∈ keys L, ¬ W.mu k := fun k hk => fresh_mu oF (nF k hk)
  exact ⟨G.ok.1, W.wst F H G.wish G.ok.1 wF, fun i t ht => by
    obtain ⟨h1, u, hu⟩ := frz_slots nm G.ok.2 f i t ht
    obtain ⟨v, h2, h3⟩ := G.at_ i u hu
    exact ⟨v, h2, h1 u v hu h3⟩, G.len.trans f.len⟩
theorem look_ext {H H' : Hp} (o : (W.own F L oF nF).ok H) (e : Ext W H H') : Ext (W.own F L oF nF) H H' := ⟨fun a u m z => e.keep a u (fun q => m (plusL_mu.mpr (.inl q))) z, e.ok, fun x hx =>
  e.keep _ _ (fresh_mu oF (nF x.1 (List.mem_map.mpr ⟨x, hx, rfl⟩))) (o.2 x hx)⟩
theorem look_T {Γ' : Gam} {k : Bool → Prop} (wF : W.wish F) (f : Frz L Γ Γ') (h : EvT W tt Γ' k) : EvT (W.own F L oF nF) tt Γ k := fun σ H Q G c =>
  h σ H Q (look_gok wF f G) fun H' b e q => c H' b (look_ext G.ok e) q
end
theorem sxm_ifB {Γ' : Gam} (f : Frz L Γ Γ') (h : EvT W tt Γ' fun b => (b = true → SxM W F t L Γ R) ∧ (b = false → SxM W F u L Γ R)) : SxM W F (tIfS tt t u) L Γ R := fun D σ H oF nF wF nd G O =>
  look_T wF f h σ H _ G fun H1 b e1 ⟨h1, h2⟩ => by
    have G1 := G.ext e1
    cases b with
    | true => exact h1 rfl D σ H1 oF nF wF nd G1 (O.step G1.ok.1 (own_stp e1))
    | false => exact h2 rfl D σ H1 oF nF wF nd G1 (O.step G1.ok.1 (own_stp e1))
theorem evF_lst {α : Type} {rα : Rep α} {Wo : Wd} {ta : TA} {k : List α → Prop} (h : EvL Wo ta Γ fun as => as.length ≤ 100000 ∧ k as) : EvF Wo (tLst ta) Γ k := fun σ H Q E c =>
  h σ H _ E fun vs H1 as e1 ds ⟨hl, z⟩ => ⟨Nat.le_trans (by rw [ds.length]; exact hl) (by decide : 100000 ≤ sizeLine), fun p hp => by
    have e2 := Ext.new (o := .lst vs) e1.ok hp
    exact c p _ vs as (fresh_back e1.ok e1 hp) (e1.trans e2) upd_same (ds.imp fun _ _ d => Rep.mono (W := Wo.toWc.plus p) (fun b o m z => by rw [upd_ne (ne_of_none z hp)]; exact z) (Rep.grow p hp d)) z⟩
end
end G
set_option Elab.async false
set_option linter.all false
set_option maxRecDepth 100000
set_option maxHeartbeats 2000000
namespace G
open PySem PySem.Spec PyProof.Rows L2 StX
section
variable {X : Cx} {CX : CXT} {k n : Nat} {f g C p : Addr} {sp : Sp} {E : L2.St → XK} {x m : Str} {o e e2 : Expr} {es : List Expr} {te to tb : TE} {t : TA} {pp sp_ pos apos : Pos} {mc : Value}
theorem pe_appendK (K : PySem.W.Frag) (ho : PE X o to) (ha : PA X (e :: es) t) (hK : X.K = K := by rfl)
    (hbase : attributeBase o "append" X.env (eval o X.env) = eval o X.env := by rfl)
    (hfew : ((backTo pos (starEach (e :: es) X.env)).all (fun x => !x.1) && (backToKw pos (keywordEach [] X.env)).all (fun x => x.1.isSome)
      && decide ((e :: es).length + ([] : List Keyword).length + (if ([] : List Keyword).isEmpty then 0 else 1) < 30)) = true := by rfl)
    (hline : (apos.endLine == pos.line) = true := by rfl) (hs : starEach (e :: es) X.env = (false, eval e X.env) :: starEach es X.env := by rfl) (hplain : (backTo pos (starEach es X.env)).any (·.1) = false := by rfl) :
    PE X (.Call (.Attribute o "append" apos) (e :: es) [] pos) (tBM K "list" rAppend to t) := by
  subst hK
  exact pe_bm PySem.F.plainAttrs_list PySem.F.slot_list_append PySem.F.type_list_append mt_append ho ha hbase hfew hline hs hplain
/-- x(e, ..), x a local name that holds the class at C -/
def tMakeV (i : Nat) (C : Addr) (sp : Sp) (E : L2.St → XK) (t : TA) : TE := fun σ H Q => ∃ v, σ[i]? = some (some v) ∧ v = .ref C ∧ tMakeZ C sp E t σ H Q
/-- a star call's items -/
def tStarZ (K : PySem.W.Frag) (te : TE) : TA := fun σ H Q => te σ H fun y H1 => ∃ a xs, y = V.ref a ∧ (SqT K H1 a xs ∨ SqL K H1 a xs) ∧ Q xs H1
/-- C.m(e, ..), a class method -/
def tCMethZ (C : Addr) (sp : Sp) (E : L2.St → XK) (t : TA) : TE := fun σ H Q => t σ H fun vs H2 => sp (.ref C :: vs) H2 Q (E σ)
/-- e.f, a property that raises nothing, by a promise of values -/
def tPropZ (C : Addr) (sp : Sp) (ta : TE) : TE := fun σ H Q => ta σ H fun x H1 => ∃ a dx fs, x = .ref a ∧ H1 a = some (.ins C dx fs) ∧ sp [.ref a] H1 Q E0
end
end G
set_option Elab.async false
set_option linter.all false
set_option maxRecDepth 100000
set_option maxHeartbeats 2000000
namespace G
open PySem PySem.Spec PyProof.Rows L2 StX
structure Cv where
  c : Cn
instance : Rep Cv := ⟨fun W _ v a => v = .ref (W.B.cl a.c), fun _ h => h, fun _ _ h => h, fun _ h => h⟩
instance : NoLst Cv := ⟨fun _ h => h⟩
structure Tl (α : Type) where
  xs : List α
instance {α : Type} [Rep α] : Rep (Tl α) :=
  ⟨fun W H v as => ∃ p vs, v = .ref p ∧ Tq W H p vs ∧ Dl (den W H) vs as.xs,
   fun e ⟨p, vs, hv, s, h⟩ => ⟨p, vs, hv, s.mono e, h.imp fun _ _ x => Rep.mono e x⟩,
   fun D n ⟨p, vs, hv, s, h⟩ => ⟨p, vs, hv, s.grow D n, h.imp fun _ _ x => Rep.grow D n x⟩,
   fun D ⟨p, vs, hv, s, h⟩ => ⟨p, vs, hv, s.shrink D, h.imp fun _ _ x => Rep.shrink D x⟩⟩
section
variable {W : Wd} {Γ : Gam} {ta : TA} {te tb to tl : TE} {tt : TT} {g : TG} {B : Bs} {P : PT} {E : L2.St → XK} {x : Xn → Prop} {C : Addr} {K : PySem.W.Frag}
def lexLe (p q : Int × Int) : Bool := decide (p.1 < q.1 ∨ (p.1 = q.1 ∧ p.2 ≤ q.2))
theorem lexLe_iff {p q : Int × Int} : lexLe p q = true ↔ p.1 < q.1 ∨ (p.1 = q.1 ∧ p.2 ≤ q.2) := by unfold lexLe; exact decide_eq_true_iff
theorem lexLe_trans (a b c : Int × Int) (h1 : lexLe a b = true) (h2 : lexLe b c = true) : lexLe a c = true := by rw [lexLe_iff] at *; omega
theorem lexLe_total (a b : Int × Int) : (lexLe a b || lexLe b a) = true := by
  rw [Bool.or_eq_true, lexLe_iff, lexLe_iff]; omega
theorem lexLe_anti (a b : Int × Int) (h1 : lexLe a b = true) (h2 : lexLe b a = true) : a = b := by
  rw [lexLe_iff] at h1 h2
  exact Prod.ext (by omega) (by omega)
def sortP (as : List (Int × Int)) : List (Int × Int) := as.mergeSort lexLe
theorem sortP_perm (as : List (Int × Int)) : (sortP as).Perm as := List.mergeSort_perm _ _
theorem sortP_sorted (as : List (Int × Int)) : (sortP as).Pairwise fun a b => lexLe a b = true := List.pairwise_mergeSort lexLe_trans lexLe_total _
theorem sortP_uniq {as bs : List (Int × Int)} (hp : bs.Perm as) (hs : bs.Pairwise fun a b => lexLe a b = true) : bs = sortP as :=
  List.Perm.eq_of_pairwise (fun a b _ _ => lexLe_anti a b) hs (sortP_sorted as) (hp.trans (sortP_perm as).symm)
/-- the ints of a pair that stands in the heap -/
def pairK (H : Hp) (v : V) : Int × Int := match v with
  | .ref t => match H t with
    | some (.tup [.int i, .int j]) => (i, j)
    | _ => (0, 0)
  | _ => (0, 0)
theorem pairK_of {W : Wc} {H : Hp} {v : V} {a : Int × Int} (h : den W H v a) : pairK H v = a ∧ ∃ t, v = V.ref t ∧ H t = some (.tup [.int (pairK H v).1, .int (pairK H v).2]) := by
  obtain ⟨p, x, y, hv, s, h1, h2⟩ := h
  have h1' : x = V.int a.1 := h1
  have h2' : y = V.int a.2 := h2
  subst h1' h2' hv
  have e : pairK H (.ref p) = a := by
    show (match H p with
      | some (.tup [.int i, .int j]) => (i, j)
      | _ => ((0 : Int), (0 : Int))) = a
    rw [s.2]
  exact ⟨e, p, rfl, by rw [e]; exact s.2⟩
theorem dl_pairK {W : Wc} {H : Hp} : ∀ {vs : List V} {as : List (Int × Int)}, Dl (den W H) vs as → vs.map (pairK H) = as
  | _, _, .nil => rfl
  | _, _, .cons x y => by rw [List.map_cons, (pairK_of x).1, dl_pairK y]
theorem Dl.mem {α : Type} {f : V → α → Prop} {v : V} : ∀ {vs : List V} {as : List α}, Dl f vs as → v ∈ vs → ∃ a, a ∈ as ∧ f v a
  | _, _, .nil, h => nomatch h
  | _, _, .cons x y, h => by
    rcases List.mem_cons.mp h with rfl | h
    · exact ⟨_, List.mem_cons_self, x⟩
    · obtain ⟨a, h1, h2⟩ := y.mem h
      exact ⟨a, List.mem_cons_of_mem _ h1, h2⟩
theorem dl_of_map {W : Wc} {H : Hp} : ∀ {vs : List V}, (∀ v ∈ vs, ∃ a : Int × Int, den W H v a) → Dl (den W H) vs (vs.map (pairK H))
  | [], _ => .nil
  | v :: r, h => by
    obtain ⟨a, d⟩ := h v List.mem_cons_self
    refine .cons ?_ (dl_of_map fun w hw => h w (List.mem_cons_of_mem _ hw))
    rw [(pairK_of d).1]
    exact d
theorem evF_sortedP {k : List (Int × Int) → Prop} (hK : W.B.K = K) (h : EvK W te Γ fun as : List (Int × Int) => k (sortP as)) : EvF W (tCB (rSortedPO K) (tCons te tNil)) Γ k := by
  subst hK
  refine fun σ H Q E c => h σ H _ E fun v H1 as e1 ⟨p, vs, hv, hp, hd⟩ z => ?_
  refine ⟨p, vs, pairK H1, by rw [hv], hp.sq, fun x hx => ?_, fun ys q hs hb hn => ?_⟩
  · obtain ⟨a, _, d⟩ := hd.mem hx
    exact (pairK_of d).2
  · have hperm : ys.Perm vs := hb.perm
    have e2 : ys.map (pairK H1) = sortP as := by
      refine sortP_uniq ?_ ?_
      · have := hperm.map (pairK H1)
        rw [dl_pairK hd] at this
        exact this
      · refine List.pairwise_map.mpr (List.Pairwise.imp (fun {a b} hab => ?_) hs)
        have hab' := SrtO.lexB_no.mp hab
        rw [lexLe_iff]
        omega
    have hd2 : Dl (den W H1) ys (sortP as) := by
      rw [← e2]
      exact dl_of_map fun w hw => by
        obtain ⟨a, _, d⟩ := hd.mem (hperm.mem_iff.mp hw)
        exact ⟨a, d⟩
    have e3 := Ext.new (o := .lst ys) e1.ok hn
    exact c q _ ys (sortP as) (fresh_back e1.ok e1 hn) (e1.trans e3) upd_same (hd2.imp fun _ _ d => Rep.mono (W := W.toWc.plus q) (fun b o m z => by rw [upd_ne (ne_of_none z hn)]; exact z) (Rep.grow q hn d)) z
theorem dl_bls {vs : List V} {as : List Bool} (h : Dl (fun v (a : Bool) => v = .bl a) vs as) : vs = as.map V.bl := by
  induction h with
  | nil => rfl
  | cons x _ ih => rw [x, ih]; rfl
theorem ev_any {k : Bool → Prop} (hK : W.B.K = K) (h : EvK W te Γ fun as : List Bool => k (as.any id)) : EvK W (tCB (rAny K) (tCons te tNil)) Γ k := by
  subst hK
  exact fun σ H Q E c => h σ H _ E fun v H1 as e1 ⟨p, vs, hv, hp, hd⟩ z => ⟨p, as, by rw [hv], by rw [← dl_bls hd]; exact hp.sq, c _ H1 _ e1 rfl z⟩
theorem ev_all {k : Bool → Prop} (hK : W.B.K = K) (h : EvK W te Γ fun as : List Bool => k (as.all id)) : EvK W (tCB (rAll K) (tCons te tNil)) Γ k := by
  subst hK
  exact fun σ H Q E c => h σ H _ E fun v H1 as e1 ⟨p, vs, hv, hp, hd⟩ z => ⟨p, as, by rw [hv], by rw [← dl_bls hd]; exact hp.sq, c _ H1 _ e1 rfl z⟩
theorem ev_sum {k : Int → Prop} (hK : W.B.K = K) (h : EvK W te Γ fun as : List Int => k as.sum) : EvK W (tCB (rSum K) (tCons te tNil)) Γ k := by
  subst hK
  exact fun σ H Q E c => h σ H _ E fun v H1 as e1 ⟨p, vs, hv, hp, hd⟩ z => ⟨p, as, by rw [hv], by rw [← Dl.ints hd]; exact hp.sq, c _ H1 _ e1 rfl z⟩
/-- a list as a test -/
theorem et_truthL {α : Type} {rα : Rep α} {k : Bool → Prop} (hK : W.B.K = K) (h : EvK W te Γ fun as : List α => k (!as.isEmpty)) : EvT W (fun σ H Q => te σ H fun x H' => ∃ k, TruV K x H' k ∧ Q k H') Γ k := by
  subst hK
  refine fun σ H Q E c => h σ H _ E fun v H1 as e1 ⟨p, vs, hv, hp, hd⟩ z => ⟨!as.isEmpty, ?_, c H1 _ e1 z⟩
  subst hv
  refine .inl ⟨vs, hp.sq, ?_⟩
  cases hd <;> rfl
theorem ev_cmethZ {α : Type} {rα : Rep α} {k : α → Prop} (c : Cn) (hB : W.B = B) (hC : B.cl c = C) (hx : HX W Γ E x) (h : EvA W ta Γ fun ts => P (fun t => ∃ a : α, t = T a ∧ k a) x (T (Cv.mk c) :: ts)) : EvK W (tCMethZ C (spG B P) E ta) Γ k := by
  subst hB
  subst hC
  exact fun σ H Q G q => h σ H _ G fun vs H1 ts e1 d z => ⟨W, _, _, x, rfl, e1.ok, .cons (t := T (Cv.mk c)) rfl d, z, fun v H2 t e2 dt ⟨a, ea, qq⟩ => by
    subst ea
    exact q v H2 a (e1.trans e2) dt qq, hx σ H1 (G.ext e1)⟩
theorem ev_propZ {α β : Type} {rα : Rep α} {rβ : Rep β} {k : α → Prop} (hB : W.B = B)
    (h : EvK W te Γ fun s : β => OwnG β B C (P (fun t => ∃ a : α, t = T a ∧ k a) (fun _ => False) [T s])) : EvK W (tPropZ C (spG B P) te) Γ k := by
  subst hB
  refine fun σ H Q G c => h σ H _ G fun v H1 s e1 d ⟨cc, fl, iβ, hC, z⟩ => ?_
  subst hC
  obtain ⟨p, dp, fs, hv, _, hH, _⟩ := iβ.at_ d
  refine ⟨p, dp, fs, hv, hH, W, _, _, _, rfl, e1.ok, .cons (t := T s) (by rw [← hv]; exact d) .nil, z, fun v H3 t e3 dt ⟨a, ea, q⟩ => by
    subst ea
    exact c v H3 a (e1.trans e3) dt q, fun n d2 H2 _ _ q => q.elim⟩
theorem ev_makeV {α : Type} {rα : Rep α} {c : Cn} {sp : Sp} {i : Nat} {k : α → Prop} (hB : W.B = B) (hC : B.cl c = C) (hi : Γ[i]? = some (some (T (Cv.mk c)))) (h : EvK W (tMakeZ C sp E ta) Γ k) : EvK W (tMakeV i C sp E ta) Γ k := by
  subst hB
  subst hC
  exact fun σ H Q G q => by
    obtain ⟨v, h1, h2⟩ := G.at_ i _ hi
    exact ⟨v, h1, h2, h σ H Q G q⟩
/-- a star call's items from a list, a tuple -/
theorem el_starL {α : Type} {rα : Rep α} {k : List α → Prop} (hK : W.B.K = K) (h : EvK W te Γ fun as : List α => k as) : EvL W (tStarZ K te) Γ k := by
  subst hK
  exact fun σ H Q E c => h σ H _ E fun v H1 as e1 ⟨p, vs, hv, hp, hd⟩ z => ⟨p, vs, hv, .inr hp.sq, c vs H1 as e1 hd z⟩
theorem el_starT {α : Type} {rα : Rep α} {k : List α → Prop} (hK : W.B.K = K) (h : EvK W te Γ fun as : Tl α => k as.xs) : EvL W (tStarZ K te) Γ k := by
  subst hK
  exact fun σ H Q E c => h σ H _ E fun v H1 as e1 ⟨p, vs, hv, hp, hd⟩ z => ⟨p, vs, hv, .inl hp.sq, c vs H1 as.xs e1 hd z⟩
end
structure Lvs where
  ps : List Stc
  deriving DecidableEq
instance : Rep Lvs :=
  ⟨fun W H v l => ∃ a dx y, v = .ref a ∧ ¬ W.mu a ∧ H a = some (.ins (W.B.cl .Levels) dx [("_pieces", y)]) ∧ den W H y l.ps,
   fun e ⟨a, dx, y, hv, m, h, d⟩ => ⟨a, dx, y, hv, m, e _ _ m h, Rep.mono e d⟩,
   fun D n ⟨a, dx, y, hv, m, h, d⟩ => ⟨a, dx, y, hv, mu_grow n m h, h, Rep.grow D n d⟩,
   fun D ⟨a, dx, y, hv, m, h, d⟩ => ⟨a, dx, y, hv, fun z => m (.inl z), h, Rep.shrink D d⟩⟩
instance : Ins Lvs .Levels ["_pieces"] := ⟨fun ⟨a, dx, y, hv, m, h, _⟩ => ⟨a, dx, _, hv, m, h, rfl⟩⟩
instance : Pln Lvs := ⟨fun ⟨a, dx, y, hv, _⟩ => .inl ⟨a, hv⟩⟩
structure LvsT (B : Bs) : Prop where
  cl : Cls B.K (B.cl .Levels)
  np : NoAttr B.K (B.cl .Levels) "_pieces"
theorem lvs_of {W : Wd} {B : Bs} (h : W.B = B) (s : LvsT B) : LvsT W.B := h ▸ s
section
variable {W : Wd} {Γ : Gam} {ta : TA} {te tb to tl : TE} {tt : TT} {g : TG} {B : Bs} {P : PT} {E : L2.St → XK} {x : Xn → Prop} {C : Addr} {K : PySem.W.Frag}
theorem ev_pieces {k : List Stc → Prop} (hK : W.B.K = K) (hL : LvsT W.B) (h : EvK W te Γ fun s : Lvs => k s.ps) : EvK W (tFld K te "_pieces") Γ k := by
  subst hK
  refine fun σ H Q E c => h σ H _ E fun v H1 s e1 ⟨a, dx, y, hv, m, hH, d⟩ z => ?_
  exact ⟨a, _, dx, _, y, hv, hH, hL.cl, hL.np, by simp [List.lookup], c y H1 _ e1 d z⟩
/-- the fewest pieces: pairs in order are joined -/
def joinStep (acc : List (Int × Int)) (p : Int × Int) : List (Int × Int) := match acc.getLast? with
  | some q => if p.1 ≤ q.2 + 1 then acc.dropLast ++ [(q.1, max q.2 p.2)] else acc ++ [p]
  | none => [p]
def joinF (ps : List (Int × Int)) : List (Int × Int) := ps.foldl joinStep []
def mkStc (p : Int × Int) : Stc := ⟨p.1, p.2⟩
def stcE (s : Stc) : Int × Int := (s.lo, s.hi)
def unionF (ps : List (Int × Int)) : List (Int × Int) := joinF (sortP ps)
def lvF (ss : List Stc) : List Stc := (unionF (ss.map stcE)).map mkStc
/-- __init__ of Levels, its stretches a tuple -/
def spLI (B : Bs) : Sp := fun vs H Q E => ∃ (W : Wd) (p dx q : Addr) (ss : List Stc), vs = [.ref p, .ref q] ∧ H p = some (.ins (B.cl .Levels) dx []) ∧ W.B = B ∧ W.ok H ∧ ¬ W.mu p ∧ den W H (.ref q) (Tl.mk ss) ∧ ss.length ≤ 1000 ∧ (∀ s ∈ ss, s.lo ≤ s.hi) ∧
  ∀ H' y, Ext W H H' → den W H' y (lvF ss) → Q .non (upd H' p (.ins (B.cl .Levels) dx [("_pieces", y)]))
/-- .. as a call sees it -/
def spLS (B : Bs) : Sp := fun vs H Q E => ∃ ws rest, vs = ws ++ rest ∧ ws.length = 1 ∧ rest.length ≤ sizeLine ∧ ∀ p, H p = Option.none → spLI B (ws ++ [V.ref p]) (upd H p (.tup rest)) Q E
theorem ev_levels {k : Lvs → Prop} (hB : W.B = B) (hC : B.cl .Levels = C) (h : EvL W ta Γ fun ss : List Stc => (ss.length ≤ 1000 ∧ ∀ s ∈ ss, s.lo ≤ s.hi) ∧ k ⟨lvF ss⟩) : EvK W (tMakeZ C (spLS B) E ta) Γ k := by
  subst hB
  subst hC
  refine fun σ H Q G c => h σ H _ G fun vs H1 ss e1 d ⟨⟨hl, ho⟩, z⟩ xx dx nx ndx nex => ?_
  have o := e1.ok
  have m1 := fresh_mu o ndx
  have m2 := fresh_mu o nx
  have ok3 : W.ok (upd (upd H1 dx (.own xx)) xx (.ins (W.B.cl .Levels) dx [])) := W.st _ _ _ (W.st _ _ _ o m1) m2
  have e3 : Ext W H1 (upd (upd H1 dx (.own xx)) xx (.ins (W.B.cl .Levels) dx [])) := ⟨fun a u _ q => by rw [upd_ne (ne_of_none q nx), upd_ne (ne_of_none q ndx)]; exact q, ok3⟩
  refine ⟨[V.ref xx], vs, rfl, rfl, Nat.le_trans (by rw [d.length]; omega : vs.length ≤ 1000) (by decide), fun p hp => ?_⟩
  have e4 := Ext.new (o := .tup vs) ok3 hp
  have hpx : xx ≠ p := fun e => by rw [← e, upd_same] at hp; cases hp
  refine ⟨W, xx, dx, p, ss, rfl, by rw [upd_ne hpx, upd_same], rfl, e4.ok, m2, ⟨p, vs, rfl, Tq.new (fresh_mu ok3 hp) upd_same, d.imp fun _ _ y => Rep.mono (e3.trans e4).keep y⟩, hl, ho, fun H' y e5 dy => ⟨rfl, ?_⟩⟩
  have e6 := (e3.trans e4).trans e5
  have nxH' : ∀ a u, H1 a = some u → a ≠ xx := fun a u q => ne_of_none q nx
  have k7 : Kp W.toWc H1 (upd H' xx (.ins (W.B.cl .Levels) dx [("_pieces", y)])) := fun a u m q => by rw [upd_ne (nxH' a u q)]; exact e6.keep a u m q
  have hx' : H' xx = some (.ins (W.B.cl .Levels) dx []) := (e4.trans e5).keep xx _ m2 upd_same
  refine c (.ref xx) _ ⟨lvF ss⟩ (e1.trans ⟨k7, W.st _ _ _ e6.ok m2⟩) ⟨xx, dx, y, rfl, m2, upd_same, ?_⟩ z
  -- the pieces do not lean on the new object itself
  obtain ⟨p2, ws, hv, hq, hw⟩ := dy
  have ne2 : p2 ≠ xx := fun e => by have := hq.2; rw [e, hx'] at this; cases this
  refine ⟨p2, ws, hv, ⟨hq.1, by rw [upd_ne ne2]; exact hq.2⟩, hw.imp fun v s ⟨a, da, hv2, ma, ha⟩ => ⟨a, da, hv2, ma, ?_⟩⟩
  have ne3 : a ≠ xx := fun e => by
    rw [e, hx'] at ha
    injection ha with ha
    injection ha with _ _ ha
    cases ha
  rw [upd_ne ne3]
  exact ha
end
end G
set_option Elab.async false
set_option linter.all false
set_option maxRecDepth 100000
set_option maxHeartbeats 2000000
namespace G
open PySem PySem.Spec PyProof.Rows L2 StX
section
variable {X : Cx} {CX : CXT} {k n : Nat} {f g C p : Addr} {sp : Sp} {E : XK}
def rStrO (C : Addr) (sp : Sp) (E : XK) : List V → Hp → VK → Prop := fun xs H Q => ∃ a dx fs, xs = [.ref a] ∧ H a = some (.ins C dx fs) ∧ sp [.ref a] H (fun v H' => ∃ y, v = .str y ∧ Q (.str y) H') E
def rLenO (C : Addr) (sp : Sp) (E : XK) : List V → Hp → VK → Prop := fun xs H Q => ∃ a dx fs, xs = [.ref a] ∧ H a = some (.ins C dx fs) ∧ sp [.ref a] H (fun v H' => ∃ i : Int, v = .int i ∧ (0 ≤ i ∧ i < 2 ^ 63) ∧ Q (.int i) H') E
end
section
variable {W : Wd} {Γ : Gam} {ta : TA} {te tb to tl : TE} {B : Bs} {P : PT} {E : XK} {x : Xn → Prop} {C C2 : Addr} {K : PySem.W.Frag}
theorem ev_strO {β : Type} {rβ : Rep β} {k : Str → Prop} (hB : W.B = B) (h : EvK W te Γ fun s : β => OwnG β B C (P (fun t => ∃ y : Str, t = T y ∧ k y) (fun _ => False) [T s])) : EvK W (tCB (rStrO C (spG B P) E) (tCons te tNil)) Γ k := by
  subst hB
  refine fun σ H Q G c => h σ H _ G fun v H1 s e1 d ⟨cc, fl, iβ, hC, z⟩ => ?_
  subst hC
  obtain ⟨p, dp, fs, hv, _, hH, _⟩ := iβ.at_ d
  exact ⟨p, dp, fs, by rw [hv], hH, W, _, _, _, rfl, e1.ok, .cons (t := T s) (by rw [← hv]; exact d) .nil, z, fun v H3 t e3 dt ⟨a, ea, q⟩ => by
    subst ea
    exact ⟨a, dt, c _ H3 a (e1.trans e3) rfl q⟩, fun n d2 H2 _ _ q => q.elim⟩
theorem ev_lenO {β : Type} {rβ : Rep β} {k : Int → Prop} (hB : W.B = B) (h : EvK W te Γ fun s : β => OwnG β B C (P (fun t => ∃ y : Int, t = T y ∧ (0 ≤ y ∧ y < 2 ^ 63) ∧ k y) (fun _ => False) [T s])) : EvK W (tCB (rLenO C (spG B P) E) (tCons te tNil)) Γ k := by
  subst hB
  refine fun σ H Q G c => h σ H _ G fun v H1 s e1 d ⟨cc, fl, iβ, hC, z⟩ => ?_
  subst hC
  obtain ⟨p, dp, fs, hv, _, hH, _⟩ := iβ.at_ d
  exact ⟨p, dp, fs, by rw [hv], hH, W, _, _, _, rfl, e1.ok, .cons (t := T s) (by rw [← hv]; exact d) .nil, z, fun v H3 t e3 dt ⟨a, ea, hb, q⟩ => by
    subst ea
    exact ⟨a, dt, hb, c _ H3 a (e1.trans e3) rfl q⟩, fun n d2 H2 _ _ q => q.elim⟩
/-- texts -/
theorem ev_addS {k : Str → Prop} (h : EvK W te Γ fun a : Str => EvK W tb Γ fun b : Str => a.length + b.length ≤ 1000000 ∧ k (a ++ b)) : EvK W (tOp (fun x y H Q => ∃ i j, x = .str i ∧ y = .str j ∧ i.length + j.length ≤ sizeLine ∧ Q (.str (i ++ j)) H) te tb) Γ k :=
  ev_two (h.imp fun a ha => ha.imp fun b ⟨hl, z⟩ x y H Q o dx dy c => ⟨a, b, dx, dy, Nat.le_trans hl (by decide), c _ H _ (Ext.refl o) rfl z⟩)
theorem ev_strI {k : Str → Prop} (h : EvK W te Γ fun i : Int => Small i ∧ k (toString i)) : EvK W (tCB (fun xs H Q => ∃ i, xs = [.int i] ∧ i.natAbs.log2 < 1920 ∧ Q (.str (toString i)) H) (tCons te tNil)) Γ k := fun σ H Q G c =>
  h σ H _ G fun v H1 i e1 d ⟨s, z⟩ => ⟨i, congrArg (fun x => [x]) d, s, c _ H1 _ e1 rfl z⟩
instance : HasTy Lvs fun B => .ref (B.cl .Levels) := ⟨fun ⟨a, dx, y, hv, m, h, _⟩ => by subst hv; exact .ins h⟩
end
theorem strOk_of (s : String) : PyData.strOk (Str.ofString s) = true := by
  rw [Str.ofString_eq_toList]
  unfold PyData.strOk
  rw [Array.all_eq_true']
  intro x hx
  simp only [List.mem_toArray, List.mem_map] at hx
  obtain ⟨c, _, rfl⟩ := hx
  have := c.valid
  rcases this with h | ⟨_, h⟩
  · exact decide_eq_true (Nat.lt_trans h (by decide))
  · exact decide_eq_true h
theorem str_app_cps (a b : Str) : (a ++ b).cps = a.cps ++ b.cps := rfl
theorem strOk_app {a b : Str} (h1 : PyData.strOk a = true) (h2 : PyData.strOk b = true) : PyData.strOk (a ++ b) = true := by
  unfold PyData.strOk at *
  rw [str_app_cps, Array.all_append, h1, h2]; rfl
theorem strOk_emp : PyData.strOk Str.empty = true := by simp [PyData.strOk, Str.empty]
theorem emp_len : Str.empty.length = 0 := rfl
section
variable {W : Wd} {Γ : Gam} {ta : TA} {te tb to tl : TE} {K : PySem.W.Frag}
theorem ev_sortedP {k : List (Int × Int) → Prop} (hK : W.B.K = K) (h : EvK W te Γ fun as : List (Int × Int) => k (sortP as)) : EvK W (tCB (rSortedPO K) (tCons te tNil)) Γ k := (evF_sortedP hK h).k
end
/-- a chain whose last part is plain -/
def ChG (W : Wd) (te : TE) (Γ : Gam) (k : Int → Prop) : Prop := ∃ l : Int, EvK W te Γ (fun a => a = l) ∧ k l
theorem chg_in {W : Wd} {te : TE} {Γ : Gam} {k : Int → Prop} {l : Int} (h1 : EvK W te Γ fun a => a = l) (h : k l) : ChG W te Γ k := ⟨l, h1, h⟩
theorem ev_chainP {W : Wd} {ta tb tc : TE} {Γ : Gam} {f g : Int → Int → Bool} {k : Bool → Prop} (h : EvK W ta Γ fun i : Int => EvK W tb Γ fun j : Int => ChG W tc Γ fun l => k (f i j && g j l)) :
    EvK W (tChain (rI0 fun i j => .bl (f i j)) (rI0 fun i j => .bl (g i j)) ta tb tc) Γ k :=
  ev_chain (h.imp fun i hi => hi.imp fun j ⟨l, h1, h2⟩ => ⟨fun e => h1.imp fun a ea => by rw [ea]; rw [e, Bool.true_and] at h2; exact h2, fun e => by rw [e, Bool.false_and] at h2; exact h2⟩)
section
variable {α : Type} {r : Rep α} {W : Wd} {Γ : Gam} {ta : TA} {te tb to : TE} {tt : TT} {ts : TS} {k : α → Prop} {kb : Bool → Prop} {kt : List Ty → Prop} {kl : List α → Prop} {R : Po} {K : PySem.W.Frag}
theorem gd_s (h : Sx W ts Γ R) : Sx W ts Γ R := h
theorem gd_set {i : Nat} {v : Option Ty} (h : Sx W ts (Γ.set i v) R) : Sx W ts (Γ.set i v) R := h
theorem gd_k (h : EvK W te Γ k) : EvK W te Γ k := h
theorem gd_var {i : Nat} (h : EvK W (tVar i) Γ k) : EvK W (tVar i) Γ k := h
theorem gd_c {v : V} (h : EvK W (tC v) Γ k) : EvK W (tC v) Γ k := h
theorem gd_op {q : R2} (h : EvK W (tOp q te tb) Γ k) : EvK W (tOp q te tb) Γ k := h
theorem gd_un {q : V → Hp → VK → Prop} (h : EvK W (tUn q te) Γ k) : EvK W (tUn q te) Γ k := h
theorem gd_cb {q : List V → Hp → VK → Prop} (h : EvK W (tCB q ta) Γ k) : EvK W (tCB q ta) Γ k := h
theorem gd_fld {f : Str} (h : EvK W (tFld K te f) Γ k) : EvK W (tFld K te f) Γ k := h
theorem gd_call {sp : Sp} {E : XK} (h : EvK W (tCallR sp E ta) Γ k) : EvK W (tCallR sp E ta) Γ k := h
theorem gd_tup (h : EvK W (tTup ta) Γ k) : EvK W (tTup ta) Γ k := h
theorem gd_lst (h : EvK W (tLst ta) Γ k) : EvK W (tLst ta) Γ k := h
theorem gd_t (h : EvT W tt Γ kb) : EvT W tt Γ kb := h
theorem gd_a (h : EvA W ta Γ kt) : EvA W ta Γ kt := h
theorem gd_l (h : EvL W ta Γ kl) : EvL W ta Γ kl := h
theorem gd_j {tj : List TE} {acc : Str} {ks : Str → Prop} (h : EvJ W tj Γ acc ks) : EvJ W tj Γ acc ks := h
end
end G
set_option Elab.async false
set_option linter.all false
namespace G
open PySem
end G
set_option Elab.async false
set_option linter.all false
set_option maxRecDepth 100000
set_option maxHeartbeats 2000000
namespace G
open PySem PySem.Spec PyProof.Rows L2 StX
end G
namespace G
open PySem PySem.Spec PyProof.Rows L2 StX
end G
set_option Elab.async false
set_option linter.all false
set_option maxRecDepth 100000
set_option maxHeartbeats 2000000
namespace G
open PySem PySem.Spec PyProof.Rows L2 StX
theorem turns {J : It} {n : Nat} {B : V → Hp → (Hp → Prop) → Prop} {Zf : Hp → Prop} {H0 : Hp} (P : Nat → Hp → Prop) (h0 : P 0 H0) (hgo : ∀ i H, i < n → P i H → J.go i H) (hst : ∀ H, P n H → J.stop n H)
    (hs : ∀ i H x H', i < n → P i H → J.yld i H x H' → B x H' (P (i + 1))) (hd : ∀ H, P n H → Zf H) :
    ∃ W : Nat → Nat → Hp → Prop, (∃ m, W 0 m H0) ∧ ∀ i m H, W i m H → (J.stop i H ∧ Zf H) ∨ (J.go i H ∧ ∃ Z : Hp → Prop, (∀ H', Z H' → ∃ m', m' < m ∧ W (i + 1) m' H') ∧ ∀ x H', J.yld i H x H' → B x H' Z) := by
  refine ⟨fun i m H => m + i = n ∧ P i H, ⟨n, rfl, h0⟩, fun i m H ⟨e, p⟩ => ?_⟩
  rcases Nat.eq_zero_or_pos m with hm | hm
  · have hi : i = n := by omega
    subst hi
    exact .inl ⟨hst H p, hd H p⟩
  · exact .inr ⟨hgo i H (by omega) p, P (i + 1), fun H' p' => ⟨m - 1, by omega, by omega, p'⟩, fun x H' y => hs i H x H' (by omega) p y⟩
structure IS where
  w : World
  S : Int → Bool
  n : Nat
instance : Rep IS := ⟨fun W H v s => ∃ a, v = .ref a ∧ ¬ W.mu a ∧ H a = some (SetO s.w a s.S s.n), fun e ⟨a, hv, m, h⟩ => ⟨a, hv, m, e _ _ m h⟩, fun D n ⟨a, hv, m, h⟩ => ⟨a, hv, mu_grow n m h, h⟩, fun D ⟨a, hv, m, h⟩ => ⟨a, hv, fun z => m (.inl z), h⟩⟩
end G
set_option Elab.async false
set_option linter.all false
set_option maxRecDepth 100000
set_option maxHeartbeats 2000000
namespace G
open PySem PySem.Spec PyProof.Rows L2 StX
end G
set_option Elab.async false
set_option linter.all false
namespace G
open PySem
end G
set_option Elab.async false
set_option linter.all false
set_option maxRecDepth 100000
set_option maxHeartbeats 2000000
namespace G
open PySem PySem.Spec PyProof.Rows L2 StX
instance {α : Type} [Rep α] : PyTy (List α) "list" := ⟨fun ⟨p, vs, hv, s, _⟩ => by subst hv; exact .base (.lst s.2)⟩
instance {α β : Type} [Rep α] [Rep β] : PyTy (α × β) "tuple" := ⟨fun ⟨p, x, y, hv, s, _⟩ => by subst hv; exact .base (.tup s.2)⟩
section
variable {W : Wd} {Γ : Gam} {ta tb te : TE} {t : TS} {g : TG} {K : PySem.W.Frag}
/-- x in a list of ints -/
theorem inV_ints (x : Int) (as : List Int) : inV (V.int x) (as.map V.int) = decide (x ∈ as) := by
  have h : inV (V.int x) (as.map V.int) = as.any fun a => a == x := by
    unfold inV
    rw [List.any_map]
    rfl
  rw [h, Bool.eq_iff_iff, List.any_eq_true, decide_eq_true_iff]
  exact ⟨fun ⟨a, ha, e⟩ => by rw [← eq_of_beq e]; exact ha, fun hx => ⟨x, hx, beq_self_eq_true x⟩⟩
theorem flat_ints (as : List Int) : (as.map V.int).all flatV = true := by
  rw [List.all_eq_true]
  intro v hv
  obtain ⟨a, _, rfl⟩ := List.mem_map.mp hv
  rfl
theorem ev_inI {k : Bool → Prop} (hK : W.B.K = K) (h : EvK W ta Γ fun x : Int => EvK W tb Γ fun as : List Int => k (decide (x ∈ as))) : EvK W (tOp (rIn K false) ta tb) Γ k := by
  subst hK
  refine ev_two (h.imp fun x hx => hx.imp fun as z v u H Q o dx ⟨p, vs, hu, hp, hd⟩ c => ?_)
  have dx' : v = V.int x := dx
  subst dx' hu
  have e := Dl.ints hd
  refine ⟨p, vs, rfl, .inl hp.sq, rfl, by rw [e]; exact flat_ints as, c _ H _ (Ext.refl o) ?_ z⟩
  show V.bl (inV (V.int x) vs) = _
  rw [e, inV_ints]
theorem ev_notInI {k : Bool → Prop} (hK : W.B.K = K) (h : EvK W ta Γ fun x : Int => EvK W tb Γ fun as : List Int => k (!decide (x ∈ as))) : EvK W (tOp (rIn K true) ta tb) Γ k := by
  subst hK
  refine ev_two (h.imp fun x hx => hx.imp fun as z v u H Q o dx ⟨p, vs, hu, hp, hd⟩ c => ?_)
  have dx' : v = V.int x := dx
  subst dx' hu
  have e := Dl.ints hd
  refine ⟨p, vs, rfl, .inl hp.sq, rfl, by rw [e]; exact flat_ints as, c _ H _ (Ext.refl o) ?_ z⟩
  show V.bl (!inV (V.int x) vs) = _
  rw [e, inV_ints]
end
end G
set_option Elab.async false
set_option linter.all false
set_option maxRecDepth 100000
set_option maxHeartbeats 2000000
namespace G
open PySem PySem.Spec PyProof.Rows L2 StX
section
variable {W : Wd} {Γ : Gam} {ta tb te : TE} {K : PySem.W.Frag}
/-- the third item of three -/
theorem ev_ixT3c {α β γ : Type} {rα : Rep α} {rβ : Rep β} {rγ : Rep γ} {k : γ → Prop} (hK : W.B.K = K) (h : EvK W ta Γ fun p : T3 α β γ => k p.c) : EvK W (tOp (rIxT K) ta (tC (.int 2))) Γ k := by
  subst hK
  refine fun σ H Q E c => h σ H _ E fun v H1 a e1 ⟨p, x, y, z, hv, s, d1, d2, d3⟩ q => ?_
  exact ⟨p, _, 2, z, hv, rfl, s.sq, rfl, c _ H1 _ e1 d3 q⟩
end
end G
set_option Elab.async false
set_option linter.all false
set_option maxRecDepth 100000
set_option maxHeartbeats 2000000
namespace G
open PySem PySem.Spec PyProof.Rows L2 StX
end G
set_option Elab.async false
set_option linter.all false
set_option maxRecDepth 100000
set_option maxHeartbeats 2000000
namespace G
open PySem PySem.Spec PyProof.Rows L2 StX
end G
set_option Elab.async false
set_option linter.all false
set_option maxRecDepth 100000
set_option maxHeartbeats 2000000
namespace G
open PySem PySem.Spec PyProof.Rows L2 StX
instance : HasTy Lvs fun B => .ref (B.cl .Levels) := ⟨fun ⟨a, dx, y, hv, m, h, _⟩ => by subst hv; exact .ins h⟩
end G
namespace G
open PySem
end G
namespace G
end G
set_option Elab.async false
set_option linter.all false
set_option maxRecDepth 100000
set_option maxHeartbeats 2000000
namespace G
open PySem PySem.Spec PyProof.Rows L2 StX
end G
set_option Elab.async false
set_option linter.all false
set_option maxRecDepth 100000
set_option maxHeartbeats 2000000
namespace G
open PySem PySem.Spec PyProof.Rows L2 StX
end G
namespace G
open PySem PySem.Spec PyProof.Rows L2 StX
end G
set_option Elab.async false
set_option linter.all false
set_option maxRecDepth 100000
set_option maxHeartbeats 2000000
namespace G
open PySem PySem.Spec PyProof.Rows L2 StX
def RngO (a : Addr) (lo hi : Int) : HO := .ext fun h => ∃ t u v, IsRange h a lo hi 1 t u v
structure Rg where
  lo : Int
  hi : Int
instance : Rep Rg := ⟨fun W H v r => ∃ a, v = .ref a ∧ ¬ W.mu a ∧ H a = some (RngO a r.lo r.hi), fun e ⟨a, hv, m, h⟩ => ⟨a, hv, m, e _ _ m h⟩, fun D n ⟨a, hv, m, h⟩ => ⟨a, hv, mu_grow n m h, h⟩, fun D ⟨a, hv, m, h⟩ => ⟨a, hv, fun z => m (.inl z), h⟩⟩
end G
set_option Elab.async false
set_option linter.all false
set_option maxRecDepth 100000
set_option maxHeartbeats 2000000
namespace G
open PySem PySem.Spec PyProof.Rows L2 StX
end G
set_option Elab.async false
set_option linter.all false
set_option maxRecDepth 100000
set_option maxHeartbeats 2000000
namespace G
open PySem PySem.Spec PyProof.Rows L2 StX
abbrev Cls := Value × Nat × (Addr → Value → Option Addr → TS)
end G
namespace G
open PySem PySem.Spec PyProof.Rows L2 StX
end G
namespace G
open PySem PySem.Spec PyProof.Rows L2 StX
end G
set_option Elab.async false
set_option linter.all false
set_option maxRecDepth 100000
set_option maxHeartbeats 2000000
namespace G
open PySem PySem.Spec PyProof.Rows L2 StX
structure Li2 (α β : Type) where
  a : α
  b : β
  deriving DecidableEq
structure Li3 (α β γ : Type) where
  a : α
  b : β
  c : γ
  deriving DecidableEq
instance {α β : Type} [Rep α] [Rep β] : Rep (Li2 α β) :=
  ⟨fun W H v t => ∃ p x y, v = .ref p ∧ Lq W H p [x, y] ∧ den W H x t.a ∧ den W H y t.b,
   fun e ⟨p, x, y, hv, s, h1, h2⟩ => ⟨p, x, y, hv, s.mono e, Rep.mono e h1, Rep.mono e h2⟩,
   fun D n ⟨p, x, y, hv, s, h1, h2⟩ => ⟨p, x, y, hv, s.grow D n, Rep.grow D n h1, Rep.grow D n h2⟩,
   fun D ⟨p, x, y, hv, s, h1, h2⟩ => ⟨p, x, y, hv, s.shrink D, Rep.shrink D h1, Rep.shrink D h2⟩⟩
instance {α β γ : Type} [Rep α] [Rep β] [Rep γ] : Rep (Li3 α β γ) :=
  ⟨fun W H v t => ∃ p x y z, v = .ref p ∧ Lq W H p [x, y, z] ∧ den W H x t.a ∧ den W H y t.b ∧ den W H z t.c,
   fun e ⟨p, x, y, z, hv, s, h1, h2, h3⟩ => ⟨p, x, y, z, hv, s.mono e, Rep.mono e h1, Rep.mono e h2, Rep.mono e h3⟩,
   fun D n ⟨p, x, y, z, hv, s, h1, h2, h3⟩ => ⟨p, x, y, z, hv, s.grow D n, Rep.grow D n h1, Rep.grow D n h2, Rep.grow D n h3⟩,
   fun D ⟨p, x, y, z, hv, s, h1, h2, h3⟩ => ⟨p, x, y, z, hv, s.shrink D, Rep.shrink D h1, Rep.shrink D h2, Rep.shrink D h3⟩⟩
theorem eqvL2 (a b c d : PyData) : PyData.eqv (.list [a, b]) (.list [c, d]) = (PyData.eqv a c && PyData.eqv b d) := by
  show (PyData.eqv a c && (PyData.eqv b d && true)) = _
  rw [Bool.and_true]
theorem eqvL3 (a b c d e f : PyData) : PyData.eqv (.list [a, b, e]) (.list [c, d, f]) = (PyData.eqv a c && (PyData.eqv b d && PyData.eqv e f)) := by
  show (PyData.eqv a c && (PyData.eqv b d && (PyData.eqv e f && true))) = _
  rw [Bool.and_true]
instance {α β : Type} [Rep α] [Rep β] [Dat α] [Dat β] : Dat (Li2 α β) where
  toD := fun x => .list [Dat.toD x.a, Dat.toD x.b]
  dp := fun ⟨p, x, y, hv, s, h1, h2⟩ => by
    subst hv
    exact .lst s.sq (.cons (Dat.dp h1) (.cons (Dat.dp h2) .nil))
  dep := max (Dat.dep α) (Dat.dep β) + 1
  ddep := fun x => by
    have h1 := Dat.ddep x.a
    have h2 := Dat.ddep x.b
    show max (Dat.toD x.a).depth (max (Dat.toD x.b).depth 0) + 1 ≤ _
    omega
  inj := fun x y => by
    rw [eqvL2, Bool.and_eq_true, Dat.inj, Dat.inj]
    cases x; cases y
    exact ⟨fun h => by obtain ⟨h1, h2⟩ := h; cases h1; cases h2; rfl, fun h => by cases h; exact ⟨rfl, rfl⟩⟩
  good := fun x => Dat.good x.a ∧ Dat.good x.b
  gshp := fun x h => by
    have h1 := Dat.gshp _ h.1
    have h2 := Dat.gshp _ h.2
    show ((Dat.toD x.a).canLay0 && ((Dat.toD x.b).canLay0 && true)) = true
    rw [h1, h2]
    rfl
instance {α β γ : Type} [Rep α] [Rep β] [Rep γ] [Dat α] [Dat β] [Dat γ] : Dat (Li3 α β γ) where
  toD := fun x => .list [Dat.toD x.a, Dat.toD x.b, Dat.toD x.c]
  dp := fun ⟨p, x, y, z, hv, s, h1, h2, h3⟩ => by
    subst hv
    exact .lst s.sq (.cons (Dat.dp h1) (.cons (Dat.dp h2) (.cons (Dat.dp h3) .nil)))
  dep := max (Dat.dep α) (max (Dat.dep β) (Dat.dep γ)) + 1
  ddep := fun x => by
    have h1 := Dat.ddep x.a
    have h2 := Dat.ddep x.b
    have h3 := Dat.ddep x.c
    show max (Dat.toD x.a).depth (max (Dat.toD x.b).depth (max (Dat.toD x.c).depth 0)) + 1 ≤ _
    omega
  inj := fun x y => by
    rw [eqvL3, Bool.and_eq_true, Bool.and_eq_true, Dat.inj, Dat.inj, Dat.inj]
    cases x; cases y
    exact ⟨fun h => by obtain ⟨h1, h2, h3⟩ := h; cases h1; cases h2; cases h3; rfl, fun h => by cases h; exact ⟨rfl, rfl, rfl⟩⟩
  good := fun x => Dat.good x.a ∧ Dat.good x.b ∧ Dat.good x.c
  gshp := fun x h => by
    have h1 := Dat.gshp _ h.1
    have h2 := Dat.gshp _ h.2.1
    have h3 := Dat.gshp _ h.2.2
    show ((Dat.toD x.a).canLay0 && ((Dat.toD x.b).canLay0 && ((Dat.toD x.c).canLay0 && true))) = true
    rw [h1, h2, h3]
    rfl
theorem EvT.imp {W : Wd} {Γ : Gam} {tt : TT} {k k' : Bool → Prop} (h : EvT W tt Γ k) (i : ∀ b, k b → k' b) : EvT W tt Γ k' := fun σ H Q E q => h σ H Q E fun H' b e z => q H' b e (i b z)
end G
set_option Elab.async false
set_option linter.all false
set_option maxRecDepth 100000
set_option maxHeartbeats 2000000
namespace G
open PySem PySem.Spec PyProof.Rows L2 StX
def rBoolO (C : Addr) (sp : Sp) (E : XK) : List V → Hp → VK → Prop := fun xs H Q => ∃ a dx fs, xs = [.ref a] ∧ H a = some (.ins C dx fs) ∧ sp [.ref a] H (fun v H' => ∃ b, v = .bl b ∧ Q (.bl b) H') E
def rIxO (C : Addr) (sp : Sp) (E : XK) : R2 := fun x y H Q => ∃ a dx fs, x = .ref a ∧ H a = some (.ins C dx fs) ∧ sp [x, y] H Q E
end G
namespace G
open PySem PySem.Spec PyProof.Rows L2 StX
section
variable {W : Wd} {Γ : Gam} {ta : TA} {te tb to tl : TE} {B : Bs} {P : PT} {E : XK} {x : Xn → Prop} {C C2 : Addr} {K : PySem.W.Frag}
theorem ev_boolO {β : Type} {rβ : Rep β} {k : Bool → Prop} (hB : W.B = B) (h : EvK W te Γ fun s : β => OwnG β B C (P (fun t => ∃ y : Bool, t = T y ∧ k y) (fun _ => False) [T s])) : EvK W (tCB (rBoolO C (spG B P) E) (tCons te tNil)) Γ k := by
  subst hB
  refine fun σ H Q G c => h σ H _ G fun v H1 s e1 d ⟨cc, fl, iβ, hC, z⟩ => ?_
  subst hC
  obtain ⟨p, dp, fs, hv, _, hH, _⟩ := iβ.at_ d
  exact ⟨p, dp, fs, by rw [hv], hH, W, _, _, _, rfl, e1.ok, .cons (t := T s) (by rw [← hv]; exact d) .nil, z, fun v H3 t e3 dt ⟨a, ea, q⟩ => by
    subst ea
    exact ⟨a, dt, c _ H3 a (e1.trans e3) rfl q⟩, fun n d2 H2 _ _ q => q.elim⟩
theorem ev_ixO {α β γ : Type} {rα : Rep α} {rβ : Rep β} {rγ : Rep γ} {k : α → Prop} (hB : W.B = B) (h : EvK W te Γ fun s : β => EvK W tb Γ fun y : γ => OwnG β B C (P (fun t => ∃ a : α, t = T a ∧ k a) (fun _ => False) [T s, T y])) : EvK W (tOp (rIxO C (spG B P) E) te tb) Γ k := by
  subst hB
  refine ev_two (h.imp fun s hs => hs.imp fun y ⟨c, fl, iβ, hC, hp⟩ x z H Q o dx dz q => ?_)
  subst hC
  obtain ⟨p, dp, fs, hv, _, hH, _⟩ := iβ.at_ dx
  exact ⟨p, dp, fs, hv, hH, W, _, _, _, rfl, o, .cons (t := T s) dx (.cons (t := T y) dz .nil), hp, fun v H2 t e2 dt ⟨b, eb, kb⟩ => by
    subst eb
    exact q v H2 b e2 dt kb, fun n d2 H2 _ _ z => z.elim⟩
theorem Dl.reverse {α : Type} {f : V → α → Prop} {vs : List V} {as : List α} (h : Dl f vs as) : Dl f vs.reverse as.reverse := by
  induction h with
  | nil => exact .nil
  | cons x _ ih =>
    rw [List.reverse_cons, List.reverse_cons]
    exact ih.append (.cons x .nil)
theorem Dl.strs {vs : List V} {as : List Str} (h : Dl (fun v (a : Str) => v = .str a) vs as) : vs = as.map V.str := by
  induction h with
  | nil => rfl
  | cons x _ ih => rw [x, ih]; rfl
end
end G
set_option Elab.async false
set_option linter.all false
set_option maxRecDepth 100000
set_option maxHeartbeats 2000000
namespace G
open PySem PySem.Spec PyProof.Rows L2 StX
theorem lexLt2 (a b : Int × Int) : HT.lexLt [a.1, a.2] [b.1, b.2] = !lexLe b a := by
  rw [HT.lexLt.eq_4, HT.lexLt.eq_4, HT.lexLt.eq_1]
  rw [Bool.eq_iff_iff, Bool.not_eq_true', ← Bool.not_eq_true, lexLe_iff]
  by_cases h : a.1 = b.1
  · rw [if_pos h]
    by_cases h2 : a.2 = b.2
    · rw [if_pos h2]
      simp; omega
    · rw [if_neg h2, decide_eq_true_iff]; omega
  · rw [if_neg h, decide_eq_true_iff]; omega
/-- min of a list of pairs -/
def rMinP (K : PySem.W.Frag) : List V → Hp → VK → Prop := fun vs H Q => ∃ (a : Addr) (xs : List V) (ns : List (Int × Int)), vs = [.ref a] ∧ SqL K H a xs ∧ 0 < ns.length ∧ xs.length = ns.length ∧
  (∀ (i : Nat) (x : V) (n : Int × Int), xs[i]? = some x → ns[i]? = some n → ∃ t, x = .ref t ∧ SqT K H t [.int n.1, .int n.2]) ∧ ∀ (i : Nat) (x : V) (m : Int × Int), xs[i]? = some x → ns[i]? = some m → (∀ n ∈ ns, lexLe m n = true) → Q x H
section
variable {W : Wd} {Γ : Gam} {te : TE} {K : PySem.W.Frag}
theorem ev_minP {k : Int × Int → Prop} (hK : W.B.K = K) (h : EvK W te Γ fun as : List (Int × Int) => 0 < as.length ∧ ∀ m, m ∈ as → (∀ n ∈ as, lexLe m n = true) → k m) : EvK W (tCB (rMinP K) (tCons te tNil)) Γ k := by
  subst hK
  refine fun σ H Q G c => h σ H _ G fun v H1 as e1 ⟨p, vs, hv, hp, hd⟩ ⟨hl, z⟩ => ?_
  refine ⟨p, vs, as, by rw [hv], hp.sq, hl, hd.length, fun i x n hx hn => ?_, fun i x m hx hm hle => ?_⟩
  · obtain ⟨a, ha, da⟩ := hd.at hx
    rw [hn] at ha
    cases ha
    obtain ⟨t, y, u, hv2, s, h1, h2⟩ := da
    have h1' : y = V.int n.1 := h1
    have h2' : u = V.int n.2 := h2
    subst h1' h2'
    exact ⟨t, hv2, s.sq⟩
  · obtain ⟨a, ha, da⟩ := hd.at hx
    rw [hm] at ha
    cases ha
    exact c x H1 m e1 da (z m (List.mem_of_getElem? hm) hle)
/-- pairs compared -/
theorem ev_ltP {ta tb : TE} {k : Bool → Prop} (hK : W.B.K = K) (h : EvK W ta Γ fun a : Int × Int => EvK W tb Γ fun b : Int × Int => k (!lexLe b a)) : EvK W (tOp (rLtT K) ta tb) Γ k := by
  subst hK
  refine ev_two (h.imp fun a ha => ha.imp fun b hb x y H Q o dx dy c => ?_)
  obtain ⟨t, x1, x2, rfl, s, h1, h2⟩ := dx
  obtain ⟨t2, y1, y2, rfl, s2, g1, g2⟩ := dy
  have h1' : x1 = V.int a.1 := h1
  have h2' : x2 = V.int a.2 := h2
  have g1' : y1 = V.int b.1 := g1
  have g2' : y2 = V.int b.2 := g2
  subst h1' h2' g1' g2'
  exact ⟨t, t2, [a.1, a.2], [b.1, b.2], rfl, rfl, s.sq, s2.sq, c _ H _ (Ext.refl o) (by rw [lexLt2]; rfl) hb⟩
end
end G
set_option Elab.async false
set_option linter.all false
set_option maxRecDepth 100000
set_option maxHeartbeats 2000000
namespace G
open PySem PySem.Spec PyProof.Rows L2 StX
/-- errors that are no AttributeError -/
def NAt (K : PySem.W.Frag) (cls : Value) : Prop := ∃ C, cls = .ref C ∧ PySem.W.subIn K (.ref C) (.type "AttributeError") = some false
def tPropX (K : PySem.W.Frag) (C : Addr) (sp : Sp) (E : L2.St → XK) (ta : TE) : TE := fun σ H Q => ta σ H fun x H1 => ∃ a dx fs, x = .ref a ∧ H1 a = some (.ins C dx fs) ∧ sp [.ref a] H1 Q (fun cls d H' => NAt K cls ∧ E σ cls d H')
section
variable {W : Wd} {Γ : Gam} {te : TE} {B : Bs} {P : PT} {C : Addr} {E : L2.St → XK} {x : Xn → Prop} {K : PySem.W.Frag}
theorem ev_propX {α β : Type} {rα : Rep α} {rβ : Rep β} {k : α → Prop} (hB : W.B = B) (hx : HX W Γ E x)
    (h : EvK W te Γ fun s : β => OwnG β B C (P (fun t => ∃ a : α, t = T a ∧ k a) (fun n => NAt K (.ref (B.cl n.c)) ∧ x n) [T s])) : EvK W (tPropX K C (spG B P) E te) Γ k := by
  subst hB
  refine fun σ H Q G c => h σ H _ G fun v H1 s e1 d ⟨cc, fl, iβ, hC, z⟩ => ?_
  subst hC
  obtain ⟨p, dp, fs, hv, _, hH, _⟩ := iβ.at_ d
  refine ⟨p, dp, fs, hv, hH, W, _, _, _, rfl, e1.ok, .cons (t := T s) (by rw [← hv]; exact d) .nil, z, fun v H3 t e3 dt ⟨a, ea, q⟩ => by
    subst ea
    exact c v H3 a (e1.trans e3) dt q, fun n d2 H2 e2 xd ⟨hn, xn⟩ => ⟨hn, hx σ H1 (G.ext e1) n d2 H2 e2 xd xn⟩⟩
end
end G
namespace G
open PySem PySem.Spec PyProof.Rows L2 StX
end G
set_option Elab.async false
set_option linter.all false
set_option maxRecDepth 100000
set_option maxHeartbeats 2000000
namespace G
open PySem PySem.Spec PyProof.Rows L2 StX
end G
namespace G
open PySem PySem.Spec PyProof.Rows L2 StX
end G
set_option Elab.async false
set_option linter.all false
set_option maxRecDepth 100000
set_option maxHeartbeats 2000000
namespace G
open PySem PySem.Spec PyProof.Rows L2 StX
end G
namespace G
open PySem PySem.Spec PyProof.Rows L2 StX
end G
set_option Elab.async false
set_option linter.all false
set_option maxRecDepth 100000
set_option maxHeartbeats 2000000
namespace G
open PySem PySem.Spec PyProof.Rows L2 StX
/-- an address, whatever stands there -/
structure Rf where
  a : Addr
instance : Rep Rf := ⟨fun _ _ v r => v = .ref r.a, fun _ h => h, fun _ _ h => h, fun _ h => h⟩
instance : NoLst Rf := ⟨fun _ h => h⟩
end G
namespace G
open PySem PySem.Spec PyProof.Rows L2 StX
section
variable {W : Wd} {F : Hp} {L : Own} {Γ : Gam} {ta tb te to : TE} {tt : TT} {t u : TS} {R : PoM} {g : TG} {K : PySem.W.Frag}
theorem dl_of_at {α : Type} {f : V → α → Prop} : ∀ {vs : List V} {as : List α}, vs.length = as.length → (∀ (i : Nat) (v : V) (a : α), vs[i]? = some v → as[i]? = some a → f v a) → Dl f vs as
  | [], [], _, _ => .nil
  | [], _ :: _, h, _ => nomatch h
  | _ :: _, [], h, _ => nomatch h
  | v :: vs, a :: as, h, k => .cons (k 0 v a rfl rfl) (dl_of_at (by simpa using h) fun i w b h1 h2 => k (i + 1) w b (by simpa using h1) (by simpa using h2))
end
section
variable {X : Cx}
theorem call_list_ofK (K : PySem.W.Frag) (hK : X.K = K := by rfl) : CallR X (.type "list") fun xs H Q => ∃ p ys, xs = [V.ref p] ∧ (SqL K H p ys ∨ SqT K H p ys) ∧ ∀ l, H l = none → Q (V.ref l) (upd H l (HO.lst ys)) := by subst hK; exact call_list_of
end
end G
namespace G
open PySem PySem.Spec PyProof.Rows L2 StX
end G
set_option Elab.async false
set_option linter.all false
set_option maxRecDepth 100000
set_option maxHeartbeats 2000000
namespace G
open PySem PySem.Spec PyProof.Rows L2 StX
end G
set_option Elab.async false
set_option linter.all false
set_option maxRecDepth 100000
set_option maxHeartbeats 2000000
namespace G
open PySem PySem.Spec PyProof.Rows L2 StX
def revS (z : Str) : Str := ⟨z.cps.toList.reverse.toArray⟩
def tRevS (te : TE) : TE := fun σ H Q => te σ H fun x H1 => ∃ z, x = .str z ∧ z.length ≤ sizeLine ∧ Q (.str (revS z)) H1
theorem rev_picked (z : Str) (u : Tok) : (slicePicked z none none (some (-1, u))).filterMap (z.cps[·]?) = z.cps.toList.reverse := by
  show (sliceRange ((z.length : Int) - 1) (-1) (-1)).filterMap (z.cps[·]?) = _
  rw [PySem.W.krv_sliceRange, PySem.W.krv_range, List.filterMap_reverse]
  exact congrArg List.reverse (PySem.W.krv_all z.cps)
section
variable {X : Cx}
theorem pe_revS {e : Expr} {te : TE} {k : Nat} {p1 p2 p3 pos : Pos} (he : L2.PE X e te) : L2.PE X (e.Subscript (Expr.Slice none none (some (Expr.UnaryOp UnaryOp.USub (Expr.Constant (Const.int 1) k p1) p2)) p3) pos) (tRevS te) := by
  refine ⟨fun pins s σ H Q I h => ?_⟩
  refine Subscript_ (thn (he.run pins s σ H _ I h) fun v s1 ⟨x, H1, I1, r1, q1⟩ => ?_)
  obtain ⟨z, ex, hz, q⟩ := q1
  subst ex
  obtain ⟨t, rfl⟩ := r1
  have hst : PO X (some (.UnaryOp .USub (.Constant (.int 1) k p1) p2)) (tPart (tUn (rU fun i => .int (-i)) (tC (.int 1)))) := po_some (pe_un un_neg pe_int)
  refine wpAny_Slice (thn (po_none.run pins s1 σ H1 (fun o H2 => o = none ∧ H2 = H1) I1 ⟨rfl, rfl⟩) fun vl s2 ⟨l, H2, I2, pl, el, e2⟩ => ?_)
  subst el e2
  refine thn (po_none.run pins s2 σ H2 (fun o H3 => o = none ∧ H3 = H2) I2 ⟨rfl, rfl⟩) fun vu s3 ⟨u, H3, I3, pu, eu, e3⟩ => ?_
  subst eu e3
  refine thn (hst.run pins s3 σ H3 (fun o H4 => o = some (-1) ∧ H4 = H3) I3 ⟨1, rfl, -1, rfl, rfl, rfl⟩) fun vs s4 ⟨o, H4, I4, ps, eo, e4⟩ => ?_
  subst eo e4
  have I5 : Inv X pins σ H4 { s4 with heap := s4.heap.push { cls := .type "slice", data := .fields #[vl, vu, vs] } } := I4.kept (t' := s4.toks) fun b ob q => Heap.get?_push_of_some _ q
  obtain ⟨l', rfl, hl'⟩ := IsPart.raw pl
  obtain ⟨u', rfl, hu'⟩ := IsPart.raw pu
  obtain ⟨w', rfl, hw'⟩ := IsPart.raw ps
  have e1 : l' = none := by cases l' with | none => rfl | some _ => cases hl'
  have e2 : u' = none := by cases u' with | none => rfl | some _ => cases hu'
  subst e1 e2
  obtain ⟨u1, rfl⟩ : ∃ u1, w' = some (-1, u1) := by
    cases w' with
    | none => cases hw'
    | some p => obtain ⟨a, b⟩ := p; cases hw'; exact ⟨b, rfl⟩
  refine tail_any (ops := [.ref s4.heap.objs.size, .str z t]) (typeIs_str _ _ _) (F.slot_str_getitem.lookup) ?_ (by with_unfolding_all rfl)
  refine wpAny_getItem_str_slice (l := none) (u := none) (st := some (-1, u1)) ⟨_, Heap.get?_push_size _ rfl, rfl, rfl⟩ rfl ?_
  have hm : sliceMade z t none none (some (-1, u1)) = .str (revS z) := by
    unfold sliceMade
    rw [rev_picked]
    rfl
  rw [hm]
  refine ⟨?_, .str (revS z), H4, I5.tok _, ⟨_, rfl⟩, q⟩
  show (revS z).cps.size ≤ _
  unfold revS
  rw [List.size_toArray, List.length_reverse, Array.length_toList]
  exact hz
end
section
variable {W : Wd} {Γ : Gam} {ta tb te : TE} {K : PySem.W.Frag}
theorem ev_revS {k : Str → Prop} (h : EvK W te Γ fun z : Str => z.length ≤ 100000 ∧ k (revS z)) : EvK W (tRevS te) Γ k := fun σ H Q G c => h σ H _ G fun v H1 z e1 d ⟨hl, q⟩ => by
  have d' : v = V.str z := d
  exact ⟨z, d', Nat.le_trans hl (by decide), c _ H1 (revS z) e1 rfl q⟩
theorem ev_ixS {k : Str → Prop} (h : EvK W ta Γ fun z : Str => EvK W tb Γ fun i : Int => z.length ≤ 100000 ∧ ∃ c, atI z.cps.toList i = some c ∧ k ⟨#[c]⟩) : EvK W (tOp rIxS ta tb) Γ k := by
  refine ev_two (h.imp fun z hz => hz.imp fun i ⟨hl, c, hc, q⟩ x y H Q o dx dy cc => ?_)
  have dx' : x = V.str z := dx
  have dy' : y = V.int i := dy
  exact ⟨z, i, c, dx', dy', Nat.le_trans hl (by decide), hc, cc _ H _ (Ext.refl o) rfl q⟩
theorem inV_strs (x : Str) (as : List Str) : inV (V.str x) (as.map V.str) = decide (x ∈ as) := by
  have h : inV (V.str x) (as.map V.str) = as.any fun a => a == x := by
    unfold inV
    rw [List.any_map]
    rfl
  rw [h, Bool.eq_iff_iff, List.any_eq_true, decide_eq_true_iff]
  exact ⟨fun ⟨a, ha, e⟩ => by rw [← eq_of_beq e]; exact ha, fun hx => ⟨x, hx, beq_self_eq_true x⟩⟩
theorem flat_strs (as : List Str) : (as.map V.str).all flatV = true := by
  rw [List.all_eq_true]
  intro v hv
  obtain ⟨a, _, rfl⟩ := List.mem_map.mp hv
  rfl
theorem ev_inS {k : Bool → Prop} (hK : W.B.K = K) (h : EvK W ta Γ fun x : Str => EvK W tb Γ fun as : List Str => k (decide (x ∈ as))) : EvK W (tOp (rIn K false) ta tb) Γ k := by
  subst hK
  refine ev_two (h.imp fun x hx => hx.imp fun as z v u H Q o dx ⟨p, vs, hu, hp, hd⟩ c => ?_)
  have dx' : v = V.str x := dx
  subst dx' hu
  have e := Dl.strs hd
  refine ⟨p, vs, rfl, .inl hp.sq, rfl, by rw [e]; exact flat_strs as, c _ H _ (Ext.refl o) ?_ z⟩
  show V.bl (inV (V.str x) vs) = _
  rw [e, inV_strs]
end
def wordL : Nat → Int → List Nat
  | 0, _ => []
  | k + 1, n => (97 + (n % 26).toNat) :: wordL k (n / 26)
def wordS (n : Int) (k : Nat) (b : Bool) : Str := ⟨(if b = true then (wordL k n).reverse else wordL k n).toArray⟩
theorem wordL_len : ∀ (k : Nat) (n : Int), (wordL k n).length = k
  | 0, _ => rfl
  | k + 1, n => by unfold wordL; rw [List.length_cons, wordL_len k]
theorem wordL_az : ∀ (k : Nat) (n : Int), ∀ c ∈ wordL k n, 97 ≤ c ∧ c ≤ 122
  | 0, _, c, h => nomatch h
  | k + 1, n, c, h => by
    unfold wordL at h
    rcases List.mem_cons.mp h with rfl | h
    · omega
    · exact wordL_az k _ c h
theorem wordS_list (n : Int) (k : Nat) (b : Bool) : (wordS n k b).cps.toList = if b = true then (wordL k n).reverse else wordL k n := rfl
theorem wordS_len (n : Int) (k : Nat) (b : Bool) : (wordS n k b).length = k := by
  show (if b = true then (wordL k n).reverse else wordL k n).toArray.size = k
  rw [List.size_toArray]
  split
  · rw [List.length_reverse, wordL_len]
  · rw [wordL_len]
theorem wordS_az {n : Int} {k : Nat} {b : Bool} : ∀ c ∈ (wordS n k b).cps.toList, 97 ≤ c ∧ c ≤ 122 := fun c h => by
  rw [wordS_list] at h
  split at h
  · exact wordL_az k n c (List.mem_reverse.mp h)
  · exact wordL_az k n c h
theorem wordS_inj {n m : Int} {k : Nat} {b : Bool} (hk : 1 ≤ k) (h : wordS n k b = wordS m k b) : n % 26 = m % 26 := by
  have e : wordL k n = wordL k m := by
    have e1 : (wordS n k b).cps.toList = (wordS m k b).cps.toList := by rw [h]
    rw [wordS_list, wordS_list] at e1
    split at e1
    · exact List.reverse_inj.mp e1
    · exact e1
  obtain ⟨j, rfl⟩ : ∃ j, k = j + 1 := ⟨k - 1, by omega⟩
  unfold wordL at e
  have := (List.cons.inj e).1
  omega
theorem nodup_sub {α : Type} [DecidableEq α] : ∀ {l B : List α}, l.Nodup → (∀ x ∈ l, x ∈ B) → l.length ≤ B.length
  | [], B, _, _ => Nat.zero_le _
  | x :: l, B, hn, hs => by
    obtain ⟨h1, h2⟩ := List.nodup_cons.mp hn
    have hx := hs x List.mem_cons_self
    have := nodup_sub (B := B.erase x) h2 fun y hy => (List.mem_erase_of_ne (fun e => h1 (by rw [← e]; exact hy))).mpr (hs y (List.mem_cons_of_mem _ hy))
    rw [List.length_erase_of_mem hx] at this
    have := List.length_pos_of_mem hx
    rw [List.length_cons]
    omega
def barS : List Str := [Str.ofString "rank", Str.ofString "trim", Str.ofString "weigh", Str.ofString "together"]
/-- twenty words one behind the other are not all taken -/
theorem words_free {n : Int} {k : Nat} {b : Bool} (hk : 1 ≤ k) {B : List Str} (hB : B.length < 20) (h : ∀ j : Nat, j < 20 → wordS (n + (j : Int)) k b ∈ B) : False := by
  have := nodup_sub (l := (List.range 20).map fun j : Nat => wordS (n + (j : Int)) k b) (B := B) (by
    rw [List.nodup_iff_pairwise_ne, List.pairwise_map]
    refine List.Pairwise.imp_of_mem (R := (· ≠ ·)) (fun {i j} hi hj hne e => ?_) List.nodup_range
    have q := wordS_inj hk e
    have := List.mem_range.mp hi
    have := List.mem_range.mp hj
    omega) (fun x hx => by
      obtain ⟨j, hj, rfl⟩ := List.mem_map.mp hx
      exact h j (List.mem_range.mp hj))
  rw [List.length_map, List.length_range] at this
  omega
/-- a name that a gauge may have -/
def GoodW (w : Str) : Prop := 1 ≤ w.length ∧ w.length ≤ 12 ∧ (∀ c ∈ w.cps.toList, 97 ≤ c ∧ c ≤ 122) ∧ w ∉ barS
end G
namespace G
open PySem PySem.Spec PyProof.Rows L2 StX
theorem abc_at {i : Int} (h0 : 0 ≤ i) (h1 : i < 26) : atI (Str.ofString "abcdefghijklmnopqrstuvwxyz").cps.toList i = some (97 + i.toNat) := by
  have key : ∀ j : Fin 26, atI (Str.ofString "abcdefghijklmnopqrstuvwxyz").cps.toList ((j.val : Nat) : Int) = some (97 + j.val) := by decide +kernel
  obtain ⟨n, rfl⟩ : ∃ n : Nat, i = n := ⟨i.toNat, by omega⟩
  rw [key ⟨n, by omega⟩, Int.toNat_natCast]
theorem snoc_list (z : Str) (c : Nat) : (z ++ (⟨#[c]⟩ : Str)).cps.toList = z.cps.toList ++ [c] := by
  show (z.cps ++ #[c]).toList = _
  rw [Array.toList_append]
theorem snoc_len (z : Str) (c : Nat) : (z ++ (⟨#[c]⟩ : Str)).length = z.length + 1 := by
  show (z.cps ++ #[c]).size = _
  rw [Array.size_append]
  rfl
theorem str_len (z : Str) : z.length = z.cps.toList.length := by
  show z.cps.size = _
  rw [Array.length_toList]
theorem wordS_of {z : Str} {n : Int} {k : Nat} (h : z.cps.toList = wordL k n) : (wordS n k false = z) ∧ wordS n k true = revS z := by
  constructor
  · unfold wordS
    rw [if_neg (by decide), ← h]
  · unfold wordS revS
    rw [if_pos rfl, ← h]
end G
set_option Elab.async false
set_option linter.all false
set_option maxRecDepth 100000
set_option maxHeartbeats 2000000
namespace G
open PySem PySem.Spec PyProof.Rows L2 StX
end G
set_option Elab.async false
set_option linter.all false
set_option maxRecDepth 100000
set_option maxHeartbeats 2000000
namespace G
open PySem PySem.Spec PyProof.Rows L2 StX
inductive GK where
  | pl | co | la | lc
  deriving DecidableEq
def GK.cn : GK → Cn
  | .pl => .Gauge
  | .co => .CoarseGauge
  | .la => .LateGauge
  | .lc => .LateCoarseGauge
def GK.coarse : GK → Bool
  | .co => true
  | .lc => true
  | _ => false
def GK.late : GK → Bool
  | .la => true
  | .lc => true
  | _ => false
structure Gau where
  k : GK
  nm : Str
  rd : Int
  st : Int
  lt : Int
  pc : Int
  deriving DecidableEq
/-- the fields, in the order in which they are set -/
def gauF (g : Gau) : List (Str × V) := [(("name" : Str), V.str g.nm), ("radius", V.int g.rd)] ++ (if g.k.late = true then [(("late" : Str), V.int g.lt), ("pace", V.int g.pc)] else []) ++ (if g.k.coarse = true then [(("step" : Str), V.int g.st)] else [])
instance : Rep Gau :=
  ⟨fun W H v g => ∃ a dx, v = .ref a ∧ ¬ W.mu a ∧ H a = some (.ins (W.B.cl g.k.cn) dx (gauF g)),
   fun e ⟨a, dx, hv, m, h⟩ => ⟨a, dx, hv, m, e _ _ m h⟩,
   fun D n ⟨a, dx, hv, m, h⟩ => ⟨a, dx, hv, mu_grow n m h, h⟩,
   fun D ⟨a, dx, hv, m, h⟩ => ⟨a, dx, hv, fun z => m (.inl z), h⟩⟩
/-- slacks as the document tells them -/
def sbF (g : Gau) : Int := g.rd + (if g.k.late = true then g.lt * g.pc else 0)
def saF (g : Gau) : Int := g.rd + (if g.k.coarse = true then g.st - 1 else 0) + (if g.k.late = true then g.lt * g.pc else 0)
theorem nk1 : (("radius" : Str) == ("name" : Str)) = false := by decide +kernel
theorem nk2 : (("late" : Str) == ("name" : Str)) = false := by decide +kernel
theorem nk3 : (("late" : Str) == ("radius" : Str)) = false := by decide +kernel
theorem nk4 : (("pace" : Str) == ("name" : Str)) = false := by decide +kernel
theorem nk5 : (("pace" : Str) == ("radius" : Str)) = false := by decide +kernel
theorem nk6 : (("pace" : Str) == ("late" : Str)) = false := by decide +kernel
theorem nk7 : (("step" : Str) == ("name" : Str)) = false := by decide +kernel
theorem nk8 : (("step" : Str) == ("radius" : Str)) = false := by decide +kernel
theorem nk9 : (("step" : Str) == ("late" : Str)) = false := by decide +kernel
theorem nk10 : (("step" : Str) == ("pace" : Str)) = false := by decide +kernel
theorem gau_name (g : Gau) : (gauF g).lookup ("name" : Str) = some (.str g.nm) := by simp [gauF, List.lookup]
theorem gau_radius (g : Gau) : (gauF g).lookup ("radius" : Str) = some (.int g.rd) := by simp [gauF, List.lookup, nk1]
theorem gau_late {g : Gau} (h : g.k.late = true) : (gauF g).lookup ("late" : Str) = some (.int g.lt) := by simp [gauF, List.lookup, h, nk2, nk3]
theorem gau_pace {g : Gau} (h : g.k.late = true) : (gauF g).lookup ("pace" : Str) = some (.int g.pc) := by simp [gauF, List.lookup, h, nk4, nk5, nk6]
theorem gau_step {g : Gau} (h : g.k.coarse = true) : (gauF g).lookup ("step" : Str) = some (.int g.st) := by
  obtain ⟨k, nm, rd, st, lt, pc⟩ := g
  cases k with
  | pl => cases h
  | la => cases h
  | co => simp [gauF, List.lookup, GK.late, GK.coarse, nk7, nk8]
  | lc => simp [gauF, List.lookup, GK.late, GK.coarse, nk7, nk8, nk9, nk10]
/-- what the text says of the four classes -/
structure GauT (B : Bs) : Prop where
  cl : ∀ k : GK, L2.Cls B.K (B.cl k.cn)
  nname : ∀ k : GK, NoAttr B.K (B.cl k.cn) "name"
  nradius : ∀ k : GK, NoAttr B.K (B.cl k.cn) "radius"
  nstep : ∀ k : GK, NoAttr B.K (B.cl k.cn) "step"
  nlate : ∀ k : GK, NoAttr B.K (B.cl k.cn) "late"
  npace : ∀ k : GK, NoAttr B.K (B.cl k.cn) "pace"
section
variable {W : Wd} {Γ : Gam} {te to : TE} {ta : TA} {K : PySem.W.Frag}
theorem ev_gname {k : Str → Prop} (hK : W.B.K = K) (hG : GauT W.B) (h : EvK W te Γ fun g : Gau => k g.nm) : EvK W (tFld K te "name") Γ k := by
  subst hK
  refine fun σ H Q E c => h σ H _ E fun v H1 g e1 ⟨a, dx, hv, m, hH⟩ z => ?_
  exact ⟨a, _, dx, _, _, hv, hH, hG.cl _, hG.nname _, gau_name _, c _ H1 g.nm e1 rfl z⟩
theorem ev_radius {k : Int → Prop} (hK : W.B.K = K) (hG : GauT W.B) (h : EvK W te Γ fun g : Gau => k g.rd) : EvK W (tFld K te "radius") Γ k := by
  subst hK
  refine fun σ H Q E c => h σ H _ E fun v H1 g e1 ⟨a, dx, hv, m, hH⟩ z => ?_
  exact ⟨a, _, dx, _, _, hv, hH, hG.cl _, hG.nradius _, gau_radius _, c _ H1 g.rd e1 rfl z⟩
theorem ev_step {k : Int → Prop} (hK : W.B.K = K) (hG : GauT W.B) (h : EvK W te Γ fun g : Gau => g.k.coarse = true ∧ k g.st) : EvK W (tFld K te "step") Γ k := by
  subst hK
  refine fun σ H Q E c => h σ H _ E fun v H1 g e1 ⟨a, dx, hv, m, hH⟩ ⟨hc, z⟩ => ?_
  exact ⟨a, _, dx, _, _, hv, hH, hG.cl _, hG.nstep _, gau_step hc, c _ H1 g.st e1 rfl z⟩
theorem ev_late {k : Int → Prop} (hK : W.B.K = K) (hG : GauT W.B) (h : EvK W te Γ fun g : Gau => g.k.late = true ∧ k g.lt) : EvK W (tFld K te "late") Γ k := by
  subst hK
  refine fun σ H Q E c => h σ H _ E fun v H1 g e1 ⟨a, dx, hv, m, hH⟩ ⟨hc, z⟩ => ?_
  exact ⟨a, _, dx, _, _, hv, hH, hG.cl _, hG.nlate _, gau_late hc, c _ H1 g.lt e1 rfl z⟩
theorem ev_pace {k : Int → Prop} (hK : W.B.K = K) (hG : GauT W.B) (h : EvK W te Γ fun g : Gau => g.k.late = true ∧ k g.pc) : EvK W (tFld K te "pace") Γ k := by
  subst hK
  refine fun σ H Q E c => h σ H _ E fun v H1 g e1 ⟨a, dx, hv, m, hH⟩ ⟨hc, z⟩ => ?_
  exact ⟨a, _, dx, _, _, hv, hH, hG.cl _, hG.npace _, gau_pace hc, c _ H1 g.pc e1 rfl z⟩
end
end G
set_option Elab.async false
set_option linter.all false
set_option maxRecDepth 100000
set_option maxHeartbeats 2000000
namespace G
open PySem PySem.Spec PyProof.Rows L2 StX
def rInSign : R2 := fun x y H Q => ∃ (c : Nat) (z : Str), x = .str ⟨#[c]⟩ ∧ y = .str z ∧ Q (.bl (decide (c ∈ z.cps.toList))) H
section
variable {W : Wd} {Γ : Gam} {te tb tl : TE} {tt : TT} {g : TG} {K : PySem.W.Frag}
theorem ev_inSign {k : Bool → Prop} (h : EvK W te Γ fun x : Str => ∃ c, x = ⟨#[c]⟩ ∧ EvK W tb Γ fun z : Str => k (decide (c ∈ z.cps.toList))) : EvK W (tOp rInSign te tb) Γ k := by
  refine fun σ H Q G cc => h σ H _ G fun v H1 x e1 d ⟨c, ex, h2⟩ => h2 σ H1 _ (G.ext e1) fun u H2 z e2 d2 q => ?_
  have d' : v = V.str x := d
  have d2' : u = V.str z := d2
  exact ⟨c, z, by rw [d', ex], d2', cc _ H2 _ (e1.trans e2) rfl q⟩
/-- x in a constant tuple of texts -/
theorem ev_inCst {k : Bool → Prop} {C : Addr} {as : List Str} (hC : ∀ H, SqT K H C (as.map V.str)) (h : EvK W te Γ fun x : Str => k (decide (x ∈ as))) : EvK W (tOp (rIn K false) te (tC (.ref C))) Γ k := by
  refine fun σ H Q G c => h σ H _ G fun v H1 x e1 d z => ?_
  have d' : v = V.str x := d
  subst d'
  refine ⟨C, as.map V.str, rfl, .inr (hC H1), rfl, flat_strs as, c _ H1 _ e1 ?_ z⟩
  show V.bl (inV (V.str x) (as.map V.str)) = _
  rw [inV_strs]
/-- C.f, a constant number -/
theorem ev_cvalI {k : Int → Prop} {C : Addr} {mc u : Value} {f : Str} {n : Int} (r : ClX.CRead K C mc) (c : ClX.CVal K C mc f (.int n) u) (h : k n) : EvK W (ClX.tCVal K (tC (.ref C)) f) Γ k := fun σ H Q G cc =>
  ⟨C, mc, _, u, rfl, r, c, cc _ H n (Ext.refl G.ok) rfl h⟩
/-- [te for g in a text if tt] -/
theorem evF_lcS {β : Type} {rβ : Rep β} {vs : List Nat} {k : List β → Prop}
    (h : EvK W tl Γ fun z : Str => z.length ≤ 100000 ∧ ∃ I : Nat → List β → Prop, I 0 [] ∧ (∀ W', Sub W W' → ∀ (i c : Nat) (bs : List β), z.cps.toList[i]? = some c → I i bs → LcTurn W' g tt te vs Γ (⟨#[c]⟩ : Str) (I (i + 1) bs) fun y : β => I (i + 1) (bs ++ [y])) ∧ ∀ bs, I z.length bs → k bs) :
    EvF W (tLc (iStr tl) g tt te vs) Γ k := by
  refine fun σ H Q E c => h σ H _ E fun v H1 z e1 hv ⟨hl, I, h0, hs, hf⟩ => ⟨z, hv, fun D n => ?_⟩
  have G1 := E.ext e1
  have eD : Ext W H1 (upd H1 D (.lst [])) := Ext.new e1.ok n
  refine turns (J := Its z) (n := z.length) (fun i H' => Ext W H1 H' ∧ ∃ acc bs, H' D = some (.lst acc) ∧ Dl (den (W.toWc.plus D) H') acc bs ∧ acc.length ≤ i ∧ I i bs) ⟨eD, [], [], upd_same, .nil, Nat.le_refl _, h0⟩ (fun i H' hi _ => hi) (fun H' _ => Nat.le_refl _) ?_ ?_
  · rintro i H' x H'' hi ⟨e, acc, bs, hD, hb, ha, q⟩ ⟨rfl, cc, hc, rfl⟩
    have hc' : z.cps.toList[i]? = some cc := by rw [Array.getElem?_toList]; exact hc
    exact lc_turn (I := I (i + 1)) (P := fun H' => Ext W H1 H' ∧ ∃ acc bs, H' D = some (.lst acc) ∧ Dl (den (W.toWc.plus D) H') acc bs ∧ acc.length ≤ i + 1 ∧ I (i + 1) bs) (hs _ (Sub.plus (n := n) (o1 := e1.ok) (w1 := G1.wish)) i cc bs hc' q) G1 e hD hb rfl (by omega) fun H2 acc2 bs2 e2 hD2 hb2 hl2 q2 => ⟨e2, acc2, bs2, hD2, hb2, by omega, q2⟩
  · rintro H' ⟨e, acc, bs, hD, hb, ha, q⟩
    exact c D H' acc bs (fresh_back e1.ok e1 n) (e1.trans e) hD hb (hf bs q)
/-- .. of each sign f, none left out -/
theorem ev_lcSF {β : Type} {rβ : Rep β} {vs : List Nat} {k : List β → Prop} (f : Nat → β)
    (h : EvK W tl Γ fun z : Str => z.length ≤ 100000 ∧ (∀ W', Sub W W' → ∀ c ∈ z.cps.toList, LcTurn W' g tt te vs Γ (⟨#[c]⟩ : Str) False fun y : β => y = f c) ∧ k (z.cps.toList.map f)) :
    EvK W (tLc (iStr tl) g tt te vs) Γ k := (evF_lcS (h.imp fun z ⟨hl, hs, q⟩ => ⟨hl, fun i bs => bs = (z.cps.toList.take i).map f, by simp, fun W' s i c bs hc e => by
  have ht : z.cps.toList.take (i + 1) = z.cps.toList.take i ++ [c] := by
    rw [List.take_succ, hc]; rfl
  obtain ⟨js, h1, h2⟩ := hs W' s c (List.mem_of_getElem? hc)
  refine ⟨js, h1, fun σ H v Q E d cc => h2 σ H v Q E d fun σ' Γ' G m q2 => cc σ' Γ' G m ?_⟩
  intro σ2 H2 Q2 E2 c2
  refine q2 σ2 H2 Q2 E2 fun H3 b e3 ⟨hy, hn⟩ => c2 H3 b e3 ⟨fun hb => (hy hb).imp fun y hyf => ?_, fun hb => (hn hb).elim⟩
  have e' : bs = (z.cps.toList.take i).map f := e
  show bs ++ [y] = (z.cps.toList.take (i + 1)).map f
  rw [ht, List.map_append, ← e', hyf]; rfl, fun bs e => by
    have e' : bs = (z.cps.toList.take z.length).map f := e
    rw [e', str_len, List.take_length]
    exact q⟩)).k
end
/-- whether a gauge may have this name -/
def gnB (w : Str) : Bool := !decide (w ∈ barS) && (decide (1 ≤ (w.length : Int)) && decide ((w.length : Int) ≤ 12) && (w.cps.toList.map fun c => decide (c ∈ (Str.ofString "abcdefghijklmnopqrstuvwxyz").cps.toList)).all id)
theorem abc_mem {c : Nat} (h : 97 ≤ c ∧ c ≤ 122) : c ∈ (Str.ofString "abcdefghijklmnopqrstuvwxyz").cps.toList := by
  have key : ∀ j : Fin 26, (97 + j.val) ∈ (Str.ofString "abcdefghijklmnopqrstuvwxyz").cps.toList := by decide +kernel
  have := key ⟨c - 97, by omega⟩
  rw [show 97 + (c - 97) = c by omega] at this
  exact this
theorem gnB_good {w : Str} (h : GoodW w) : gnB w = true := by
  obtain ⟨h1, h2, h3, h4⟩ := h
  unfold gnB
  rw [decide_eq_false h4, decide_eq_true (by omega : 1 ≤ (w.length : Int)), decide_eq_true (by omega : (w.length : Int) ≤ 12)]
  simp only [Bool.not_false, Bool.true_and, List.all_map, List.all_eq_true]
  exact fun c hc => decide_eq_true (abc_mem (h3 c hc))
end G
namespace G
open PySem PySem.Spec PyProof.Rows L2 StX
section
variable {X : Cx}
theorem pe_globE {x : Str} {v : V} {pos : Pos} (hm : ∃ u, X.mg x = some u ∧ L2.RelV v u) (hg : Gl X x := by rfl) (hd : (x == ("__debug__" : Str)) = false := by decide) : L2.PE X (.Name x pos) (tC v) := by
  obtain ⟨u, h1, h2⟩ := hm
  exact pe_glob hg h1 h2 hd
theorem pe_cvalK (K : PySem.W.Frag) {e : Expr} {f : Str} {ta : TE} {pos : Pos} (he : L2.PE X e ta) (hb : attributeBase e f X.env (eval e X.env) = eval e X.env := by rfl) (hK : X.K = K := by rfl) : L2.PE X (.Attribute e f pos) (ClX.tCVal K ta f) := by subst hK; exact ClX.pe_cval he hb
end
end G
namespace G
open PySem PySem.Spec PyProof.Rows L2 StX
theorem ev_lenS {W : Wd} {Γ : Gam} {te : TE} {k : Int → Prop} (h : EvK W te Γ fun z : Str => z.length ≤ 100000 ∧ k (z.length : Int)) : EvK W (tCB (fun xs H Q => ∃ z, xs = [.str z] ∧ z.length ≤ sizeLine ∧ Q (.int (z.length : Nat)) H) (tCons te tNil)) Γ k := fun σ H Q G c =>
  h σ H _ G fun v H1 z e1 d ⟨hl, q⟩ => ⟨z, congrArg (fun x => [x]) d, Nat.le_trans hl (by decide), c _ H1 _ e1 rfl q⟩
end G
namespace G
open PySem PySem.Spec PyProof.Rows L2 StX
end G
namespace G
open PySem PySem.Spec PyProof.Rows L2 StX
theorem putF_le (f : Str) (v : V) : ∀ fs : List (Str × V), (putF f v fs).length ≤ fs.length + 1
  | [] => Nat.le_refl _
  | (g, x) :: r => by
    unfold putF
    split
    · exact Nat.le_succ _
    · exact Nat.succ_le_succ (putF_le f v r)
end G
namespace G
open PySem PySem.Spec PyProof.Rows L2 StX
theorem gau_of {W : Wd} {B : Bs} (h : W.B = B) (g : GauT B) : GauT W.B := by rw [h]; exact g
end G
set_option Elab.async false
set_option linter.all false
set_option maxRecDepth 100000
set_option maxHeartbeats 2000000
namespace G
open PySem PySem.Spec PyProof.Rows L2 StX
end G
namespace G
open PySem PySem.Spec PyProof.Rows L2 StX
end G
namespace G
open PySem PySem.Spec PyProof.Rows L2 StX
def GauOk (g : Gau) : Prop := g.k.late = true → 0 ≤ g.lt ∧ g.lt ≤ 1000000000000
end G
set_option Elab.async false
set_option linter.all false
set_option maxRecDepth 100000
set_option maxHeartbeats 2000000
namespace G
open PySem PySem.Spec PyProof.Rows L2 StX
/-- a def with n positional and then keyword-only parameters ks, none with a default -/
structure DefK (K : PySem.W.Frag) (name qual : Str) (st : Stmt) (ps : List Str) (n : Nat) (ks : List Str) (f : Addr) : Prop where
  ex : ∃ fd, Fun K name qual st f fd ∧ KBn K fd ps n ks (fun us ws => us ++ ws) (fun vs zs => vs ++ zs)
theorem kbn_mk {K : PySem.W.Frag} {fd : FuncData} {ps : List Str} {n : Nat} {ks : List Str} (h : ∀ (s : Shared) (us ws : List Value), us.length = n → ws.length = ks.length → BindsTo s fd ⟨us, ks.zip ws⟩ (ps.zip (us ++ ws))) : KBn K fd ps n ks (fun us ws => us ++ ws) (fun vs zs => vs ++ zs) :=
  ⟨fun s us ws _ l1 l2 => h s us ws l1 l2, fun r1 r2 => r1.append r2⟩
end G
namespace G
open PySem PySem.Spec PyProof.Rows L2 StX
end G
namespace G
open PySem PySem.Spec PyProof.Rows L2 StX
end G
namespace G
open PySem PySem.Spec PyProof.Rows L2 StX
theorem gauF_lc (nm : Str) (rd st lt pc : Int) : putF "step" (.int st) (putF "radius" (.int rd) (putF "name" (.str nm) (putF "pace" (.int pc) (putF "late" (.int lt) (putF "radius" (.int rd) (putF "name" (.str nm) [])))))) = gauF ⟨.lc, nm, rd, st, lt, pc⟩ := by
  have k1 : ¬ (("name" : Str) = "radius") := by decide +kernel
  have k2 : ¬ (("name" : Str) = "late") := by decide +kernel
  have k3 : ¬ (("radius" : Str) = "late") := by decide +kernel
  have k4 : ¬ (("name" : Str) = "pace") := by decide +kernel
  have k5 : ¬ (("radius" : Str) = "pace") := by decide +kernel
  have k6 : ¬ (("late" : Str) = "pace") := by decide +kernel
  have k7 : ¬ (("name" : Str) = "step") := by decide +kernel
  have k8 : ¬ (("radius" : Str) = "step") := by decide +kernel
  have k9 : ¬ (("late" : Str) = "step") := by decide +kernel
  have k10 : ¬ (("pace" : Str) = "step") := by decide +kernel
  simp [putF, gauF, GK.late, GK.coarse, k1, k2, k3, k4, k5, k6, k7, k8, k9, k10]
end G
namespace G
open PySem PySem.Spec PyProof.Rows L2 StX
/-- name and radius set at a new object -/
theorem gauF_pl (nm : Str) (rd st lt pc : Int) : putF "radius" (.int rd) (putF "name" (.str nm) []) = gauF ⟨.pl, nm, rd, st, lt, pc⟩ := by
  have k1 : ¬ (("name" : Str) = "radius") := by decide +kernel
  simp [putF, gauF, GK.late, GK.coarse, k1]
theorem gauF_co (nm : Str) (rd st lt pc : Int) : putF "step" (.int st) (putF "radius" (.int rd) (putF "name" (.str nm) [])) = gauF ⟨.co, nm, rd, st, lt, pc⟩ := by
  have k1 : ¬ (("name" : Str) = "radius") := by decide +kernel
  have k7 : ¬ (("name" : Str) = "step") := by decide +kernel
  have k8 : ¬ (("radius" : Str) = "step") := by decide +kernel
  simp [putF, gauF, GK.late, GK.coarse, k1, k7, k8]
theorem gauF_la (nm : Str) (rd st lt pc : Int) : putF "pace" (.int pc) (putF "late" (.int lt) (putF "radius" (.int rd) (putF "name" (.str nm) []))) = gauF ⟨.la, nm, rd, st, lt, pc⟩ := by
  have k1 : ¬ (("name" : Str) = "radius") := by decide +kernel
  have k2 : ¬ (("name" : Str) = "late") := by decide +kernel
  have k3 : ¬ (("radius" : Str) = "late") := by decide +kernel
  have k4 : ¬ (("name" : Str) = "pace") := by decide +kernel
  have k5 : ¬ (("radius" : Str) = "pace") := by decide +kernel
  have k6 : ¬ (("late" : Str) = "pace") := by decide +kernel
  simp [putF, gauF, GK.late, GK.coarse, k1, k2, k3, k4, k5, k6]
end G
set_option Elab.async false
set_option linter.all false
set_option maxRecDepth 100000
set_option maxHeartbeats 2000000
namespace G
open PySem PySem.Spec PyProof.Rows L2 StX
structure Spc where
  nm : Str
  so : Int
  rd : Int
  gr : Int
  la : Int
  dr : Int
  deriving DecidableEq
def Spc.vs (s : Spc) : List V := [.str s.nm, .int s.so, .int s.rd, .int s.gr, .int s.la, .int s.dr]
instance : Rep Spc :=
  ⟨fun W H v s => ∃ p, v = .ref p ∧ Tq W H p s.vs,
   fun e ⟨p, hv, s⟩ => ⟨p, hv, s.mono e⟩,
   fun D n ⟨p, hv, s⟩ => ⟨p, hv, s.grow D n⟩,
   fun D ⟨p, hv, s⟩ => ⟨p, hv, s.shrink D⟩⟩
section
variable {W : Wd} {Γ : Gam} {ta t1 t2 t3 t4 t5 t6 : TE} {K : PySem.W.Frag}
theorem ev_ixSp0 {k : Str → Prop} (hK : W.B.K = K) (h : EvK W ta Γ fun s : Spc => k s.nm) : EvK W (tOp (rIxT K) ta (tC (.int 0))) Γ k := by
  subst hK
  refine fun σ H Q E c => h σ H _ E fun v H1 a e1 ⟨p, hv, s⟩ q => ?_
  exact ⟨p, _, 0, _, hv, rfl, s.sq, rfl, c _ H1 a.nm e1 rfl q⟩
theorem ev_ixSp {k : Int → Prop} (j : Int) (f : Spc → Int) (hf : ∀ s : Spc, atI s.vs j = some (.int (f s))) (hK : W.B.K = K) (h : EvK W ta Γ fun s : Spc => k (f s)) : EvK W (tOp (rIxT K) ta (tC (.int j))) Γ k := by
  subst hK
  refine fun σ H Q E c => h σ H _ E fun v H1 a e1 ⟨p, hv, s⟩ q => ?_
  exact ⟨p, _, j, _, hv, rfl, s.sq, hf a, c _ H1 (f a) e1 rfl q⟩
theorem ev_ixSp1 {k : Int → Prop} (hK : W.B.K = K) (h : EvK W ta Γ fun s : Spc => k s.so) : EvK W (tOp (rIxT K) ta (tC (.int 1))) Γ k := ev_ixSp 1 Spc.so (fun _ => rfl) hK h
theorem ev_ixSp2 {k : Int → Prop} (hK : W.B.K = K) (h : EvK W ta Γ fun s : Spc => k s.rd) : EvK W (tOp (rIxT K) ta (tC (.int 2))) Γ k := ev_ixSp 2 Spc.rd (fun _ => rfl) hK h
theorem ev_ixSp3 {k : Int → Prop} (hK : W.B.K = K) (h : EvK W ta Γ fun s : Spc => k s.gr) : EvK W (tOp (rIxT K) ta (tC (.int 3))) Γ k := ev_ixSp 3 Spc.gr (fun _ => rfl) hK h
theorem ev_ixSp4 {k : Int → Prop} (hK : W.B.K = K) (h : EvK W ta Γ fun s : Spc => k s.la) : EvK W (tOp (rIxT K) ta (tC (.int 4))) Γ k := ev_ixSp 4 Spc.la (fun _ => rfl) hK h
theorem ev_ixSp5 {k : Int → Prop} (hK : W.B.K = K) (h : EvK W ta Γ fun s : Spc => k s.dr) : EvK W (tOp (rIxT K) ta (tC (.int 5))) Γ k := ev_ixSp 5 Spc.dr (fun _ => rfl) hK h
end
end G
namespace G
open PySem PySem.Spec PyProof.Rows L2 StX
/-- int(b), b a bool -/
theorem ev_intB {W : Wd} {Γ : Gam} {te : TE} {k : Int → Prop} (h : EvK W te Γ fun b : Bool => k (if b = true then 1 else 0)) : EvK W (tCB (fun xs H Q => (∃ i, xs = [.int i] ∧ Q (.int i) H) ∨ ∃ k, xs = [.bl k] ∧ Q (.int (if k = true then 1 else 0)) H) (tCons te tNil)) Γ k := fun σ H Q G c =>
  h σ H _ G fun v H1 b e1 d q => .inr ⟨b, congrArg (fun x => [x]) d, c _ H1 _ e1 rfl q⟩
end G
set_option Elab.async false
set_option linter.all false
set_option maxRecDepth 100000
set_option maxHeartbeats 2000000
namespace G
open PySem PySem.Spec PyProof.Rows L2 StX
section
variable {W : Wd} {Γ : Gam} {te : TE}
/-- .., for the walk -/
theorem ev_isiGv {K : PySem.W.Frag} {C2 : Addr} {k : Bool → Prop} (hK : W.B.K = K) (h : EvK W te Γ fun g : Gau => ∃ f : GK → Bool, (∀ kd : GK, IsT K (W.B.cl kd.cn)) ∧ (∀ kd : GK, PySem.W.kitOne K (.ref (W.B.cl kd.cn)) (.ref C2) = some (f kd)) ∧ k (f g.k)) :
    EvK W (tCB (rIsi K) (tCons te (tCons (tC (.ref C2)) tNil))) Γ k := by
  subst hK
  refine fun σ H Q E q => h σ H _ E fun v H1 g e1 ⟨p, dp, hv, _, hH⟩ ⟨f, hT, hk, z⟩ => ?_
  subst hv
  exact ⟨.ref p, .ref C2, _, _, _, rfl, .own C2, .base (.ins hH (hT g.k).c (hT g.k).f (hT g.k).s (hT g.k).t (hT g.k).m), hk g.k, q _ H1 _ e1 rfl z⟩
end
end G
set_option Elab.async false
set_option linter.all false
set_option maxRecDepth 100000
set_option maxHeartbeats 2000000
namespace G
open PySem PySem.Spec PyProof.Rows L2 StX
end G
set_option Elab.async false
set_option linter.all false
set_option maxRecDepth 100000
set_option maxHeartbeats 2000000
namespace G
open PySem PySem.Spec PyProof.Rows L2 StX
/-- nothing or one new thing -/
def Nw (H H' : Hp) : Prop := H' = H ∨ ∃ t o, H t = none ∧ H' = upd H t o
theorem Nw.gr {H H' : Hp} (h : Nw H H') {a : Addr} {o : HO} (e : H a = some o) : H' a = some o := by
  rcases h with rfl | ⟨t, u, ht, rfl⟩
  · exact e
  · rw [upd_ne (ne_of_none e ht)]
    exact e
theorem Nw.ext {W : Wd} {H H' : Hp} (h : Nw H H') (o : W.ok H) : Ext W H H' := by
  rcases h with rfl | ⟨t, u, ht, rfl⟩
  · exact Ext.refl o
  · exact Ext.new o ht
theorem Nw.kp {W : Wc} {H H' : Hp} (h : Nw H H') : Kp W H H' := fun _ _ _ e => h.gr e
section
variable {W : Wd} {Γ : Gam} {ta : TE} {K : PySem.W.Frag}
theorem ev_ixT3a {α β γ : Type} {rα : Rep α} {rβ : Rep β} {rγ : Rep γ} {k : α → Prop} (hK : W.B.K = K) (h : EvK W ta Γ fun p : T3 α β γ => k p.a) : EvK W (tOp (rIxT K) ta (tC (.int 0))) Γ k := by
  subst hK
  refine fun σ H Q E c => h σ H _ E fun v H1 a e1 ⟨p, x, y, z, hv, s, d1, d2, d3⟩ q => ?_
  exact ⟨p, _, 0, x, hv, rfl, s.sq, rfl, c _ H1 _ e1 d1 q⟩
theorem ev_ixT3b {α β γ : Type} {rα : Rep α} {rβ : Rep β} {rγ : Rep γ} {k : β → Prop} (hK : W.B.K = K) (h : EvK W ta Γ fun p : T3 α β γ => k p.b) : EvK W (tOp (rIxT K) ta (tC (.int 1))) Γ k := by
  subst hK
  refine fun σ H Q E c => h σ H _ E fun v H1 a e1 ⟨p, x, y, z, hv, s, d1, d2, d3⟩ q => ?_
  exact ⟨p, _, 1, y, hv, rfl, s.sq, rfl, c _ H1 _ e1 d2 q⟩
end
end G
set_option Elab.async false
set_option linter.all false
set_option maxRecDepth 100000
set_option maxHeartbeats 2000000
namespace G
open PySem PySem.Spec PyProof.Rows L2 StX
structure Dc (β : Type) where
  l : List (Str × β)
inductive Dk {β : Type} (f : V → β → Prop) : List (Key × V) → List (Str × β) → Prop
  | nil : Dk f [] []
  | cons {k : Str} {v : V} {b : β} {r : List (Key × V)} {s : List (Str × β)} : f v b → Dk f r s → Dk f ((.inr k, v) :: r) ((k, b) :: s)
theorem Dk.imp {β : Type} {f g : V → β → Prop} (h : ∀ v b, f v b → g v b) : ∀ {kvs : List (Key × V)} {l : List (Str × β)}, Dk f kvs l → Dk g kvs l
  | _, _, .nil => .nil
  | _, _, .cons a r => .cons (h _ _ a) (r.imp h)
theorem Dk.length {β : Type} {f : V → β → Prop} : ∀ {kvs : List (Key × V)} {l : List (Str × β)}, Dk f kvs l → kvs.length = l.length
  | _, _, .nil => rfl
  | _, _, .cons _ r => congrArg (· + 1) r.length
def getDc {β : Type} (l : List (Str × β)) (k : Str) : Option β := (l.find? fun e => decide (e.1 = k)).map (·.2)
theorem inr_iff {a k : Str} : ((Sum.inr a : Key) = Sum.inr k) ↔ a = k := ⟨fun h => by injection h, fun h => by rw [h]⟩
theorem Dk.get {β : Type} {f : V → β → Prop} (k : Str) : ∀ {kvs : List (Key × V)} {l : List (Str × β)}, Dk f kvs l → (valV kvs (Sum.inr k : Key) = none ∧ getDc l k = none) ∨ ∃ v b, valV kvs (Sum.inr k : Key) = some v ∧ getDc l k = some b ∧ f v b
  | _, _, .nil => .inl ⟨rfl, rfl⟩
  | _, _, .cons (k := a) (v := v) (b := b) (r := r) (s := s) h t => by
    by_cases e : a = k
    · exact .inr ⟨v, b, valV_pos (p := ((Sum.inr a : Key), v)) (inr_iff.mpr e), by unfold getDc; rw [List.find?_cons_of_pos (by exact decide_eq_true e)]; rfl, h⟩
    · have e1 : valV (((Sum.inr a : Key), v) :: r) (Sum.inr k : Key) = valV r (Sum.inr k : Key) := valV_neg (p := ((Sum.inr a : Key), v)) (fun z => e (inr_iff.mp z))
      have e2 : getDc ((a, b) :: s) k = getDc s k := by unfold getDc; rw [List.find?_cons_of_neg (by rw [decide_eq_true_iff]; exact e)]
      rw [e1, e2]
      exact t.get k
theorem Dk.any {β : Type} {f : V → β → Prop} (k : Str) : ∀ {kvs : List (Key × V)} {l : List (Str × β)}, Dk f kvs l → (kvs.any fun kv => decide (kv.1 = (.inr k : Key))) = l.any fun e => decide (e.1 = k)
  | _, _, .nil => rfl
  | _, _, .cons (k := a) _ t => by
    rw [List.any_cons, List.any_cons, t.any k]
    congr 1
    exact decide_eq_decide.mpr inr_iff
theorem Dk.map {β : Type} {f : V → β → Prop} (k : Str) {v : V} {b : β} (h : f v b) : ∀ {kvs : List (Key × V)} {l : List (Str × β)}, Dk f kvs l → Dk f (kvs.map fun kv => if kv.1 = (.inr k : Key) then (kv.1, v) else kv) (l.map fun e => if e.1 = k then (e.1, b) else e)
  | _, _, .nil => .nil
  | _, _, .cons (k := a) h2 t => by
    rw [List.map_cons, List.map_cons]
    by_cases e : a = k
    · rw [if_pos (inr_iff.mpr e), if_pos e]
      exact .cons h (t.map k h)
    · rw [if_neg (fun z => e (inr_iff.mp z)), if_neg e]
      exact .cons h2 (t.map k h)
instance {β : Type} [Rep β] : Rep (Dc β) :=
  ⟨fun W H v d => ∃ p kvs, v = .ref p ∧ (¬ W.mu p ∧ H p = some (.dK kvs)) ∧ Dk (den W H) kvs d.l,
   fun e ⟨p, kvs, hv, hp, h⟩ => ⟨p, kvs, hv, ⟨hp.1, e _ _ hp.1 hp.2⟩, h.imp fun _ _ d => Rep.mono e d⟩,
   fun D n ⟨p, kvs, hv, hp, h⟩ => ⟨p, kvs, hv, ⟨mu_grow n hp.1 hp.2, hp.2⟩, h.imp fun _ _ d => Rep.grow D n d⟩,
   fun D ⟨p, kvs, hv, hp, h⟩ => ⟨p, kvs, hv, ⟨fun z => hp.1 (.inl z), hp.2⟩, h.imp fun _ _ d => Rep.shrink D d⟩⟩
abbrev OwnH := List (Addr × HO)
abbrev keysH (L : OwnH) : List Addr := L.map (·.1)
def Wd.ownH (W : Wd) (F : Hp) (L : OwnH) (oF : W.ok F) (nF : ∀ k ∈ keysH L, F k = none) : Wd where
  toWc := W.toWc.plusL (keysH L)
  ok := fun H => W.ok H ∧ ∀ x ∈ L, H x.1 = some x.2
  live := fun H a ⟨h, e⟩ m => by
    rcases plusL_mu.mp m with m | m
    · exact W.live H a h m
    · obtain ⟨x, hx, rfl⟩ := List.mem_map.mp m
      exact ⟨_, e x hx⟩
  st := fun H p o ⟨h, e⟩ m => ⟨W.st H p o h fun z => m (plusL_mu.mpr (.inl z)), fun x hx => by
    have hne : x.1 ≠ p := fun z => m (plusL_mu.mpr (.inr (by rw [← z]; exact List.mem_map.mpr ⟨x, hx, rfl⟩)))
    rw [upd_ne hne]
    exact e x hx⟩
  wish := fun H => Kp W.toWc F H
  wst := fun H H' k _ w a o m e => k a o (fun z => (plusL_mu.mp z).elim m fun z => by rw [nF a z] at e; cases e) (w a o m e)
  hasbox := fun H b ⟨h, _⟩ hb => W.hasbox H b h (by rw [plusL_box] at hb; exact hb)
  boxset := fun H b c i p s i' p' s' ⟨h, e⟩ hb q h1 h2 => by
    rw [plusL_box] at hb
    refine ⟨W.boxset H b c i p s i' p' s' h hb q h1 h2, fun x hx => ?_⟩
    have z : x.1 ≠ b := fun z => by
      have h3 := nF x.1 (List.mem_map.mpr ⟨x, hx, rfl⟩)
      rw [z] at h3
      exact fresh_mu oF h3 (W.boxmu b hb)
    rw [upd_ne z]
    exact e x hx
  boxmu := fun b hb => plusL_mu.mpr (.inl (W.boxmu b (by rw [plusL_box] at hb; exact hb)))
  oke := fun H H' ⟨h, e⟩ k => ⟨W.oke H H' h k, fun x hx => k _ _ (e x hx)⟩
/-- from L at H to L' at H' -/
def StpH (W : Wd) (L : OwnH) (H : Hp) (L' : OwnH) (H' : Hp) : Prop := Kp (W.toWc.plusL (keysH L)) H H' ∧ ∀ k ∈ keysH L', k ∈ keysH L ∨ H k = none
theorem StpH.refl {W : Wd} {L : OwnH} {H : Hp} : StpH W L H L H := ⟨fun _ _ _ z => z, fun _ h => .inl h⟩
theorem StpH.trans {W : Wd} {L L1 L2 : OwnH} {H H1 H2 : Hp} (o1 : W.ok H1) (a : StpH W L H L1 H1) (b : StpH W L1 H1 L2 H2) : StpH W L H L2 H2 := by
  refine ⟨fun x o m z => b.1 x o (fun q => ?_) (a.1 x o m z), fun k hk => ?_⟩
  · rcases plusL_mu.mp q with q | q
    · exact m (plusL_mu.mpr (.inl q))
    · rcases a.2 x q with q | q
      · exact m (plusL_mu.mpr (.inr q))
      · rw [q] at z; cases z
  · rcases b.2 k hk with h | h
    · exact a.2 k h
    · by_cases hm : k ∈ keysH L
      · exact .inl hm
      · refine .inr ?_
        cases q : H k with
        | none => rfl
        | some u =>
          by_cases hw : W.mu k
          · obtain ⟨o, e⟩ := W.live H1 k o1 hw
            rw [h] at e; cases e
          · rw [a.1 k u (fun z => (plusL_mu.mp z).elim hw hm) q] at h
            cases h
structure PoH where
  nx : OwnH → Gam → Prop
  rt : Ty → Prop
  bk : OwnH → Gam → Prop := fun _ _ => False
  ct : OwnH → Gam → Prop := fun _ _ => False
structure EOkH (W : Wd) (F : Hp) (L : OwnH) (H : Hp) (D : Ends) (R : PoH) : Prop where
  nx : ∀ L' oF nF σ' H' Γ', StpH W L H L' H' → (keysH L').Nodup → GOk (W.ownH F L' oF nF) H' σ' Γ' → R.nx L' Γ' → D.nx σ' H'
  rt : ∀ v H' (t : Ty), Ext W F H' → t.den W H' v → R.rt t → D.rt v H'
  bk : ∀ L' oF nF σ' H' Γ', StpH W L H L' H' → (keysH L').Nodup → GOk (W.ownH F L' oF nF) H' σ' Γ' → R.bk L' Γ' → D.bk σ' H'
  ct : ∀ L' oF nF σ' H' Γ', StpH W L H L' H' → (keysH L').Nodup → GOk (W.ownH F L' oF nF) H' σ' Γ' → R.ct L' Γ' → D.ct σ' H'
theorem EOkH.step {W : Wd} {F : Hp} {L L1 : OwnH} {H H1 : Hp} {D : Ends} {R : PoH} (h : EOkH W F L H D R) (o1 : W.ok H1) (s : StpH W L H L1 H1) : EOkH W F L1 H1 D R :=
  ⟨fun L' oF nF σ' H' Γ' s' => h.nx L' oF nF σ' H' Γ' (s.trans o1 s'), h.rt, fun L' oF nF σ' H' Γ' s' => h.bk L' oF nF σ' H' Γ' (s.trans o1 s'), fun L' oF nF σ' H' Γ' s' => h.ct L' oF nF σ' H' Γ' (s.trans o1 s')⟩
/-- a statement in a def with own lists L; F: the heap ahead of the first of them -/
def SxH (W : Wd) (F : Hp) (t : TS) (L : OwnH) (Γ : Gam) (R : PoH) : Prop :=
  ∀ D σ H oF nF, W.wish F → (keysH L).Nodup → GOk (W.ownH F L oF nF) H σ Γ → EOkH W F L H D R → t D σ H
section
variable {W : Wd} {F : Hp} {L : OwnH} {Γ : Gam} {ta tb te : TE} {tt : TT} {t u : TS} {R : PoH} {g : TG}
theorem SxH.imp {R' : PoH} (h : SxH W F t L Γ R') (n : ∀ L Γ', R'.nx L Γ' → R.nx L Γ') (r : ∀ v, R'.rt v → R.rt v) (b : ∀ L Γ', R'.bk L Γ' → R.bk L Γ') (c : ∀ L Γ', R'.ct L Γ' → R.ct L Γ') : SxH W F t L Γ R := fun D σ H oF nF wF nd G O =>
  h D σ H oF nF wF nd G ⟨fun L' oF nF σ' H' Γ' s nd' G' q => O.nx L' oF nF σ' H' Γ' s nd' G' (n _ _ q), fun v H' t e d q => O.rt v H' t e d (r _ q), fun L' oF nF σ' H' Γ' s nd' G' q => O.bk L' oF nF σ' H' Γ' s nd' G' (b _ _ q), fun L' oF nF σ' H' Γ' s nd' G' q => O.ct L' oF nF σ' H' Γ' s nd' G' (c _ _ q)⟩
/-- an own dict -/
structure Od (β : Type) where
  p : Addr
  kvs : List (Key × V)
  ds : List (Str × β)
instance {β : Type} [Rep β] : Rep (Od β) :=
  ⟨fun W H v a => v = .ref a.p ∧ Dk (den W H) a.kvs a.ds, fun e h => ⟨h.1, h.2.imp fun _ _ d => Rep.mono e d⟩, fun D n h => ⟨h.1, h.2.imp fun _ _ d => Rep.grow D n d⟩, fun D h => ⟨h.1, h.2.imp fun _ _ d => Rep.shrink D d⟩⟩
structure Fd (α : Type) where
  n : Str
  a : α
/-- the fields of an object; the last one that was set stands first -/
class FRep (β : Type) where
  fd : Wc → Hp → List (Str × V) → β → Prop
  mono : ∀ {W : Wc} {H H' : Hp} {fs : List (Str × V)} {b : β}, Kp W H H' → fd W H fs b → fd W H' fs b
  grow : ∀ {W : Wc} {H : Hp} {fs : List (Str × V)} {b : β} (D : Addr), H D = none → fd W H fs b → fd (W.plus D) H fs b
  shrink : ∀ {W : Wc} {H : Hp} {fs : List (Str × V)} {b : β} (D : Addr), fd (W.plus D) H fs b → fd W H fs b
  nms : β → List Str
  nm : ∀ {W : Wc} {H : Hp} {fs : List (Str × V)} {b : β}, fd W H fs b → fs.map (·.1) = nms b
instance frepU : FRep Unit := ⟨fun _ _ fs _ => fs = [], fun _ h => h, fun _ _ h => h, fun _ h => h, fun _ => [], fun h => by rw [h]; rfl⟩
instance frepP {α β : Type} [Rep α] [FRep β] : FRep (Fd α × β) :=
  ⟨fun W H fs b => ∃ v r, fs = r ++ [(b.1.n, v)] ∧ den W H v b.1.a ∧ FRep.fd W H r b.2,
   fun e ⟨v, r, h1, h2, h3⟩ => ⟨v, r, h1, Rep.mono e h2, FRep.mono e h3⟩,
   fun D n ⟨v, r, h1, h2, h3⟩ => ⟨v, r, h1, Rep.grow D n h2, FRep.grow D n h3⟩,
   fun D ⟨v, r, h1, h2, h3⟩ => ⟨v, r, h1, Rep.shrink D h2, FRep.shrink D h3⟩,
   fun b => FRep.nms b.2 ++ [b.1.n],
   fun ⟨v, r, h1, h2, h3⟩ => by rw [h1, List.map_append, FRep.nm h3]; rfl⟩
structure Oi (β : Type) where
  p : Addr
  c : Cn
  dx : Addr
  fs : List (Str × V)
  b : β
instance {β : Type} [FRep β] : Rep (Oi β) :=
  ⟨fun W H v o => v = .ref o.p ∧ FRep.fd W H o.fs o.b, fun e h => ⟨h.1, FRep.mono e h.2⟩, fun D n h => ⟨h.1, FRep.grow D n h.2⟩, fun D h => ⟨h.1, FRep.shrink D h.2⟩⟩
inductive FrzH (B : Bs) (L : OwnH) : Gam → Gam → Prop
  | nil : FrzH B L [] []
  | ownI {β : Type} {fβ : FRep β} {α : Type} {rα : Rep α} {o : Oi β} {a : α} {Γ Γ' : Gam} : (o.p, .ins (B.cl o.c) o.dx o.fs) ∈ L → (∀ (W : Wc) (H : Hp), W.B = B → ¬ W.mu o.p → H o.p = some (.ins (B.cl o.c) o.dx o.fs) → FRep.fd W H o.fs o.b → den W H (.ref o.p) a) → FrzH B L Γ Γ' → FrzH B L (some (T o) :: Γ) (some (T a) :: Γ')
  | ownJ {β : Type} {fβ : FRep β} {α : Type} {rα : Rep α} {o : Oi β} {a : α} {Γ Γ' : Gam} : (∀ (W : Wc) (H : Hp), W.B = B → (∀ x ∈ L, ¬ W.mu x.1 ∧ H x.1 = some x.2) → FRep.fd W H o.fs o.b → den W H (.ref o.p) a) → FrzH B L Γ Γ' → FrzH B L (some (T o) :: Γ) (some (T a) :: Γ')
  | ownL {α : Type} {rα : Rep α} {p : Addr} {vs : List V} {as : List α} {Γ Γ' : Gam} : (p, .lst vs) ∈ L → FrzH B L Γ Γ' → FrzH B L (some (T (Ol.mk p vs as)) :: Γ) (some (T as) :: Γ')
  | ownD {β : Type} {rβ : Rep β} {p : Addr} {kvs : List (Key × V)} {ds : List (Str × β)} {Γ Γ' : Gam} : (p, .dK kvs) ∈ L → FrzH B L Γ Γ' → FrzH B L (some (T (Od.mk p kvs ds)) :: Γ) (some (T (Dc.mk ds)) :: Γ')
  | same {t : Option Ty} {Γ Γ' : Gam} : FrzH B L Γ Γ' → FrzH B L (t :: Γ) (t :: Γ')
theorem FrzH.len {B : Bs} {Γ Γ' : Gam} (h : FrzH B L Γ Γ') : Γ.length = Γ'.length := by
  induction h with
  | nil => rfl
  | ownI _ _ _ ih => exact congrArg (· + 1) ih
  | ownJ _ _ ih => exact congrArg (· + 1) ih
  | ownL _ _ ih => exact congrArg (· + 1) ih
  | ownD _ _ ih => exact congrArg (· + 1) ih
  | same _ ih => exact congrArg (· + 1) ih
end
end G
set_option Elab.async false
set_option linter.all false
set_option maxRecDepth 100000
set_option maxHeartbeats 2000000
namespace G
open PySem PySem.Spec PyProof.Rows L2 StX
section
variable {W : Wd} {F : Hp} {L : OwnH} {Γ : Gam} {ta tb te tv to : TE} {tt : TT} {t u : TS} {R : PoH} {g : TG} {K : PySem.W.Frag}
/-- data that lean on no object -/
class Flat (α : Type) [Rep α] : Prop where
  at_ : ∀ {W W' : Wc} {H H' : Hp} {v : V} {a : α}, den W H v a → den W' H' v a
instance : Flat Int := ⟨fun h => h⟩
instance : Flat Bool := ⟨fun h => h⟩
instance : Flat Str := ⟨fun h => h⟩
instance : Flat Unit := ⟨fun h => h⟩
end
abbrev PI (β : Type) := Cn → (β → Prop) → (Xn → Prop) → List Ty → Prop
end G
set_option Elab.async false
set_option linter.all false
set_option maxRecDepth 100000
set_option maxHeartbeats 2000000
namespace G
open PySem PySem.Spec PyProof.Rows L2 StX
inductive RK where
  | leaf | rank | trim | weigh
  deriving DecidableEq
def RK.cn : RK → Cn
  | .leaf => .Leaf
  | .rank => .Rank
  | .trim => .Trim
  | .weigh => .Weigh
inductive Ru where
  | mk (k : RK) (lb : Str) (ns : List Int) (ps : List Ru) (rk : Bool)
def Ru.k : Ru → RK | .mk k _ _ _ _ => k
def Ru.lb : Ru → Str | .mk _ l _ _ _ => l
def Ru.ns : Ru → List Int | .mk _ _ n _ _ => n
def Ru.ps : Ru → List Ru | .mk _ _ _ p _ => p
def Ru.rk : Ru → Bool | .mk _ _ _ _ r => r
/-- what the text says of a class of rules -/
structure RcT (B : Bs) (k : RK) : Prop where
  cl : L2.Cls B.K (B.cl k.cn)
  nlabel : NoAttr B.K (B.cl k.cn) "label"
  nnumbers : NoAttr B.K (B.cl k.cn) "numbers"
  nparts : NoAttr B.K (B.cl k.cn) "parts"
  nranked : NoAttr B.K (B.cl k.cn) "ranked"
def ruF (lb : Str) (tn tp : Addr) (rk : Bool) : List (Str × V) := [("label", .str lb), ("numbers", .ref tn), ("parts", .ref tp), ("ranked", .bl rk)]
mutual
def ruD (W : Wc) (H : Hp) (v : V) : Ru → Prop
  | .mk k lb ns ps rk => ∃ a dx tn tp vs, v = .ref a ∧ ¬ W.mu a ∧ H a = some (.ins (W.B.cl k.cn) dx (ruF lb tn tp rk)) ∧ Tq W H tn (ns.map V.int) ∧ Tq W H tp vs ∧ RcT W.B k ∧ ruL W H vs ps
def ruL (W : Wc) (H : Hp) (vs : List V) : List Ru → Prop
  | [] => vs = []
  | p :: ps => ∃ v r, vs = v :: r ∧ ruD W H v p ∧ ruL W H r ps
end
mutual
theorem ruD_mono {W : Wc} {H H' : Hp} (e : Kp W H H') : ∀ (v : V) (r : Ru), ruD W H v r → ruD W H' v r
  | v, .mk k lb ns ps rk, h => by
    unfold ruD at h ⊢
    obtain ⟨a, dx, tn, tp, vs, hv, m, hH, h1, h2, hc, h3⟩ := h
    exact ⟨a, dx, tn, tp, vs, hv, m, e _ _ m hH, h1.mono e, h2.mono e, hc, ruL_mono e _ _ h3⟩
theorem ruL_mono {W : Wc} {H H' : Hp} (e : Kp W H H') : ∀ (vs : List V) (r : List Ru), ruL W H vs r → ruL W H' vs r
  | vs, [], h => by unfold ruL at h ⊢; exact h
  | vs, p :: ps, h => by
    unfold ruL at h ⊢
    obtain ⟨v, r, hv, h1, h2⟩ := h
    exact ⟨v, r, hv, ruD_mono e _ _ h1, ruL_mono e _ _ h2⟩
end
mutual
theorem ruD_grow {W : Wc} {H : Hp} (D : Addr) (n : H D = none) : ∀ (v : V) (r : Ru), ruD W H v r → ruD (W.plus D) H v r
  | v, .mk k lb ns ps rk, h => by
    unfold ruD at h ⊢
    obtain ⟨a, dx, tn, tp, vs, hv, m, hH, h1, h2, hc, h3⟩ := h
    exact ⟨a, dx, tn, tp, vs, hv, mu_grow n m hH, hH, h1.grow D n, h2.grow D n, hc, ruL_grow D n _ _ h3⟩
theorem ruL_grow {W : Wc} {H : Hp} (D : Addr) (n : H D = none) : ∀ (vs : List V) (r : List Ru), ruL W H vs r → ruL (W.plus D) H vs r
  | vs, [], h => by unfold ruL at h ⊢; exact h
  | vs, p :: ps, h => by
    unfold ruL at h ⊢
    obtain ⟨v, r, hv, h1, h2⟩ := h
    exact ⟨v, r, hv, ruD_grow D n _ _ h1, ruL_grow D n _ _ h2⟩
end
mutual
theorem ruD_shrink {W : Wc} {H : Hp} (D : Addr) : ∀ (v : V) (r : Ru), ruD (W.plus D) H v r → ruD W H v r
  | v, .mk k lb ns ps rk, h => by
    unfold ruD at h ⊢
    obtain ⟨a, dx, tn, tp, vs, hv, m, hH, h1, h2, hc, h3⟩ := h
    exact ⟨a, dx, tn, tp, vs, hv, fun z => m (.inl z), hH, h1.shrink D, h2.shrink D, hc, ruL_shrink D _ _ h3⟩
theorem ruL_shrink {W : Wc} {H : Hp} (D : Addr) : ∀ (vs : List V) (r : List Ru), ruL (W.plus D) H vs r → ruL W H vs r
  | vs, [], h => by unfold ruL at h ⊢; exact h
  | vs, p :: ps, h => by
    unfold ruL at h ⊢
    obtain ⟨v, r, hv, h1, h2⟩ := h
    exact ⟨v, r, hv, ruD_shrink D _ _ h1, ruL_shrink D _ _ h2⟩
end
instance : Rep Ru := ⟨ruD, fun e h => ruD_mono e _ _ h, fun D n h => ruD_grow D n _ _ h, fun D h => ruD_shrink D _ _ h⟩
theorem ruL_dl {W : Wc} {H : Hp} : ∀ {vs : List V} {ps : List Ru}, ruL W H vs ps ↔ Dl (den W H) vs ps
  | vs, [] => by
    unfold ruL
    constructor
    · rintro rfl; exact .nil
    · intro h; cases h; rfl
  | vs, p :: ps => by
    unfold ruL
    constructor
    · rintro ⟨v, r, rfl, h1, h2⟩
      exact .cons h1 (ruL_dl.mp h2)
    · intro h
      cases h with
      | cons h1 h2 => exact ⟨_, _, rfl, h1, ruL_dl.mpr h2⟩
theorem ru_den {W : Wc} {H : Hp} {v : V} {r : Ru} : den W H v r ↔ ∃ a dx tn tp vs, v = .ref a ∧ ¬ W.mu a ∧ H a = some (.ins (W.B.cl r.k.cn) dx (ruF r.lb tn tp r.rk)) ∧ Tq W H tn (r.ns.map V.int) ∧ Tq W H tp vs ∧ RcT W.B r.k ∧ Dl (den W H) vs r.ps := by
  obtain ⟨k, lb, ns, ps, rk⟩ := r
  show ruD W H v _ ↔ _
  unfold ruD
  constructor
  · rintro ⟨a, dx, tn, tp, vs, h1, h2, h3, h4, h5, hc, h6⟩
    exact ⟨a, dx, tn, tp, vs, h1, h2, h3, h4, h5, hc, ruL_dl.mp h6⟩
  · rintro ⟨a, dx, tn, tp, vs, h1, h2, h3, h4, h5, hc, h6⟩
    exact ⟨a, dx, tn, tp, vs, h1, h2, h3, h4, h5, hc, ruL_dl.mpr h6⟩
/-- data that stand for an object, of one of several classes -/
class VIns (β : Type) [Rep β] (fl : outParam (List Str)) where
  kn : β → Cn
  at_ : ∀ {W : Wc} {H : Hp} {v : V} {b : β}, den W H v b → ∃ a dx fs, v = .ref a ∧ ¬ W.mu a ∧ H a = some (.ins (W.B.cl (kn b)) dx fs) ∧ fs.map (·.1) = fl
instance : VIns Ru ["label", "numbers", "parts", "ranked"] := ⟨fun r => r.k.cn, fun h => by
  obtain ⟨a, dx, tn, tp, vs, h1, h2, h3, _⟩ := ru_den.mp h
  exact ⟨a, dx, _, h1, h2, h3, rfl⟩⟩
end G
set_option Elab.async false
set_option linter.all false
set_option maxRecDepth 100000
set_option maxHeartbeats 2000000
namespace G
open PySem PySem.Spec PyProof.Rows L2 StX
mutual
def namesF : Ru → List Str
  | .mk .leaf lb _ _ _ => [lb]
  | .mk .rank _ _ ps _ => namesL ps
  | .mk .trim _ _ ps _ => namesL ps
  | .mk .weigh _ _ ps _ => namesL ps
def namesL : List Ru → List Str
  | [] => []
  | p :: ps => namesF p ++ namesL ps
end
def sortI (as : List Int) : List Int := as.mergeSort fun a b => decide (a ≤ b)
/-- the least number of a list -/
def minL : List Int → Int
  | [] => 0
  | [a] => a
  | a :: b :: r => min a (minL (b :: r))
def wUp (ns as : List Int) (m : Int) : Int := (((as.zip ns).filter fun q => decide (q.1 ≤ m)).map fun q => q.2).sum
/-- the answers of which the mean is taken -/
def cntF (k : RK) (ns as : List Int) : List Int := match k with
  | .leaf => []
  | .rank => [(sortI as).getD (ns.headD 0).toNat 0]
  | .trim => ((sortI as).drop (ns.headD 0).toNat).take (as.length - (ns.headD 0).toNat - (ns.headD 0).toNat)
  | .weigh => [minL (as.filter fun a => decide (ns.sum ≤ 2 * wUp ns as a))]
def nodeF (k : RK) (ns as : List Int) : Int := (cntF k ns as).sum / (cntF k ns as).length
mutual
def ansF (rd : Str → Int) : Ru → Int
  | .mk .leaf lb _ _ _ => rd lb
  | .mk .rank _ ns ps _ => nodeF .rank ns (ansL rd ps)
  | .mk .trim _ ns ps _ => nodeF .trim ns (ansL rd ps)
  | .mk .weigh _ ns ps _ => nodeF .weigh ns (ansL rd ps)
def ansL (rd : Str → Int) : List Ru → List Int
  | [] => []
  | p :: ps => ansF rd p :: ansL rd ps
end
end G
namespace G
open PySem PySem.Spec PyProof.Rows L2 StX
end G
namespace G
open PySem PySem.Spec PyProof.Rows L2 StX
end G
namespace G
end G
namespace G
end G
namespace G
open PySem PySem.Spec PyProof.Rows L2 StX
theorem EvF.imp {β : Type} {rβ : Rep β} {W : Wd} {te : TE} {Γ : Gam} {k k' : List β → Prop} (h : EvF W te Γ k) (i : ∀ bs, k bs → k' bs) : EvF W te Γ k' := fun σ H Q G c =>
  h σ H Q G fun p H' vs bs n e hp hd q => c p H' vs bs n e hp hd (i bs q)
end G
namespace G
open PySem PySem.Spec PyProof.Rows L2 StX
/-- numbers that the readings of a dict are -/
def rdF (ds : List (Str × Int)) (n : Str) : Int := (getDc ds n).getD 0
end G
namespace G
end G
set_option Elab.async false
set_option linter.all false
set_option maxRecDepth 100000
set_option maxHeartbeats 2000000
namespace G
open PySem PySem.Spec PyProof.Rows L2 StX
mutual
theorem ruD_nolst {W : Wc} {H : Hp} {D : Addr} {xs : List V} (h : H D = some (.lst xs)) : ∀ (v : V) (r : Ru), ruD W H v r → ruD (W.plus D) H v r
  | v, .mk k lb ns ps rk, hr => by
    unfold ruD at hr ⊢
    obtain ⟨a, dx, tn, tp, vs, hv, m, hH, h1, h2, hc, h3⟩ := hr
    exact ⟨a, dx, tn, tp, vs, hv, fun z => z.elim m fun z => (by rw [z, h] at hH; cases hH), hH, tq_nl h h1, tq_nl h h2, hc, ruL_nolst h _ _ h3⟩
theorem ruL_nolst {W : Wc} {H : Hp} {D : Addr} {xs : List V} (h : H D = some (.lst xs)) : ∀ (vs : List V) (r : List Ru), ruL W H vs r → ruL (W.plus D) H vs r
  | vs, [], hr => by unfold ruL at hr ⊢; exact hr
  | vs, p :: ps, hr => by
    unfold ruL at hr ⊢
    obtain ⟨v, r, hv, h1, h2⟩ := hr
    exact ⟨v, r, hv, ruD_nolst h _ _ h1, ruL_nolst h _ _ h2⟩
end
instance : NoLst Ru := ⟨fun h d => ruD_nolst h _ _ d⟩
end G
namespace G
open PySem PySem.Spec PyProof.Rows L2 StX
theorem EvL.imp {α : Type} {rα : Rep α} {W : Wd} {ta : TA} {Γ : Gam} {k k' : List α → Prop} (h : EvL W ta Γ k) (i : ∀ as, k as → k' as) : EvL W ta Γ k' := fun σ H Q G c => h σ H Q G fun vs H' as e d q => c vs H' as e d (i as q)
theorem len1 {α : Type} : ∀ {l : List α}, l.length = 1 → ∃ a, l = [a]
  | [a], _ => ⟨a, rfl⟩
end G
namespace G
open PySem PySem.Spec PyProof.Rows L2 StX
end G
namespace G
open PySem PySem.Spec PyProof.Rows L2 StX
end G
set_option Elab.async false
set_option linter.all false
set_option maxRecDepth 100000
set_option maxHeartbeats 2000000
namespace G
open PySem PySem.Spec PyProof.Rows L2 StX
theorem Dl.dropLast {α : Type} {f : V → α → Prop} : ∀ {vs : List V} {as : List α}, Dl f vs as → Dl f vs.dropLast as.dropLast
  | _, _, .nil => .nil
  | _, _, .cons _ .nil => .nil
  | _, _, .cons x (.cons y z) => .cons x (Dl.dropLast (.cons y z))
end G
namespace G
open PySem PySem.Spec PyProof.Rows L2 StX
end G
namespace G
open PySem PySem.Spec PyProof.Rows L2 StX
end G
namespace G
open PySem PySem.Spec PyProof.Rows L2 StX
end G
set_option Elab.async false
set_option linter.all false
set_option maxRecDepth 100000
set_option maxHeartbeats 2000000
namespace G
open PySem PySem.Spec PyProof.Rows L2 StX
end G
namespace G
open PySem PySem.Spec PyProof.Rows L2 StX
end G
namespace G
open PySem PySem.Spec PyProof.Rows L2 StX
end G
namespace G
open PySem PySem.Spec PyProof.Rows L2 StX
end G
namespace G
end G
namespace G
open PySem PySem.Spec PyProof.Rows L2 StX
/-- list(x), x a list -/
theorem evF_listOf {α : Type} {rα : Rep α} {W : Wd} {Γ : Gam} {te : TE} {K : PySem.W.Frag} {k : List α → Prop} (hK : W.B.K = K) (h : EvK W te Γ fun as : List α => k as) :
    EvF W (tCB (fun xs H Q => ∃ p ys, xs = [V.ref p] ∧ (SqL K H p ys ∨ SqT K H p ys) ∧ ∀ l, H l = none → Q (V.ref l) (upd H l (HO.lst ys))) (tCons te tNil)) Γ k := by
  subst hK
  refine fun σ H Q G c => h σ H _ G fun v H1 as e1 ⟨p, xs, hv, hp, hd⟩ z => ⟨p, xs, by rw [hv], .inl hp.sq, fun l hl => ?_⟩
  have e2 := Ext.new (o := .lst xs) e1.ok hl
  refine c l _ xs as (fresh_back e1.ok e1 hl) (e1.trans e2) upd_same (hd.imp fun _ _ d => ?_) z
  exact Rep.mono (W := W.toWc.plus l) (fun b o m q => e2.keep b o (fun z => m (.inl z)) q) (Rep.grow l hl d)
end G
namespace G
open PySem PySem.Spec PyProof.Rows L2 StX
def ab : List Str := ["a", "b"]
end G
namespace G
open PySem PySem.Spec PyProof.Rows L2 StX
end G
set_option Elab.async false
set_option linter.all false
set_option maxRecDepth 100000
set_option maxHeartbeats 2000000
namespace G
open PySem PySem.Spec PyProof.Rows L2 StX
structure Tt where
  r : Ru
def trN : RK → Str
  | .leaf => "leaf"
  | .rank => "rank"
  | .trim => "trim"
  | .weigh => "weigh"
def trX (W : Wc) (H : Hp) (x : V) (k : RK) (lb : Str) (ns : List Int) : Prop := match k with
  | .leaf => x = .str lb
  | .rank => ∃ n, ns = [n] ∧ x = .int n
  | .trim => ∃ n, ns = [n] ∧ x = .int n
  | .weigh => ∃ q, x = .ref q ∧ Lq W H q (ns.map V.int)
theorem trX_mono {W : Wc} {H H' : Hp} {x : V} {k : RK} {lb : Str} {ns : List Int} (e : Kp W H H') (h : trX W H x k lb ns) : trX W H' x k lb ns := by
  cases k with
  | weigh => obtain ⟨q, h1, h2⟩ := h; exact ⟨q, h1, h2.mono e⟩
  | _ => exact h
theorem trX_grow {W : Wc} {H : Hp} {x : V} {k : RK} {lb : Str} {ns : List Int} (D : Addr) (n : H D = none) (h : trX W H x k lb ns) : trX (W.plus D) H x k lb ns := by
  cases k with
  | weigh => obtain ⟨q, h1, h2⟩ := h; exact ⟨q, h1, h2.grow D n⟩
  | _ => exact h
theorem trX_shrink {W : Wc} {H : Hp} {x : V} {k : RK} {lb : Str} {ns : List Int} (D : Addr) (h : trX (W.plus D) H x k lb ns) : trX W H x k lb ns := by
  cases k with
  | weigh => obtain ⟨q, h1, h2⟩ := h; exact ⟨q, h1, h2.shrink D⟩
  | _ => exact h
mutual
def trD (W : Wc) (H : Hp) (v : V) : Ru → Prop
  | .mk k lb ns ps rk => ∃ p x lp vs, v = .ref p ∧ Tq W H p [.str (trN k), x, .ref lp] ∧ trX W H x k lb ns ∧ Lq W H lp vs ∧ trL W H vs ps
def trL (W : Wc) (H : Hp) (vs : List V) : List Ru → Prop
  | [] => vs = []
  | p :: ps => ∃ v r, vs = v :: r ∧ trD W H v p ∧ trL W H r ps
end
mutual
theorem trD_mono {W : Wc} {H H' : Hp} (e : Kp W H H') : ∀ (v : V) (r : Ru), trD W H v r → trD W H' v r
  | v, .mk k lb ns ps rk, h => by
    unfold trD at h ⊢
    obtain ⟨p, x, lp, vs, hv, h1, h2, h3, h4⟩ := h
    exact ⟨p, x, lp, vs, hv, h1.mono e, trX_mono e h2, h3.mono e, trL_mono e _ _ h4⟩
theorem trL_mono {W : Wc} {H H' : Hp} (e : Kp W H H') : ∀ (vs : List V) (r : List Ru), trL W H vs r → trL W H' vs r
  | vs, [], h => by unfold trL at h ⊢; exact h
  | vs, p :: ps, h => by
    unfold trL at h ⊢
    obtain ⟨v, r, hv, h1, h2⟩ := h
    exact ⟨v, r, hv, trD_mono e _ _ h1, trL_mono e _ _ h2⟩
end
mutual
theorem trD_grow {W : Wc} {H : Hp} (D : Addr) (n : H D = none) : ∀ (v : V) (r : Ru), trD W H v r → trD (W.plus D) H v r
  | v, .mk k lb ns ps rk, h => by
    unfold trD at h ⊢
    obtain ⟨p, x, lp, vs, hv, h1, h2, h3, h4⟩ := h
    exact ⟨p, x, lp, vs, hv, h1.grow D n, trX_grow D n h2, h3.grow D n, trL_grow D n _ _ h4⟩
theorem trL_grow {W : Wc} {H : Hp} (D : Addr) (n : H D = none) : ∀ (vs : List V) (r : List Ru), trL W H vs r → trL (W.plus D) H vs r
  | vs, [], h => by unfold trL at h ⊢; exact h
  | vs, p :: ps, h => by
    unfold trL at h ⊢
    obtain ⟨v, r, hv, h1, h2⟩ := h
    exact ⟨v, r, hv, trD_grow D n _ _ h1, trL_grow D n _ _ h2⟩
end
mutual
theorem trD_shrink {W : Wc} {H : Hp} (D : Addr) : ∀ (v : V) (r : Ru), trD (W.plus D) H v r → trD W H v r
  | v, .mk k lb ns ps rk, h => by
    unfold trD at h ⊢
    obtain ⟨p, x, lp, vs, hv, h1, h2, h3, h4⟩ := h
    exact ⟨p, x, lp, vs, hv, h1.shrink D, trX_shrink D h2, h3.shrink D, trL_shrink D _ _ h4⟩
theorem trL_shrink {W : Wc} {H : Hp} (D : Addr) : ∀ (vs : List V) (r : List Ru), trL (W.plus D) H vs r → trL W H vs r
  | vs, [], h => by unfold trL at h ⊢; exact h
  | vs, p :: ps, h => by
    unfold trL at h ⊢
    obtain ⟨v, r, hv, h1, h2⟩ := h
    exact ⟨v, r, hv, trD_shrink D _ _ h1, trL_shrink D _ _ h2⟩
end
instance : Rep Tt := ⟨fun W H v t => trD W H v t.r, fun e h => trD_mono e _ _ h, fun D n h => trD_grow D n _ _ h, fun D h => trD_shrink D _ _ h⟩
end G
namespace G
open PySem PySem.Spec PyProof.Rows L2 StX
end G
set_option Elab.async false
set_option linter.all false
set_option maxRecDepth 100000
set_option maxHeartbeats 2000000
namespace G
open PySem
/-- each of a list at most its fellow -/
def LeL : List Int → List Int → Prop
  | [], [] => True
  | a :: as, b :: bs => a ≤ b ∧ LeL as bs
  | _, _ => False
theorem LeL.length : ∀ {as bs : List Int}, LeL as bs → as.length = bs.length
  | [], [], _ => rfl
  | a :: as, b :: bs, h => congrArg (· + 1) (LeL.length h.2)
  | [], b :: bs, h => h.elim
  | a :: as, [], h => h.elim
theorem LeL.drop : ∀ (n : Nat) {as bs : List Int}, LeL as bs → LeL (as.drop n) (bs.drop n)
  | 0, _, _, h => h
  | n + 1, [], [], h => trivial
  | n + 1, a :: as, b :: bs, h => LeL.drop n h.2
  | n + 1, [], b :: bs, h => h.elim
  | n + 1, a :: as, [], h => h.elim
theorem LeL.take : ∀ (n : Nat) {as bs : List Int}, LeL as bs → LeL (as.take n) (bs.take n)
  | 0, _, _, h => trivial
  | n + 1, [], [], h => trivial
  | n + 1, a :: as, b :: bs, h => ⟨h.1, LeL.take n h.2⟩
  | n + 1, [], b :: bs, h => h.elim
  | n + 1, a :: as, [], h => h.elim
theorem LeL.sum : ∀ {as bs : List Int}, LeL as bs → as.sum ≤ bs.sum
  | [], [], _ => Int.le_refl _
  | a :: as, b :: bs, h => by
    rw [List.sum_cons, List.sum_cons]
    have := LeL.sum h.2
    have := h.1
    omega
  | [], b :: bs, h => h.elim
  | a :: as, [], h => h.elim
theorem LeL.at_ : ∀ {as bs : List Int} (i : Nat), LeL as bs → as.getD i 0 ≤ bs.getD i 0
  | [], [], _, _ => Int.le_refl _
  | a :: as, b :: bs, 0, h => h.1
  | a :: as, b :: bs, i + 1, h => by
    have := LeL.at_ i h.2
    simpa using this
  | [], b :: bs, _, h => h.elim
  | a :: as, [], _, h => h.elim
end G
set_option Elab.async false
set_option linter.all false
set_option maxRecDepth 100000
set_option maxHeartbeats 2000000
namespace G
open PySem PySem.Spec PyProof.Rows L2 StX
inductive Rw where
  | n (a b : Int)
  | l (a : Int) (bs : List Int)
def Rw.a : Rw → Int
  | .n a _ => a
  | .l a _ => a
def rwX (W : Wc) (H : Hp) (x : V) : Rw → Prop
  | .n _ b => x = .int b
  | .l _ bs => ∃ q, x = .ref q ∧ Lq W H q (bs.map V.int)
instance : Rep Rw := ⟨fun W H v r => ∃ p x, v = .ref p ∧ Tq W H p [.int r.a, x] ∧ rwX W H x r, fun {W H H' v r} e h => by
    obtain ⟨p, x, hv, h1, h2⟩ := h
    refine ⟨p, x, hv, h1.mono e, ?_⟩
    cases r with
    | n a b => exact h2
    | l a bs => obtain ⟨q, h3, h4⟩ := h2; exact ⟨q, h3, h4.mono e⟩, fun {W H v r} D n h => by
    obtain ⟨p, x, hv, h1, h2⟩ := h
    refine ⟨p, x, hv, h1.grow D n, ?_⟩
    cases r with
    | n a b => exact h2
    | l a bs => obtain ⟨q, h3, h4⟩ := h2; exact ⟨q, h3, h4.grow D n⟩, fun {W H v r} D h => by
    obtain ⟨p, x, hv, h1, h2⟩ := h
    refine ⟨p, x, hv, h1.shrink D, ?_⟩
    cases r with
    | n a b => exact h2
    | l a bs => obtain ⟨q, h3, h4⟩ := h2; exact ⟨q, h3, h4.shrink D⟩⟩
theorem repr_small {w : Str} (h : ∀ c ∈ w.cps.toList, c < 16 ^ 8) (hl : w.length ≤ 200) : (reprText w).length ≤ 3000 := by
  have := StrLaws.reprText_len w h
  omega
end G
namespace G
open PySem PySem.Spec PyProof.Rows L2 StX
end G
namespace G
open PySem PySem.Spec PyProof.Rows L2 StX
end G
namespace G
open PySem PySem.Spec PyProof.Rows L2 StX
end G
namespace G
open PySem PySem.Spec PyProof.Rows L2 StX
end G
set_option Elab.async false
set_option linter.all false
set_option maxRecDepth 100000
set_option maxHeartbeats 2000000
namespace G
open PySem PySem.Spec PyProof.Rows L2 StX
end G
namespace G
open PySem PySem.Spec PyProof.Rows L2 StX
end G
namespace G
open PySem PySem.Spec PyProof.Rows L2 StX
end G
namespace G
open PySem PySem.Spec PyProof.Rows L2 StX
end G
namespace G
open PySem PySem.Spec PyProof.Rows L2 StX
end G
namespace G
open PySem PySem.Spec PyProof.Rows L2 StX
end G
namespace G
open PySem PySem.Spec PyProof.Rows L2 StX
def cl (s : Str) : List Nat := s.cps.toList
end G
namespace G
open PySem PySem.Spec PyProof.Rows L2 StX
end G
set_option Elab.async false
set_option linter.all false
set_option maxRecDepth 100000
set_option maxHeartbeats 2000000
namespace G
open PySem PySem.Spec PyProof.Rows L2 StX
end G
namespace G
open PySem PySem.Spec PyProof.Rows L2 StX
structure RackT (B : Bs) : Prop where
  cl : L2.Cls B.K (B.cl .Rack)
  ng : NoAttr B.K (B.cl .Rack) "_gauges"
  nf : NoAttr B.K (B.cl .Rack) "_faults"
structure Rp where
  gs : List Gau
structure Rk where
  gs : List Gau
  fl : List (List Str)
instance : Rep Rp :=
  ⟨fun W H v r => ∃ a dx w, v = .ref a ∧ ¬ W.mu a ∧ H a = some (.ins (W.B.cl .Rack) dx [("_gauges", w)]) ∧ den W H w r.gs ∧ RackT W.B,
   fun e ⟨a, dx, w, hv, m, h, h1, h2⟩ => ⟨a, dx, w, hv, m, e _ _ m h, Rep.mono e h1, h2⟩,
   fun D n ⟨a, dx, w, hv, m, h, h1, h2⟩ => ⟨a, dx, w, hv, mu_grow n m h, h, Rep.grow D n h1, h2⟩,
   fun D ⟨a, dx, w, hv, m, h, h1, h2⟩ => ⟨a, dx, w, hv, fun z => m (.inl z), h, Rep.shrink D h1, h2⟩⟩
instance : Rep Rk :=
  ⟨fun W H v r => ∃ a dx w u, v = .ref a ∧ ¬ W.mu a ∧ H a = some (.ins (W.B.cl .Rack) dx [("_gauges", w), ("_faults", u)]) ∧ den W H w r.gs ∧ den W H u r.fl ∧ RackT W.B,
   fun e ⟨a, dx, w, u, hv, m, h, h1, h3, h2⟩ => ⟨a, dx, w, u, hv, m, e _ _ m h, Rep.mono e h1, Rep.mono e h3, h2⟩,
   fun D n ⟨a, dx, w, u, hv, m, h, h1, h3, h2⟩ => ⟨a, dx, w, u, hv, mu_grow n m h, h, Rep.grow D n h1, Rep.grow D n h3, h2⟩,
   fun D ⟨a, dx, w, u, hv, m, h, h1, h3, h2⟩ => ⟨a, dx, w, u, hv, fun z => m (.inl z), h, Rep.shrink D h1, Rep.shrink D h3, h2⟩⟩
instance : Ins Rp .Rack ["_gauges"] := ⟨fun ⟨a, dx, w, hv, m, h, _⟩ => ⟨a, dx, _, hv, m, h, rfl⟩⟩
instance : Ins Rk .Rack ["_gauges", "_faults"] := ⟨fun ⟨a, dx, w, u, hv, m, h, _⟩ => ⟨a, dx, _, hv, m, h, rfl⟩⟩
end G
namespace G
open PySem PySem.Spec PyProof.Rows L2 StX
end G
set_option Elab.async false
set_option linter.all false
set_option maxRecDepth 100000
set_option maxHeartbeats 2000000
namespace G
open PySem PySem.Spec PyProof.Rows L2 StX
end G
namespace G
open PySem PySem.Spec PyProof.Rows L2 StX
end G
namespace G
open PySem PySem.Spec PyProof.Rows L2 StX
theorem Dk.append {β : Type} {f : V → β → Prop} : ∀ {a b : List (Key × V)} {l m : List (Str × β)}, Dk f a l → Dk f b m → Dk f (a ++ b) (l ++ m)
  | _, _, _, _, .nil, h => h
  | _, _, _, _, .cons x y, h => .cons x (y.append h)
end G
set_option Elab.async false
set_option linter.all false
set_option maxRecDepth 100000
set_option maxHeartbeats 2000000
namespace G
open PySem PySem.Spec PyProof.Rows L2 StX
/-- the keyword as it was written, or not at all -/
def KwOf (kn : Str) (dv v0 : V) (kws : List (Str × Value)) : Prop := (kws = [] ∧ v0 = dv) ∨ ∃ w0, kws = [(kn, w0)] ∧ RelV v0 w0
def spSK (sp : Sp) (v0 : V) : Sp := fun vs H Q E => ∃ a rest, vs = a :: rest ∧ rest.length ≤ sizeLine ∧ ∀ p, H p = Option.none → sp [a, v0, .ref p] (upd H p (.tup rest)) Q E
def FnSK (P : Program) (w : World) (K : PySem.W.Frag) (mg : Str → Option Value) (base : Heap) (CX : CXT) (k : Nat) (f : Addr) (kn : Str) (dv : V) (sp : Sp) : Prop :=
  ∀ (A : Around) (outer : List Env) (s : Shared) (H : Hp) (us : List Value) (vs : List V) (kws : List (Str × Value)) (v0 : V) (Q : VK) (E : XK), Room k A → Env0 P w K mg base A outer s H → Vals vs us → KwOf kn dv v0 kws → spSK sp v0 vs H Q E →
    codeAny (model P w) A (.call (.ref f) ⟨us, kws⟩) (CR CX outer P w H s Q E) s
theorem FnSK.mono {P : Program} {w : World} {K : PySem.W.Frag} {mg : Str → Option Value} {base : Heap} {CX : CXT} {j k : Nat} {f : Addr} {kn : Str} {dv : V} {sp : Sp} (F : FnSK P w K mg base CX j f kn dv sp) (h : j ≤ k) : FnSK P w K mg base CX k f kn dv sp := fun A outer s H us vs kws v0 Q E hr => F A outer s H us vs kws v0 Q E (hr.mono h)
end G
set_option Elab.async false
set_option linter.all false
set_option maxRecDepth 100000
set_option maxHeartbeats 2000000
namespace G
open PySem PySem.Spec PyProof.Rows L2 StX
section
variable {W : Wd} {F : Hp} {L : OwnH} {Γ : Gam} {ta tb te tv to : TE} {tt : TT} {t u : TS} {R : PoH} {g : TG} {wi : TI} {K : PySem.W.Frag}
/-- how slots are seen once the own thing o at q has come to rest -/
inductive RestQ (B : Bs) (q : Addr) (o : HO) : Gam → Gam → Prop
  | nil : RestQ B q o [] []
  | conv {t t' : Ty} {Γ Γ' : Gam} : (∀ (W : Wc) (H : Hp) (v : V), W.B = B → ¬ W.mu q → H q = some o → t.den (W.plus q) H v → t'.den W H v) → RestQ B q o Γ Γ' → RestQ B q o (some t :: Γ) (some t' :: Γ')
  | same {t : Option Ty} {Γ Γ' : Gam} : RestQ B q o Γ Γ' → RestQ B q o (t :: Γ) (t :: Γ')
  | drop {t : Option Ty} {Γ Γ' : Gam} : RestQ B q o Γ Γ' → RestQ B q o (t :: Γ) (none :: Γ')
theorem RestQ.len {B : Bs} {q : Addr} {o : HO} {Γ Γ' : Gam} (h : RestQ B q o Γ Γ') : Γ.length = Γ'.length := by
  induction h with
  | nil => rfl
  | conv _ _ ih => exact congrArg (· + 1) ih
  | same _ ih => exact congrArg (· + 1) ih
  | drop _ ih => exact congrArg (· + 1) ih
end
end G
set_option Elab.async false
set_option linter.all false
set_option maxRecDepth 100000
set_option maxHeartbeats 2000000
namespace G
open PySem PySem.Spec PyProof.Rows L2 StX
structure Em where
instance : Rep Em := ⟨fun W _ v _ => ∃ p, v = .ref p ∧ ∀ H, SqT W.B.K H p [], fun _ h => h, fun _ _ h => h, fun _ h => h⟩
end G
namespace G
open PySem PySem.Spec PyProof.Rows L2 StX
end G
set_option Elab.async false
set_option linter.all false
set_option maxRecDepth 100000
set_option maxHeartbeats 2000000
namespace G
open PySem PySem.Spec PyProof.Rows L2 StX
end G
namespace G
open PySem PySem.Spec PyProof.Rows L2 StX
end G
namespace G
open PySem PySem.Spec PyProof.Rows L2 StX
/-- a name that may stand in an error's text -/
structure NmOk (w : Str) : Prop where
  ok : PyData.strOk w = true
  rep : (reprText w).length ≤ 3000
  len : w.length ≤ 3000
end G
set_option Elab.async false
set_option linter.all false
set_option maxRecDepth 100000
set_option maxHeartbeats 2000000
namespace G
open PySem PySem.Spec PyProof.Rows L2 StX
/-- alike data that may be sorted -/
class Srt (α : Type) [Rep α] extends Dat α where
  alk : ∀ a b : α, PySem.W.alike (toD a) (toD b) = true
  tup : (∀ a : α, ∃ x r, toD a = .tuple (x :: r)) ∨ ∀ a : α, toD a ≠ .none ∧ ∀ xs, toD a ≠ .tuple xs
end G
namespace G
open PySem PySem.Spec PyProof.Rows L2 StX
/-- data of one shape -/
class Alk (α : Type) [Rep α] [Dat α] : Prop where
  alk : ∀ a b : α, PySem.W.alike (Dat.toD a) (Dat.toD b) = true
instance : Alk Int := ⟨fun a b => by show PySem.W.alike (.int a) (.int b) = true; simp [PySem.W.alike]⟩
instance : Alk Str := ⟨fun a b => by show PySem.W.alike (.str a) (.str b) = true; simp [PySem.W.alike]⟩
theorem alk_all {α : Type} [Rep α] [Dat α] [Alk α] : ∀ as bs : List α, PySem.W.alikeAll (as.map Dat.toD) (bs.map Dat.toD) = true
  | [], _ => by simp [PySem.W.alikeAll]
  | _ :: _, [] => by simp [PySem.W.alikeAll]
  | a :: as, b :: bs => by
    rw [List.map_cons, List.map_cons, PySem.W.alikeAll, Alk.alk a b, alk_all as bs]
    rfl
instance {α : Type} [Rep α] [Dat α] [Alk α] : Alk (List α) := ⟨fun as bs => by
  show PySem.W.alike (.list (as.map Dat.toD)) (.list (bs.map Dat.toD)) = true
  rw [PySem.W.alike]
  exact alk_all as bs⟩
instance {α β : Type} [Rep α] [Rep β] [Dat α] [Dat β] [Alk α] [Alk β] : Alk (α × β) := ⟨fun a b => by
  show PySem.W.alike (.tuple [Dat.toD a.1, Dat.toD a.2]) (.tuple [Dat.toD b.1, Dat.toD b.2]) = true
  simp [PySem.W.alike, PySem.W.alikeAll, Alk.alk]⟩
instance : Srt Int := { toDat := inferInstance, alk := fun a b => Alk.alk a b, tup := .inr fun a => ⟨fun e => (by cases e), fun xs e => (by cases e)⟩ }
instance : Srt Str := { toDat := inferInstance, alk := fun a b => Alk.alk a b, tup := .inr fun a => ⟨fun e => (by cases e), fun xs e => (by cases e)⟩ }
instance srtPair {α β : Type} [Rep α] [Rep β] [Dat α] [Dat β] [Alk α] [Alk β] : Srt (α × β) := { toDat := inferInstance, alk := fun a b => Alk.alk a b, tup := .inl fun a => ⟨_, _, rfl⟩ }
end G
set_option Elab.async false
set_option linter.all false
set_option maxRecDepth 100000
set_option maxHeartbeats 2000000
namespace G
open PySem PySem.Spec PyProof.Rows L2 StX
def optD {α : Type} [r : Rep α] (W : Wc) (H : Hp) (v : V) : Option α → Prop
  | some a => den W H v a
  | none => v = .non
instance instRepOpt {α : Type} [Rep α] : Rep (Option α) where
  dn := optD
  mono := fun {W H H' v a} e h => by cases a with | none => exact h | some a => exact Rep.mono (a := a) e h
  grow := fun {W H v a} D n h => by cases a with | none => exact h | some a => exact Rep.grow (a := a) D n h
  shrink := fun {W H v a} D h => by cases a with | none => exact h | some a => exact Rep.shrink (a := a) D h
instance {α : Type} [Rep α] [Flat α] : Flat (Option α) := ⟨fun {W W' H H' v a} h => by cases a with | none => exact h | some a => exact Flat.at_ (a := a) h⟩
/-- data that are unlike None -/
class NeNon (α : Type) [Rep α] [Dat α] : Prop where
  ne : ∀ a : α, PyData.eqv .none (Dat.toD a) = false ∧ PyData.eqv (Dat.toD a) .none = false
instance : NeNon Int := ⟨fun a => ⟨rfl, rfl⟩⟩
instance : NeNon Str := ⟨fun a => ⟨rfl, rfl⟩⟩
instance {α : Type} [Rep α] [Dat α] [NeNon α] : Dat (Option α) where
  toD := fun o => match o with | some a => Dat.toD a | none => .none
  dp := fun {W H v a} h => by
    cases a with
    | none => cases (show v = .non from h); exact .non
    | some a => exact Dat.dp (a := a) h
  dep := Dat.dep α
  ddep := fun a => by cases a with | none => exact Nat.zero_le _ | some a => exact Dat.ddep a
  inj := fun a b => by
    cases a with
    | none => cases b with
      | none => exact ⟨fun _ => rfl, fun _ => rfl⟩
      | some b => exact ⟨fun h => absurd ((NeNon.ne b).1.symm.trans h) Bool.false_ne_true, fun h => (by cases h)⟩
    | some a => cases b with
      | none => exact ⟨fun h => absurd ((NeNon.ne a).2.symm.trans h) Bool.false_ne_true, fun h => (by cases h)⟩
      | some b => exact (Dat.inj a b).trans ⟨fun h => by rw [h], fun h => Option.some.inj h⟩
  good := fun a => ∀ b, a = some b → Dat.good b
  gshp := fun a h => by cases a with | none => rfl | some a => exact Dat.gshp a (h a rfl)
end G
set_option Elab.async false
set_option linter.all false
set_option maxRecDepth 100000
set_option maxHeartbeats 2000000
namespace G
open PySem PySem.Spec PyProof.Rows L2 StX
theorem getDc_mem {β : Type} {l : List (Str × β)} (h : (l.map (·.1)).Nodup) {k : Str} {b : β} (hm : (k, b) ∈ l) : getDc l k = some b := by
  unfold getDc
  induction l with
  | nil => cases hm
  | cons e r ih =>
    rw [List.map_cons, List.nodup_cons] at h
    rcases List.mem_cons.mp hm with e1 | hm
    · subst e1
      rw [List.find?_cons_of_pos (by simp)]
      rfl
    · have hne : ¬ e.1 = k := fun q => h.1 (List.mem_map.mpr ⟨_, hm, q.symm⟩)
      rw [List.find?_cons_of_neg (by simpa using hne)]
      exact ih h.2 hm
end G
set_option Elab.async false
set_option linter.all false
set_option maxRecDepth 100000
set_option maxHeartbeats 2000000
namespace G
open PySem PySem.Spec PyProof.Rows L2 StX
/-- a rack in order -/
structure RkOk (gs : List Gau) (fl : List (List Str)) : Prop where
  len : gs.length ≤ 100
  nd : (gs.map Gau.nm).Nodup
  nm : ∀ g ∈ gs, NmOk g.nm
  go : ∀ g ∈ gs, GauOk g
  fln : fl.length ≤ 100
  ff : ∀ f ∈ fl, f ≠ [] ∧ f.length ≤ 100 ∧ ∀ n ∈ f, n ∈ gs.map Gau.nm
end G
namespace G
end G
namespace G
open PySem PySem.Spec PyProof.Rows L2 StX
end G
namespace G
open PySem PySem.Spec PyProof.Rows L2 StX
/-- a slot seen as data of another kind -/
theorem sx_as {W : Wd} {Γ : Gam} {t : TS} {R : Po} (i : Nat) {u u' : Ty} (h : Γ[i]? = some (some u)) (hu : ∀ (W : Wc) (H : Hp) (v : V), u.den W H v → u'.den W H v) (q : Sx W t (Γ.set i (some u')) R) : Sx W t Γ R := fun D σ H G O => by
  have hl : i < Γ.length := (List.getElem?_eq_some_iff.mp h).1
  refine q D σ H ⟨G.ok, G.wish, fun j t' ht => ?_, by rw [List.length_set]; exact G.len⟩ O
  by_cases e : i = j
  · subst e
    rw [List.getElem?_set_self hl] at ht
    cases ht
    obtain ⟨v, h1, h2⟩ := G.at_ i u h
    exact ⟨v, h1, hu _ _ _ h2⟩
  · rw [List.getElem?_set_ne e] at ht
    exact G.at_ j t' ht
end G
set_option Elab.async false
set_option linter.all false
set_option maxRecDepth 100000
set_option maxHeartbeats 2000000
namespace G
open PySem PySem.Spec PyProof.Rows L2 StX
/-- a promise that may speak of the heap's size at the call -/
def FnRN (P : Program) (w : World) (K : PySem.W.Frag) (mg : Str → Option Value) (base : Heap) (CX : CXT) (k : Nat) (f : Addr) (sp : Nat → Sp) : Prop :=
  ∀ (A : Around) (outer : List Env) (s : Shared) (H : Hp) (us : List Value) (vs : List V) (Q : VK) (E : XK), Room k A → Env0 P w K mg base A outer s H → Vals vs us → sp s.heap.objs.size vs H Q E →
    codeAny (model P w) A (.call (.ref f) ⟨us, []⟩) (CR CX outer P w H s Q E) s
section
variable {P : Program} {w : World} {K : PySem.W.Frag} {mg : Str → Option Value} {base : Heap}
theorem FnRN.mono {CX : CXT} {j k : Nat} {f : Addr} {sp : Nat → Sp} (F : FnRN P w K mg base CX j f sp) (h : j ≤ k) : FnRN P w K mg base CX k f sp := fun A outer s H us vs Q E hr => F A outer s H us vs Q E (hr.mono h)
end
end G
set_option Elab.async false
set_option linter.all false
set_option maxRecDepth 100000
set_option maxHeartbeats 2000000
namespace G
open PySem PySem.Spec PyProof.Rows L2 StX
def toS (g : Gau) (r : Int) : Stc := ⟨r - sbF g, r + saF g⟩
def tdF (gs : List Gau) (ds : List (Str × Int)) (w : Str) : Stc := ((gs.find? fun g => decide (g.nm = w)).map fun g => toS g (rdF ds w)).getD ⟨0, 0⟩
theorem find_nm {gs : List Gau} (nd : (gs.map Gau.nm).Nodup) {g : Gau} (h : g ∈ gs) : (gs.find? fun e => decide (e.nm = g.nm)) = some g := by
  induction gs with
  | nil => cases h
  | cons e r ih =>
    rw [List.map_cons, List.nodup_cons] at nd
    rcases List.mem_cons.mp h with rfl | hm
    · rw [List.find?_cons_of_pos (by simp)]
    · have hne : ¬ e.nm = g.nm := fun q => nd.1 (List.mem_map.mpr ⟨_, hm, q.symm⟩)
      rw [List.find?_cons_of_neg (by simpa using hne)]
      exact ih nd.2 hm
theorem tdF_at {gs : List Gau} {ds : List (Str × Int)} (nd : (gs.map Gau.nm).Nodup) {g : Gau} (h : g ∈ gs) : tdF gs ds g.nm = toS g (rdF ds g.nm) := by
  unfold tdF
  rw [find_nm nd h]
  rfl
/-- the told stretches of a fault -/
def tfF (gs : List Gau) (ds : List (Str × Int)) (f : List Str) : List Stc := (f.filter fun w => (getDc ds w).isSome).map (tdF gs ds)
/-- the present faults -/
def prF (gs : List Gau) (fl : List (List Str)) (ds : List (Str × Int)) : List (List Stc) := (fl.map (tfF gs ds)).filter fun l => !l.isEmpty
end G
namespace G
end G
set_option Elab.async false
set_option linter.all false
set_option maxRecDepth 100000
set_option maxHeartbeats 2000000
namespace G
open PySem PySem.Spec PyProof.Rows L2 StX
end G
namespace G
open PySem PySem.Spec PyProof.Rows L2 StX
end G
set_option Elab.async false
set_option linter.all false
set_option maxRecDepth 100000
set_option maxHeartbeats 2000000
namespace G
open PySem PySem.Spec PyProof.Rows L2 StX
class NoDc (α : Type) [Rep α] : Prop where
  at_ : ∀ {W : Wc} {H : Hp} {v : V} {a : α} {q : Addr} {kvs : List (Key × V)}, H q = some (.dK kvs) → den W H v a → den (W.plus q) H v a
instance : NoDc Int := ⟨fun _ h => h⟩
instance : NoDc Bool := ⟨fun _ h => h⟩
instance : NoDc Str := ⟨fun _ h => h⟩
instance : NoDc Unit := ⟨fun _ h => h⟩
theorem lq_nd {W : Wc} {H : Hp} {p q : Addr} {vs : List V} {kvs : List (Key × V)} (h : H q = some (.dK kvs)) (s : Lq W H p vs) : Lq (W.plus q) H p vs :=
  ⟨fun z => z.elim s.1 fun z => (by have := s.2; rw [z, h] at this; cases this), s.2⟩
theorem tq_nd {W : Wc} {H : Hp} {p q : Addr} {vs : List V} {kvs : List (Key × V)} (h : H q = some (.dK kvs)) (s : Tq W H p vs) : Tq (W.plus q) H p vs :=
  ⟨fun z => z.elim s.1 fun z => (by have := s.2; rw [z, h] at this; cases this), s.2⟩
instance {α : Type} [Rep α] [NoDc α] : NoDc (List α) := ⟨fun h ⟨p, vs, hv, s, d⟩ => ⟨p, vs, hv, lq_nd h s, d.imp fun _ _ x => NoDc.at_ h x⟩⟩
instance {α β : Type} [Rep α] [Rep β] [NoDc α] [NoDc β] : NoDc (α × β) := ⟨fun h ⟨p, x, y, hv, s, d1, d2⟩ => ⟨p, x, y, hv, tq_nd h s, NoDc.at_ h d1, NoDc.at_ h d2⟩⟩
instance {α β : Type} [Rep α] [Rep β] [NoDc α] [NoDc β] : NoDc (Li2 α β) := ⟨fun h ⟨p, x, y, hv, s, d1, d2⟩ => ⟨p, x, y, hv, lq_nd h s, NoDc.at_ h d1, NoDc.at_ h d2⟩⟩
instance {α β γ : Type} [Rep α] [Rep β] [Rep γ] [NoDc α] [NoDc β] [NoDc γ] : NoDc (Li3 α β γ) := ⟨fun h ⟨p, x, y, z, hv, s, d1, d2, d3⟩ => ⟨p, x, y, z, hv, lq_nd h s, NoDc.at_ h d1, NoDc.at_ h d2, NoDc.at_ h d3⟩⟩
end G
set_option Elab.async false
set_option linter.all false
set_option maxRecDepth 100000
set_option maxHeartbeats 2000000
namespace G
open PySem PySem.Spec PyProof.Rows L2 StX
theorem Dk.at {β : Type} {f : V → β → Prop} : ∀ {kvs : List (Key × V)} {l : List (Str × β)}, Dk f kvs l → ∀ {i : Nat} {k : Key} {v : V}, kvs[i]? = some (k, v) → ∃ s b, l[i]? = some (s, b) ∧ k = .inr s ∧ f v b
  | _, _, .nil, i, k, v, h => by simp at h
  | _, _, .cons (k := a) (v := w) (b := b) h r, 0, k, v, e => by
    have e : some ((Sum.inr a : Key), w) = some (k, v) := e
    cases e
    exact ⟨a, b, rfl, rfl, h⟩
  | _, _, .cons h r, i + 1, k, v, e => r.at (i := i) e
end G
set_option Elab.async false
set_option linter.all false
set_option maxRecDepth 100000
set_option maxHeartbeats 2000000
namespace G
open PySem PySem.Spec PyProof.Rows L2 StX
end G
set_option Elab.async false
set_option linter.all false
set_option maxRecDepth 100000
set_option maxHeartbeats 2000000
namespace G
open PySem PySem.Spec PyProof.Rows L2 StX
def tpG (gs : List Gau) (e : Str × Int) : Int × Int := ((gs.find? fun g => decide (g.nm = e.1)).map fun g => (e.2 - sbF g, e.2 + saF g)).getD (0, 0)
theorem dc_isSome {β : Type} (l : List (Str × β)) (w : Str) : (getDc l w).isSome = decide (w ∈ l.map (·.1)) := by
  unfold getDc
  rw [Option.isSome_map, Bool.eq_iff_iff, List.find?_isSome, decide_eq_true_iff]
  exact ⟨fun ⟨e, he, hk⟩ => List.mem_map.mpr ⟨e, he, of_decide_eq_true hk⟩, fun h => by obtain ⟨e, he, rfl⟩ := List.mem_map.mp h; exact ⟨e, he, decide_eq_true rfl⟩⟩
structure Tw (gs : List Gau) (ws : List Str) (i : Nat) (ds : List (Str × Int)) (td : List (Str × (Int × Int))) : Prop where
  len : ds.length ≤ i
  nd : (ds.map (·.1)).Nodup
  keys : ∀ w ∈ ds.map (·.1), w ∈ ws.take i
  td : td = ds.map fun e => (e.1, tpG gs e)
section
variable {gs : List Gau} {fl : List (List Str)} {ws : List Str} {i : Nat} {ds : List (Str × Int)} {td : List (Str × (Int × Int))}
theorem Tw.tkeys (h : Tw gs ws i ds td) : td.map (·.1) = ds.map (·.1) := by rw [h.td, List.map_map]; rfl
theorem Tw.isS (h : Tw gs ws i ds td) (w : Str) : (getDc td w).isSome = (getDc ds w).isSome := by rw [dc_isSome, dc_isSome, h.tkeys]
theorem Tw.get (h : Tw gs ws i ds td) (ng : (gs.map Gau.nm).Nodup) {g : Gau} (hg : g ∈ gs) (hs : (getDc ds g.nm).isSome = true) : getDc td g.nm = some ((tdF gs ds g.nm).lo, (tdF gs ds g.nm).hi) ∧ ((tdF gs ds g.nm).lo, (tdF gs ds g.nm).hi) ∈ td.map (·.2) := by
  rw [dc_isSome] at hs
  obtain ⟨e, he, hk⟩ := List.mem_map.mp (of_decide_eq_true hs)
  have hd := getDc_mem h.nd (k := e.1) (b := e.2) he
  have hr : rdF ds g.nm = e.2 := by unfold rdF; rw [← hk, hd]; rfl
  have ht : (e.1, tpG gs e) ∈ td := by rw [h.td]; exact List.mem_map.mpr ⟨e, he, rfl⟩
  have hp : tpG gs e = ((tdF gs ds g.nm).lo, (tdF gs ds g.nm).hi) := by
    rw [tdF_at ng hg, hr]
    unfold tpG
    rw [show (fun g' : Gau => decide (g'.nm = e.1)) = fun e => decide (e.nm = g.nm) by rw [hk], find_nm ng hg]
    rfl
  rw [hp] at ht
  exact ⟨by rw [← hk]; exact getDc_mem (by rw [h.tkeys]; exact h.nd) ht ▸ (by rw [hk]), List.mem_map.mpr ⟨_, ht, rfl⟩⟩
theorem Tw.mem (h : Tw gs ws i ds td) (ok : RkOk gs fl) {l : List Stc} (hl : l ∈ prF gs fl ds) {t : Stc} (ht : t ∈ l) : (t.lo, t.hi) ∈ td.map (·.2) := by
  obtain ⟨f, hf, rfl⟩ := List.mem_map.mp (List.mem_filter.mp hl).1
  obtain ⟨w, hw, rfl⟩ := List.mem_map.mp ht
  obtain ⟨hw1, hw2⟩ := List.mem_filter.mp hw
  obtain ⟨g, hg, rfl⟩ := List.mem_map.mp ((ok.ff f hf).2.2 w hw1)
  exact (h.get ok.nd hg hw2).2
end
end G
set_option Elab.async false
set_option linter.all false
set_option maxRecDepth 100000
set_option maxHeartbeats 2000000
namespace G
open PySem PySem.Spec PyProof.Rows L2 StX
/-- what a value was when the dict was locked -/
structure WasP where
  P : V → Prop
instance : Rep WasP := ⟨fun _ _ v w => w.P v, fun _ h => h, fun _ _ h => h, fun _ h => h⟩
end G
set_option Elab.async false
set_option linter.all false
set_option maxRecDepth 100000
set_option maxHeartbeats 2000000
namespace G
open PySem PySem.Spec PyProof.Rows L2 PySem.W
/-- what the module's names reach in n steps (each step from the newest alone; an object may stand there twice) -/
def refsB (g : Addr → Option Obj) (a : Addr) : List Addr := match g a with
  | some ⟨_, _, .func fd, _⟩ => He.refV fd.code ++ He.refV fd.defaults ++ He.refV fd.kwdefaults ++ fd.closure.map (·.2)
  | some ⟨_, _, .cls cd, _⟩ => [cd.ns]
  | some ⟨_, _, .dict es _, _⟩ => es.toList.flatMap fun e => He.refV e.val
  | some ⟨_, _, .seq its _, _⟩ => its.toList.flatMap He.refV
  | some ⟨.type n, _, .fields vs, _⟩ => if n == "property" || n == "classmethod" || n == "staticmethod" then vs.toList.flatMap He.refV else []
  | _ => []
def fro (g : Addr → Option Obj) : Nat → List Addr → List Addr
  | 0, as => as
  | n + 1, as => as ++ fro g n (as.flatMap (refsB g))
def asB (g : Addr → Option Obj) (n : Nat) : List Addr := fro g n [mainGlobals, cStatics]
abbrev FxV : Type := Option (Str × Str × Arguments × FuncBody × Scope × Addr × List Str × Addr)
def fx (K : Frag) (f : Addr) : FxV := match K.lookup f with
  | some ⟨_, _, .func fd, _⟩ => some (fd.name, fd.qualname, fd.params, fd.body, fd.scope, fd.globals, fd.closure.map (·.1), fd.builtins)
  | _ => none
def fxD (K : Frag) (f : Addr) : Value := match K.lookup f with
  | some ⟨_, _, .func fd, _⟩ => fd.defaults
  | _ => .none
def fxK (K : Frag) (f : Addr) : Value := match K.lookup f with
  | some ⟨_, _, .func fd, _⟩ => fd.kwdefaults
  | _ => .none
def fxC (K : Frag) (f : Addr) : Value := match K.lookup f with
  | some ⟨_, _, .func fd, _⟩ => fd.code
  | _ => .none
/-- a def of the text: where it stands, its names, its statement, what it closes over -/
structure FxS where
  at_ : Frag → Addr
  name : Str
  qual : Str
  st : Stmt
  cl : List Str
def FxS.val (d : FxS) : FxV := some (d.name, d.qual, defArgs d.st, FuncBody.stmts (defBody d.st), defScope d.st, mainGlobals, d.cl, builtinsNs)
theorem fx_ok {K : Frag} {f : Addr} {name qual : Str} {st : Stmt} (e : fx K f = some (name, qual, defArgs st, FuncBody.stmts (defBody st), defScope st, mainGlobals, [], builtinsNs)) :
    ∃ oc od osl doc pm an ct, K.lookup f = some ⟨oc, od, .func (fnOf name qual (defArgs st) (defBody st) (defScope st) (fxD K f) (fxK K f) doc pm an (fxC K f) ct), osl⟩ := by
  unfold fx at e
  unfold fxD fxK fxC
  cases q : K.lookup f with
  | none => rw [q] at e; cases e
  | some o =>
    obtain ⟨oc, od, dt, osl⟩ := o
    rw [q] at e
    cases dt with
    | func fd =>
      obtain ⟨n1, n2, n3, n4, n5, n6, n7, n8, n9, n10, n11, n12, n13, n14, n15⟩ := fd
      have e2 : (some (n1, n2, n3, n4, n5, n6, n7.map (·.1), n15) : FxV) = some (name, qual, defArgs st, FuncBody.stmts (defBody st), defScope st, mainGlobals, [], builtinsNs) := e
      simp only [Option.some.injEq, Prod.mk.injEq, List.map_eq_nil_iff] at e2
      obtain ⟨h1, h2, h3, h4, h5, h6, h7, h8⟩ := e2
      subst h1 h2 h3 h4 h5 h6 h7 h8
      exact ⟨oc, od, osl, n10, n11, n12, n14, rfl⟩
    | _ => cases e
def cvB (K : Frag) (C : Addr) (m : Str) (f : Addr) : Bool := match findCls K (.ref C) (.type "type") m with
  | some (.val (.ref g)) => decide (g = f)
  | _ => false
theorem cvB_ok {K : Frag} {C f : Addr} {m : Str} (h : cvB K C m f = true) : findCls K (.ref C) (.type "type") m = some (.val (.ref f)) := by
  unfold cvB at h
  split at h
  · rename_i g e
    rw [e, of_decide_eq_true h]
  · cases h
def ciB (K : Frag) (C : Addr) (m : Str) (i : Int) : Bool := match findCls K (.ref C) (.type "type") m with
  | some (.val (.int j _)) => decide (j = i)
  | _ => false
theorem ciB_ok {K : Frag} {C : Addr} {m : Str} {i : Int} (h : ciB K C m i = true) : ∃ t, findCls K (.ref C) (.type "type") m = some (.val (.int i t)) := by
  unfold ciB at h
  split at h
  · rename_i j t e
    rw [of_decide_eq_true h] at e
    exact ⟨t, e⟩
  · cases h
def cbB (K : Frag) (C : Addr) (m : Str) (id : String) : Bool := match findCls K (.ref C) (.type "type") m with
  | some (.val (.builtin g)) => decide (g = id)
  | _ => false
theorem cbB_ok {K : Frag} {C : Addr} {m : Str} {id : String} (h : cbB K C m id = true) : findCls K (.ref C) (.type "type") m = some (.val (.builtin id)) := by
  unfold cbB at h
  split at h
  · rename_i g e
    rw [e, of_decide_eq_true h]
  · cases h
def gsB (K : Frag) (x v : Str) : Bool := match nsIn K mainGlobals x with
  | some (some (.str y _)) => decide (y = v)
  | _ => false
theorem gsB_ok {K : Frag} {x v : Str} (h : gsB K x v = true) : ∃ t, nsIn K mainGlobals x = some (some (.str v t)) := by
  unfold gsB at h
  split at h
  · rename_i y t e
    rw [of_decide_eq_true h] at e
    exact ⟨t, e⟩
  · cases h
/-- a tuple of texts -/
def txB : List Value → List Str → Bool
  | [], [] => true
  | .str x _ :: r, y :: s => decide (x = y) && txB r s
  | _, _ => false
def tsB (K : Frag) (c : Addr) (ws : List Str) : Bool := match K.lookup c with
  | some ⟨.type n, _, .seq its _, _⟩ => n == "tuple" && txB its.toList ws
  | _ => false
theorem txB_ok : ∀ {its : List Value} {ws : List Str}, txB its ws = true → ∃ ts : List Tok, ts.length = ws.length ∧ its = (ws.zip ts).map fun p => Value.str p.1 p.2
  | [], [], _ => ⟨[], rfl, rfl⟩
  | .str x t :: r, y :: s, h => by
    obtain ⟨h1, h2⟩ := Bool.and_eq_true_iff.mp (show (decide (x = y) && txB r s) = true from h)
    obtain ⟨ts, e1, e2⟩ := txB_ok h2
    exact ⟨t :: ts, congrArg (· + 1) e1, by rw [of_decide_eq_true h1, e2]; rfl⟩
theorem tsB_ok {K : Frag} {c : Addr} {ws : List Str} (h : tsB K c ws = true) : ∃ (od : Option Addr) (n : Nat) (sl : Array (Option Value)) (ts : List Tok), ts.length = ws.length ∧ K.lookup c = some ⟨.type "tuple", od, .seq ((ws.zip ts).map fun p => Value.str p.1 p.2).toArray n, sl⟩ := by
  unfold tsB at h
  split at h
  · rename_i n od its m sl e
    obtain ⟨h1, h2⟩ := Bool.and_eq_true_iff.mp h
    obtain ⟨ts, e1, e2⟩ := txB_ok h2
    refine ⟨od, m, sl, ts, e1, ?_⟩
    rw [e, eq_of_beq h1, ← e2]
  · cases h
/-- an error class -/
def exB (K : Frag) (C : Addr) (bm : List Value) : Bool := match K.lookup C with
  | some ⟨.type n, _, .cls cd, sl⟩ => n == "type" && (match cd.mro, sl.toList with
    | .ref C' :: m, [_, _, _, _, some (.builtin n), _] => C' == C && n == "ValueError.__new__" && !cd.hasDel && decide (m = bm) && cd.hasDict
    | _, _ => false)
  | _ => false
theorem exB_ok {K : Frag} {C : Addr} {bm : List Value} (h : exB K C bm = true) : ∃ nm N qn bs sn sub ab col dd k0 k1 k2 k3 k5, K.lookup C = some (excClassObj nm qn C N bs bm true sn sub ab col dd k0 k1 k2 k3 k5 "ValueError.__new__") := by
  unfold exB at h
  split at h
  · rename_i n dd cd sl ho
    obtain ⟨h1, h⟩ := Bool.and_eq_true_iff.mp h
    split at h
    · rename_i C' m k0 k1 k2 k3 n2 k5 hm hs
      simp only [Bool.and_eq_true, beq_iff_eq, Bool.not_eq_true', decide_eq_true_iff] at h h1
      obtain ⟨⟨⟨⟨rfl, rfl⟩, hdel⟩, rfl⟩, hdct⟩ := h
      obtain ⟨nm, bs, mro, ns, qn, hd, sn, sub, ab, col, del⟩ := cd
      dsimp only at hm hdel hdct
      subst hm hdel hdct h1
      have hsl : sl = #[k0, k1, k2, k3, some (.builtin "ValueError.__new__"), k5] := by
        obtain ⟨l⟩ := sl
        simp only at hs
        rw [hs]
      subst hsl
      exact ⟨nm, ns, qn, bs, sn, sub, ab, col, dd, k0, k1, k2, k3, k5, ho⟩
    · cases h
  · cases h
def obsB (ex : List (Frag → Bool)) (fn : List FxS) (K : Frag) : Bool × List FxV := (ex.all fun b => b K, fn.map fun d => fx K (d.at_ K))
def valB (fn : List FxS) : Bool × List FxV := (true, fn.map FxS.val)
def SaysB (ex : List (Frag → Bool)) (fn : List FxS) (K : Frag) : Prop := obsB ex fn K = valB fn
def obsBG (n : Nat) (ex : List (Frag → Bool)) (fn : List FxS) (g : Addr → Option Obj) : Bool × List FxV := obsB ex fn (He.frG g (asB g n))
def hookB (n : Nat) (ex : List (Frag → Bool)) (fn : List FxS) : Hook where
  α := Bool × List FxV
  obs := fun s => obsBG n ex fn s.heap.get?
  val := fun _ => valB fn
  says := fun _ h => ∃ K : Frag, K.In h ∧ SaysB ex fn K
  of := fun _ _ e => ⟨_, He.frG_in, e⟩
  keeps := fun _ _ _ ⟨K, hK, c⟩ k => ⟨K, Frag.In.keeps hK k, c⟩
theorem obsBG_eq {n : Nat} {ex : List (Frag → Bool)} {fn : List FxS} {g : Addr → Option Obj} {s : Shared} (h : ∀ a, g a = s.heap.get? a) : obsBG n ex fn g = (hookB n ex fn).obs s := by
  have e : g = s.heap.get? := funext h
  rw [e] <;> rfl
section
variable {ex : List (Frag → Bool)} {fn : List FxS} {K : Frag}
theorem SaysB.fact (c : SaysB ex fn K) (i : Nat) {b : Frag → Bool} (h : ex[i]? = some b := by rfl) : b K = true :=
  List.all_eq_true.mp (show (ex.all fun b => b K) = true from congrArg (fun z : Bool × List FxV => z.1) c) b (List.mem_of_getElem? h)
theorem SaysB.fnc (c : SaysB ex fn K) (i : Nat) {d : FxS} (h : fn[i]? = some d := by rfl) : fx K (d.at_ K) = d.val := by
  have e : fn.map (fun d => fx K (d.at_ K)) = fn.map FxS.val := congrArg (fun z : Bool × List FxV => z.2) c
  have e2 : (fn.map fun d => fx K (d.at_ K))[i]? = (fn.map FxS.val)[i]? := by rw [e]
  rw [List.getElem?_map, List.getElem?_map, h] at e2
  exact Option.some.inj e2
end
theorem some3 {α β γ : Type} {a a' : α} {b b' : β} {c c' : γ} (h1 : a = a') (h2 : b = b') (h3 : c = c') : some (a, b, c) = some (a', b', c') := by
  subst h1 h2 h3
  rfl
end G
set_option Elab.async false
set_option linter.all false
set_option maxRecDepth 100000
set_option maxHeartbeats 2000000
namespace G
open PySem PySem.Spec PyProof.Rows L2 StX
instance {α : Type} [Rep α] [NoDc α] : NoDc (Ol α) := ⟨fun h d => ⟨d.1, d.2.imp fun _ _ x => NoDc.at_ h x⟩⟩
instance {α : Type} [Rep α] [NoDc α] : NoDc (Od α) := ⟨fun h d => ⟨d.1, d.2.imp fun _ _ x => NoDc.at_ h x⟩⟩
section
variable {W : Wd} {F : Hp} {L : OwnH} {Γ : Gam} {ta tb te : TE} {tt : TT} {t u : TS} {R : PoH} {g : TG}
/-- d.pop(k), d an own dict -/
def dropDc {β : Type} (l : List (Str × β)) (k : Str) : List (Str × β) := l.filter fun e => decide (e.1 ≠ k)
end
end G
set_option Elab.async false
set_option linter.all false
set_option maxRecDepth 100000
set_option maxHeartbeats 2000000
namespace G
open PySem PySem.Spec PyProof.Rows L2 StX
end G
namespace G
open PySem PySem.Spec PyProof.Rows L2 StX
end G
namespace G
open PySem PySem.Spec PyProof.Rows L2 StX
end G
set_option Elab.async false
set_option linter.all false
set_option maxRecDepth 100000
set_option maxHeartbeats 2000000
namespace G
open PySem PySem.Spec PyProof.Rows L2 StX
structure CsT (B : Bs) : Prop where
  cl : L2.Cls B.K (B.cl .Case)
  n1 : NoAttr B.K (B.cl .Case) "level"
  n2 : NoAttr B.K (B.cl .Case) "readings"
  n3 : NoAttr B.K (B.cl .Case) "lot"
  n4 : NoAttr B.K (B.cl .Case) "reply"
structure Cs where
  lv : Int
  ds : List (Str × Int)
  lot : List Str
  rp : Int
def csF (lv : Int) (y z : V) (rp : Int) : List (Str × V) := [("level", .int lv), ("readings", y), ("lot", z), ("reply", .int rp)]
instance : Rep Cs :=
  ⟨fun W H v c => ∃ a dx y z, v = .ref a ∧ ¬ W.mu a ∧ H a = some (.ins (W.B.cl .Case) dx (csF c.lv y z c.rp)) ∧ den W H y (Dc.mk c.ds) ∧ den W H z c.lot ∧ CsT W.B,
   fun e ⟨a, dx, y, z, hv, m, h, h1, h3, h2⟩ => ⟨a, dx, y, z, hv, m, e _ _ m h, Rep.mono e h1, Rep.mono e h3, h2⟩,
   fun D n ⟨a, dx, y, z, hv, m, h, h1, h3, h2⟩ => ⟨a, dx, y, z, hv, mu_grow n m h, h, Rep.grow D n h1, Rep.grow D n h3, h2⟩,
   fun D ⟨a, dx, y, z, hv, m, h, h1, h3, h2⟩ => ⟨a, dx, y, z, hv, fun z => m (.inl z), h, Rep.shrink D h1, Rep.shrink D h3, h2⟩⟩
instance : Ins Cs .Case ["level", "readings", "lot", "reply"] := ⟨fun ⟨a, dx, y, z, hv, m, h, _⟩ => ⟨a, dx, _, hv, m, h, rfl⟩⟩
theorem Dk.drop {β : Type} {f : V → β → Prop} (k : Str) : ∀ {kvs : List (Key × V)} {l : List (Str × β)}, Dk f kvs l → Dk f (dropK kvs (.inr k)) (dropDc l k)
  | _, _, .nil => .nil
  | _, _, .cons (k := a) h t => by
    unfold dropK dropDc
    by_cases e : a = k
    · rw [List.filter_cons_of_neg (by simpa using inr_iff.mpr e), List.filter_cons_of_neg (by simpa using e)]
      exact t.drop k
    · rw [List.filter_cons_of_pos (by simpa using fun q => e (inr_iff.mp q)), List.filter_cons_of_pos (by simpa using e)]
      exact .cons h (t.drop k)
end G
namespace G
open PySem PySem.Spec PyProof.Rows L2 StX
end G
namespace G
open PySem PySem.Spec PyProof.Rows L2 StX
end G
set_option Elab.async false
set_option linter.all false
set_option maxRecDepth 100000
set_option maxHeartbeats 2000000
namespace G
open PySem PySem.Spec PyProof.Rows L2 StX
end G
set_option Elab.async false
set_option linter.all false
set_option maxRecDepth 100000
set_option maxHeartbeats 2000000
namespace G
open PySem PySem.Spec PyProof.Rows L2 StX
section
variable {Y : Cx} {xe : Value → Shared → Prop} {pins : List (Addr × Obj)} {σ : L2.St} {H : Hp} {s : Shared}
theorem okx (ok : Y.Ok) : ({ Y with xe := xe } : Cx).Ok :=
  ⟨ok.mod, ok.kind, ok.glob, ok.blt, ok.above, ok.inj, ok.has, ok.cab, ok.hd, ok.frames, ok.stk, ok.exf, ok.bs, ok.bsz, ok.noex, ok.exfs, ok.funs, ok.frf⟩
end
/-- what is wished of errors in W holds in W' -/
def XIn (W W' : Wd) : Prop := ∀ (E : XK) (x : Xn → Prop), (∀ H', W.ok H' → W.wish H' → XOk W H' E x) → ∀ H', W'.ok H' → W'.wish H' → XOk W' H' E x
theorem XIn.plus {W : Wd} {D : Addr} {xs : List V} {H1 : Hp} {n : H1 D = none} {o1 : W.ok H1} {w1 : W.wish H1} : XIn W (W.plus D xs H1 n o1 w1) := fun E x h H' o w nn d H2 e z q => by
  have s : Sub W (W.plus D xs H1 n o1 w1) := Sub.plus
  refine h H2 (s.ok H2 e.ok) (s.wish H2 e.ok ((W.plus D xs H1 n o1 w1).wst H' H2 e.keep e.ok w)) nn d H2 (Ext.refl (s.ok H2 e.ok)) ?_ q
  rcases z with z | ⟨dd, vs, a1, a2, a3, a4⟩
  · exact .inl z
  · exact .inr ⟨dd, vs, a1, fun m => a2 (.inl m), a3, a4.imp fun _ _ y => Fv.shrink D y⟩
def misF {β : Type} (ds : List (Str × β)) (ns : List Str) : Option Str := ns.find? fun n => (getDc ds n).isNone
def MisR (ds : List (Str × Int)) (r : Ru) (ok : Int → Prop) (xx : Xn → Prop) : Prop := match misF ds (namesF r) with
  | none => ok (ansF (rdF ds) r)
  | some n => (reprText n).length ≤ 3000 ∧ n.length ≤ 3000 ∧ xx ⟨.MissingReading, [("name", .s n)]⟩
theorem MisR.imp {ds : List (Str × Int)} {r : Ru} {ok ok' : Int → Prop} {xx : Xn → Prop} (h : MisR ds r ok xx) (i : ∀ a, ok a → ok' a) : MisR ds r ok' xx := by
  unfold MisR at h ⊢
  split at h
  · exact i _ h
  · exact h
end G
set_option Elab.async false
set_option linter.all false
set_option maxRecDepth 100000
set_option maxHeartbeats 2000000
namespace G
open PySem PySem.Spec PyProof.Rows L2 StX
structure FF (H H' : Hp) (p : Addr) (qs : List Addr) (fl : List (List Str)) : Prop where
  new : ∀ a ∈ p :: qs, H a = none
  nd : (p :: qs).Nodup
  len : qs.length = fl.length
  atp : H' p = some (.lst (qs.map V.ref))
  atq : ∀ (i : Nat) (q : Addr) (f : List Str), qs[i]? = some q → fl[i]? = some f → H' q = some (.lst (f.map V.str))
def EvFF (W : Wd) (te : TE) (Γ : Gam) (k : List (List Str) → Prop) : Prop :=
  ∀ σ H (Q : VK), GOk W H σ Γ → (∀ p qs H' fl, Ext W H H' → FF H H' p qs fl → k fl → Q (.ref p) H') → te σ H Q
theorem dl_of_strs {W : Wc} {H : Hp} : ∀ l : List Str, Dl (den W H) (l.map V.str) l
  | [] => .nil
  | a :: r => .cons rfl (dl_of_strs r)
theorem EvFF.imp {W : Wd} {te : TE} {Γ : Gam} {k k' : List (List Str) → Prop} (h : EvFF W te Γ k) (i : ∀ fl, k fl → k' fl) : EvFF W te Γ k' := fun σ H Q G c => h σ H Q G fun p qs H' fl e f q => c p qs H' fl e f (i fl q)
theorem EvFF.k {W : Wd} {te : TE} {Γ : Gam} {k : List (List Str) → Prop} (h : EvFF W te Γ k) : EvK W te Γ k := fun σ H Q G c => h σ H Q G fun p qs H' fl e f q => by
  have nm : ∀ a ∈ p :: qs, ¬ W.mu a := fun a ha => fresh_mu G.ok (f.new a ha)
  refine c (.ref p) H' fl e ⟨p, qs.map V.ref, rfl, ⟨nm p List.mem_cons_self, f.atp⟩, ?_⟩ q
  refine dl_of_at (by rw [List.length_map]; exact f.len) fun i v a hv ha => ?_
  rw [List.getElem?_map] at hv
  cases hq : qs[i]? with
  | none => rw [hq] at hv; cases hv
  | some q =>
    rw [hq] at hv
    cases hv
    exact ⟨q, a.map V.str, rfl, ⟨nm q (List.mem_cons_of_mem _ (List.mem_of_getElem? hq)), f.atq i q a hq ha⟩, dl_of_strs a⟩
end G
set_option Elab.async false
set_option linter.all false
set_option maxRecDepth 100000
set_option maxHeartbeats 2000000
namespace G
open PySem PySem.Spec PyProof.Rows L2 StX
end G
set_option Elab.async false
set_option linter.all false
set_option maxRecDepth 100000
set_option maxHeartbeats 2000000
namespace G
open PySem PySem.Spec PyProof.Rows L2 StX
structure TwT (B : Bs) : Prop where
  cl : L2.Cls B.K (B.cl .Twins)
  n1 : NoAttr B.K (B.cl .Twins) "readings"
  n2 : NoAttr B.K (B.cl .Twins) "low_level"
  n3 : NoAttr B.K (B.cl .Twins) "low_lot"
  n4 : NoAttr B.K (B.cl .Twins) "high_level"
  n5 : NoAttr B.K (B.cl .Twins) "high_lot"
structure Twn where
  ds : List (Str × Int)
  lo : Int
  ll : List Str
  hi : Int
  hl : List Str
def twF (x : V) (lo : Int) (y : V) (hi : Int) (z : V) : List (Str × V) := [("readings", x), ("low_level", .int lo), ("low_lot", y), ("high_level", .int hi), ("high_lot", z)]
instance : Rep Twn :=
  ⟨fun W H v c => ∃ a dx x y z, v = .ref a ∧ ¬ W.mu a ∧ H a = some (.ins (W.B.cl .Twins) dx (twF x c.lo y c.hi z)) ∧ den W H x (Dc.mk c.ds) ∧ den W H y c.ll ∧ den W H z c.hl ∧ TwT W.B,
   fun e ⟨a, dx, x, y, z, hv, m, h, h1, h2, h3, hT⟩ => ⟨a, dx, x, y, z, hv, m, e _ _ m h, Rep.mono e h1, Rep.mono e h2, Rep.mono e h3, hT⟩,
   fun D n ⟨a, dx, x, y, z, hv, m, h, h1, h2, h3, hT⟩ => ⟨a, dx, x, y, z, hv, mu_grow n m h, h, Rep.grow D n h1, Rep.grow D n h2, Rep.grow D n h3, hT⟩,
   fun D ⟨a, dx, x, y, z, hv, m, h, h1, h2, h3, hT⟩ => ⟨a, dx, x, y, z, hv, fun z => m (.inl z), h, Rep.shrink D h1, Rep.shrink D h2, Rep.shrink D h3, hT⟩⟩
instance : Ins Twn .Twins ["readings", "low_level", "low_lot", "high_level", "high_lot"] := ⟨fun ⟨a, dx, x, y, z, hv, m, h, _⟩ => ⟨a, dx, _, hv, m, h, rfl⟩⟩
end G
set_option Elab.async false
set_option linter.all false
set_option maxRecDepth 100000
set_option maxHeartbeats 2000000
namespace G
open PySem PySem.Spec PyProof.Rows L2 StX
/-- as, cut at t, looks as bs does, cut at u -/
def CutL (t u : Int) : List Int → List Int → Prop
  | [], [] => True
  | a :: as, b :: bs => (a ≤ t ↔ b ≤ u) ∧ CutL t u as bs
  | _, _ => False
theorem CutL.length {t u : Int} : ∀ {as bs : List Int}, CutL t u as bs → as.length = bs.length
  | [], [], _ => rfl
  | _ :: _, _ :: _, h => congrArg (· + 1) (CutL.length h.2)
end G
set_option Elab.async false
set_option linter.all false
set_option maxRecDepth 100000
set_option maxHeartbeats 2000000
namespace G
open PySem PySem.Spec PyProof.Rows L2 StX
inductive Nm where
  | s (x : Str) | n | i (j : Int) | t (x : Str)
deriving DecidableEq
def nmD (W : Wc) (H : Hp) (v : V) : Nm → Prop
  | .s x => v = .str x
  | .n => v = .non
  | .i j => v = .int j
  | .t x => ∃ q, v = .ref q ∧ Tq W H q [.str x]
instance : Rep Nm where
  dn := nmD
  mono := fun {W H H' v a} e h => by
    cases a with
    | s x => exact h
    | n => exact h
    | i j => exact h
    | t x => exact h.imp fun q z => ⟨z.1, z.2.mono e⟩
  grow := fun {W H v a} D n h => by
    cases a with
    | s x => exact h
    | n => exact h
    | i j => exact h
    | t x => exact h.imp fun q z => ⟨z.1, z.2.grow D n⟩
  shrink := fun {W H v a} D h => by
    cases a with
    | s x => exact h
    | n => exact h
    | i j => exact h
    | t x => exact h.imp fun q z => ⟨z.1, z.2.shrink D⟩
def Nm.fv : Nm → Fv
  | .s x => .s x
  | .n => .no
  | .i j => .i j
  | .t x => .t1 x
theorem nm_fv {W : Wc} {H : Hp} {v : V} : ∀ {m : Nm}, den W H v m → m.fv.den W H v
  | .s _, h => h
  | .n, h => h
  | .i _, h => h
  | .t _, h => h
theorem fv_nm {W : Wc} {H : Hp} {v : V} : ∀ {m : Nm}, m.fv.den W H v → den W H v m
  | .s _, h => h
  | .n, h => h
  | .i _, h => h
  | .t _, h => h
theorem nm_upd {W : Wc} {H : Hp} {v : V} {p C dx : Addr} {fs : List (Str × V)} {o : HO} (hp : H p = some (.ins C dx fs)) : ∀ {m : Nm}, den W H v m → den W (upd H p o) v m
  | .s _, h => h
  | .n, h => h
  | .i _, h => h
  | .t x, ⟨q, h1, h2, h3⟩ => ⟨q, h1, h2, by
    have : q ≠ p := fun e => by
      rw [e, hp] at h3
      cases h3
    rw [upd_ne this]
    exact h3⟩
def nmP : Nm → PyData
  | .s x => .str x
  | .n => .none
  | .i j => .int j
  | .t x => .tuple [.str x]
theorem eqv_t1 (x y : Str) : PyData.eqv (.tuple [.str x]) (.tuple [.str y]) = (x == y) := by
  show ((x == y) && true) = _
  rw [Bool.and_true]
instance : Dat Nm where
  toD := nmP
  dp := fun {W H v a} h => by
    cases a with
    | s x => cases (show v = .str x from h); exact .str x
    | n => cases (show v = .non from h); exact .non
    | i j => cases (show v = .int j from h); exact .int j
    | t x =>
      obtain ⟨q, rfl, z⟩ := h
      exact .tup z.sq (.cons (.str x) .nil)
  dep := 1
  ddep := fun a => by
    cases a with
    | s x => exact Nat.zero_le 1
    | n => exact Nat.zero_le 1
    | i j => exact Nat.zero_le 1
    | t x => exact Nat.le_refl 1
  inj := fun a b => by
    cases a with
    | s x => cases b with
      | s y => exact (beq_iff_eq (a := x) (b := y)).trans ⟨fun h => by rw [h], fun h => by cases h; rfl⟩
      | n => exact ⟨fun h => Bool.noConfusion h, fun h => nomatch h⟩
      | i j => exact ⟨fun h => Bool.noConfusion h, fun h => nomatch h⟩
      | t y => exact ⟨fun h => Bool.noConfusion h, fun h => nomatch h⟩
    | n => cases b with
      | s y => exact ⟨fun h => Bool.noConfusion h, fun h => nomatch h⟩
      | n => exact ⟨fun _ => rfl, fun _ => rfl⟩
      | i j => exact ⟨fun h => Bool.noConfusion h, fun h => nomatch h⟩
      | t y => exact ⟨fun h => Bool.noConfusion h, fun h => nomatch h⟩
    | i j => cases b with
      | s y => exact ⟨fun h => Bool.noConfusion h, fun h => nomatch h⟩
      | n => exact ⟨fun h => Bool.noConfusion h, fun h => nomatch h⟩
      | i l => exact (beq_iff_eq (a := j) (b := l)).trans ⟨fun h => by rw [h], fun h => by cases h; rfl⟩
      | t y => exact ⟨fun h => Bool.noConfusion h, fun h => nomatch h⟩
    | t x => cases b with
      | s y => exact ⟨fun h => Bool.noConfusion h, fun h => nomatch h⟩
      | n => exact ⟨fun h => Bool.noConfusion h, fun h => nomatch h⟩
      | i j => exact ⟨fun h => Bool.noConfusion h, fun h => nomatch h⟩
      | t y =>
        show PyData.eqv (.tuple [.str x]) (.tuple [.str y]) = true ↔ _
        rw [eqv_t1]
        exact beq_iff_eq.trans ⟨fun h => by rw [h], fun h => by cases h; rfl⟩
  good := fun a => ∀ x, a = .s x ∨ a = .t x → (PyData.str x).canLay0 = true
  gshp := fun a h => by
    cases a with
    | s x => exact h x (.inl rfl)
    | n => rfl
    | i j => rfl
    | t x =>
      show ((PyData.str x).canLay0 && true) = true
      rw [h x (.inr rfl)]
      rfl
inductive Rs where
  | one (x : Nm) | lst (x : Nm)
deriving DecidableEq
def rsD (W : Wc) (H : Hp) (v : V) : Rs → Prop
  | .one x => den W H v x
  | .lst x => den W H v [x]
instance : Rep Rs where
  dn := rsD
  mono := fun {W H H' v a} e h => by
    cases a with
    | one x => exact Rep.mono (a := x) e h
    | lst x => exact Rep.mono (a := [x]) e h
  grow := fun {W H v a} D n h => by
    cases a with
    | one x => exact Rep.grow (a := x) D n h
    | lst x => exact Rep.grow (a := [x]) D n h
  shrink := fun {W H v a} D h => by
    cases a with
    | one x => exact Rep.shrink (a := x) D h
    | lst x => exact Rep.shrink (a := [x]) D h
def rsP : Rs → PyData
  | .one x => Dat.toD x
  | .lst x => Dat.toD [x]
instance : Dat Rs where
  toD := rsP
  dp := fun {W H v a} h => by
    cases a with
    | one x => exact Dat.dp (a := x) h
    | lst x => exact Dat.dp (a := [x]) h
  dep := 2
  ddep := fun a => by
    cases a with
    | one x => exact Nat.le_trans (Dat.ddep x) (by decide)
    | lst x => exact Dat.ddep [x]
  inj := fun a b => by
    cases a with
    | one x => cases b with
      | one y => exact (Dat.inj x y).trans ⟨fun h => by rw [h], fun h => by cases h; rfl⟩
      | lst y => cases x <;> exact ⟨fun h => Bool.noConfusion h, fun h => nomatch h⟩
    | lst x => cases b with
      | one y => cases y <;> exact ⟨fun h => Bool.noConfusion h, fun h => nomatch h⟩
      | lst y => exact (Dat.inj [x] [y]).trans ⟨fun h => by cases h; rfl, fun h => by cases h; rfl⟩
  good := fun a => match a with | .one x => Dat.good x | .lst x => Dat.good x
  gshp := fun a h => by
    cases a with
    | one x => exact Dat.gshp x h
    | lst x => exact Dat.gshp [x] fun y hy => by rw [List.mem_singleton.mp hy]; exact h
section
variable {W : Wd} {Γ : Gam} {te ta tb : TE} {K : PySem.W.Frag}
theorem ev_nmS {k : Nm → Prop} (h : EvK W te Γ fun x : Str => k (.s x)) : EvK W te Γ k := fun σ H Q G c => h σ H Q G fun v H' a e d q => c v H' (.s a) e d q
theorem ev_nmN {k : Nm → Prop} (h : EvK W te Γ fun _ : Unit => k .n) : EvK W te Γ k := fun σ H Q G c => h σ H Q G fun v H' a e d q => c v H' .n e d q
theorem ev_nmI {k : Nm → Prop} (h : EvK W te Γ fun j : Int => k (.i j)) : EvK W te Γ k := fun σ H Q G c => h σ H Q G fun v H' a e d q => c v H' (.i a) e d q
theorem ev_nmT {k : Nm → Prop} (h : EvK W te Γ fun x : Str => k (.t x)) : EvK W (tTup (tCons te tNil)) Γ k := fun σ H Q G c =>
  h σ H _ G fun v H1 x e1 d q => ⟨(by show 1 ≤ sizeLine; decide), fun p hp => by
    have d' : v = V.str x := d
    subst d'
    have e2 := Ext.new (o := .tup [V.str x]) e1.ok hp
    exact c _ _ (.t x) (e1.trans e2) ⟨p, rfl, Tq.new (fresh_mu e1.ok hp) upd_same⟩ q⟩
theorem ev_rs1 {k : Rs → Prop} (h : EvK W te Γ fun x : Nm => k (.one x)) : EvK W te Γ k := fun σ H Q G c => h σ H Q G fun v H' a e d q => c v H' (.one a) e d q
theorem ev_rsL {k : Rs → Prop} (h : EvK W te Γ fun xs : List Nm => ∃ x, xs = [x] ∧ k (.lst x)) : EvK W te Γ k := fun σ H Q G c => h σ H Q G fun v H' a e d ⟨x, ea, q⟩ => by
  subst ea
  exact c v H' (.lst x) e d q
/-- z[:b], z[a:] of a text -/
theorem ev_slSto {k : Str → Prop} (h : EvK W te Γ fun z : Str => EvK W tb Γ fun b : Int => (z.length ≤ 100000 ∧ 0 ≤ b ∧ b ≤ z.length) ∧ k ⟨(z.cps.toList.take b.toNat).toArray⟩) : EvK W (tSl rSlS te tNoPart (tPart tb)) Γ k := by
  refine fun σ H Q G c => h σ H _ G fun v H1 z e1 d1 h1 => ?_
  have d1' : v = V.str z := d1
  subst d1'
  refine h1 σ H1 _ (G.ext e1) fun u H2 b e2 d2 ⟨⟨hl, h0, hb⟩, q⟩ => ⟨b, d2, z, rfl, Nat.le_trans hl (by decide), ?_⟩
  obtain ⟨b', rfl⟩ : ∃ j : Nat, b = j := ⟨b.toNat, by omega⟩
  have e : cutS z none (some (b' : Int)) = ⟨(z.cps.toList.take b').toArray⟩ := by
    unfold cutS
    rw [HT.sIx_nat, HT.sIx_none, List.drop_zero, Nat.min_eq_left (by omega : b' ≤ z.length), Nat.sub_zero]
  rw [e]
  exact c _ H2 _ (e1.trans e2) rfl q
theorem ev_slSfrom {k : Str → Prop} (h : EvK W te Γ fun z : Str => EvK W ta Γ fun b : Int => (z.length ≤ 100000 ∧ 0 ≤ b ∧ b ≤ z.length) ∧ k ⟨(z.cps.toList.drop b.toNat).toArray⟩) : EvK W (tSl rSlS te (tPart ta) tNoPart) Γ k := by
  refine fun σ H Q G c => h σ H _ G fun v H1 z e1 d1 h1 => ?_
  have d1' : v = V.str z := d1
  subst d1'
  refine h1 σ H1 _ (G.ext e1) fun u H2 b e2 d2 ⟨⟨hl, h0, hb⟩, q⟩ => ⟨b, d2, z, rfl, Nat.le_trans hl (by decide), ?_⟩
  obtain ⟨b', rfl⟩ : ∃ j : Nat, b = j := ⟨b.toNat, by omega⟩
  have hzl : z.length = z.cps.toList.length := (Array.length_toList).symm
  have e : cutS z (some (b' : Int)) none = ⟨(z.cps.toList.drop b').toArray⟩ := by
    unfold cutS
    rw [HT.sIx_nat, HT.sIx_none, Nat.min_eq_left (by omega : b' ≤ z.length), List.take_of_length_le (by rw [List.length_drop, hzl]; omega)]
  rw [e]
  exact c _ H2 _ (e1.trans e2) rfl q
/-- e.f of an error in hand, a name of any kind -/
theorem ev_xfN {a : Addr} {cls : Value} {d : Option Addr} {f : Str} {C : Addr} {k : Nm → Prop} (hC : cls = .ref C) (h : EvK W te Γ fun e : Er => (e.a = a ∧ e.d = d) ∧ ∃ z : Nm, e.n.fs.lookup f = some z.fv ∧ k z) : EvK W (tXf a cls d C f te) Γ k := by
  refine fun σ H Q E c => h σ H _ E fun v H1 e e1 ⟨hv, xd⟩ ⟨⟨ha, hd⟩, z, hf, q⟩ => ?_
  subst ha hd
  rcases xd with ⟨h0, _⟩ | ⟨dd, vs, h1, _, h3, h4⟩
  · rw [h0] at hf
    cases hf
  obtain ⟨v2, hv2, dv⟩ := h4.at hf
  exact ⟨hv, hC, dd, vs, v2, h1, h3, hv2, c v2 H1 z e1 (fv_nm dv) q⟩
end
/-- names whose repr is short -/
def fineN : Nm → Prop
  | .s x => (reprText x).length ≤ 3000 ∧ x.length ≤ 3000
  | .n => True
  | .i j => Small j
  | .t x => x.length ≤ 100 ∧ ∀ c ∈ x.cps.toList, c < 16 ^ 8
def gnN : Nm → Bool
  | .s x => gnB x
  | _ => false
section
variable {X : Cx}
def tFmtN (K : PySem.W.Frag) (te : TE) : TE := fun σ H Q => te σ H fun x H1 => (∃ y : Str, x = .str y ∧ (reprText y).length ≤ sizeLine ∧ Q (.str (reprText y)) H1) ∨ (x = .non ∧ Q (.str "None") H1) ∨ (∃ i : Int, x = .int i ∧ i.natAbs.log2 < 1920 ∧ Q (.str (toString i)) H1) ∨
  ∃ (a : Addr) (l : List Str), x = .ref a ∧ SqT K H1 a (l.map V.str) ∧ (∀ y ∈ l, ∀ c ∈ y.cps.toList, c < 16 ^ 8) ∧ fmtCost l + 7 ≤ sizeLine ∧ ∀ m : Str, m.length ≤ fmtCost l + 7 → Q (.str m) H1
theorem pe_fmtN {e : Expr} {te : TE} {pos : Pos} {k : Nat} (hr : Room k X.A) (he : PE X e te) : PE X (.FormattedValue e 114 none pos) (tFmtN X.K te) := by
  refine ⟨fun pins s σ H Q I h => wpAny_FormattedValue_repr (thn (he.run pins s σ H _ I h) fun v s1 ⟨x, H1, I1, r1, q⟩ => ?_)⟩
  rcases q with ⟨y, rfl, hz, q⟩ | ⟨rfl, q⟩ | ⟨i, rfl, hz, q⟩ | ⟨a, l, rfl, ht, hc, hz, q⟩
  · obtain ⟨t, rfl⟩ := r1
    refine pyReprObj_str (wpAny_formatField_str ?_ ?_ hz) hz
    · exact ⟨V.str (reprText y), H1, I1.tok _, ⟨_, rfl⟩, q⟩
    · exact ⟨V.str (reprText y), H1, I1.tok _, ⟨_, rfl⟩, q⟩
  · cases r1
    refine pyReprObj_none (wpAny_formatField_str ?_ ?_ (by decide +kernel))
    · exact ⟨.str "None", H1, I1.tok _, ⟨_, rfl⟩, q⟩
    · exact ⟨.str "None", H1, I1.tok _, ⟨_, rfl⟩, q⟩
  · obtain ⟨t, rfl⟩ := r1
    refine pyReprObj_int hz (wpAny_formatField_str ?_ ?_ (int_text_fits hz))
    · exact ⟨V.str (toString i), H1, I1.tok _, ⟨_, rfl⟩, q⟩
    · exact ⟨V.str (toString i), H1, I1.tok _, ⟨_, rfl⟩, q⟩
  · cases r1
    obtain ⟨its, rv, ⟨o, ho, hcl, n, hd⟩, _⟩ := I1.tuple ht
    have hp := fmt_piled l hc
    have htx := fmt_text (l.map reprText)
    have hu := hr.units
    refine wpAny_pyReprObj_slot (by omega) ⟨o, ho, hcl⟩ F.slot_tuple_repr (fmt_tuple_repr (ts := l.map reprText) ho hcl hd (repr_all rv fun y hy => ?_) (by omega) fun m u tk hm => ⟨m, u, rfl, ?_⟩)
    · have h1 := StrLaws.reprText_len y (hc y hy)
      have h2 := fmtCost_mem hy
      omega
    · refine wpAny_formatField_str ?_ ?_ (by omega)
      · exact ⟨.str m, H1, I1.tok _, ⟨u, rfl⟩, q m (by omega)⟩
      · exact ⟨.str m, H1, I1.tok _, ⟨_, rfl⟩, q m (by omega)⟩
end
/-- a text of three parts whose second is a name's repr -/
theorem js_nm {K : PySem.W.Frag} {σ : L2.St} {W : Wc} {H : Hp} {te : TE} {a b : Str} {v : V} {m : Nm} {Q : Str → Hp → Prop} (hB : W.B.K = K) (ha : a.length ≤ 1000) (hb : b.length ≤ 1000) (hv : ∀ Q : VK, Q v H → te σ H Q) (d : den W H v m) (f : fineN m) (k : ∀ out, Q out H) : tJs [tC (.str a), tFmtN K te, tC (.str b)] Str.empty σ H Q := by
  subst hB
  have e0 : (Str.empty : Str).length = 0 := rfl
  have h1 := Str.length_append Str.empty a
  refine ⟨a, rfl, by unfold sizeLine; omega, hv _ ?_⟩
  have fin : ∀ y : Str, y.length ≤ 10000 → (Str.empty ++ a ++ y).length ≤ sizeLine ∧ tJs [tC (.str b)] (Str.empty ++ a ++ y) σ H Q := fun y hy => by
    have h2 := Str.length_append (Str.empty ++ a) y
    have h3 := Str.length_append (Str.empty ++ a ++ y) b
    exact ⟨by unfold sizeLine; omega, b, rfl, by unfold sizeLine; omega, k _⟩
  cases m with
  | s x =>
    have f' : (reprText x).length ≤ 3000 := f.1
    exact .inl ⟨x, d, by unfold sizeLine; omega, _, rfl, fin _ (by omega)⟩
  | n => exact .inr (.inl ⟨d, _, rfl, fin _ (by decide +kernel)⟩)
  | i j => exact .inr (.inr (.inl ⟨j, d, f, _, rfl, fin _ (Nat.le_trans (txt_len f) (by decide))⟩))
  | t x =>
    obtain ⟨q, rfl, z⟩ := d
    obtain ⟨f1, f2⟩ := f
    have hc : fmtCost [x] = 10 * x.length + 4 := by
      unfold fmtCost
      simp
    refine .inr (.inr (.inr ⟨q, [x], rfl, z.sq, fun y hy => ?_, by unfold sizeLine; omega, fun w hw => ⟨w, rfl, fin _ (by omega)⟩⟩))
    rw [List.mem_singleton.mp hy]
    exact f2
end G
set_option Elab.async false
set_option linter.all false
set_option maxRecDepth 100000
set_option maxHeartbeats 2000000
namespace G
open PySem PySem.Spec PyProof.Rows L2 StX
section
variable {X : Cx} {CX : CXT} {k n : Nat} {f C : Addr} {fd : FuncData} {ps ks : List Str} {sp : Sp} {E : L2.St → XK} {x : Str} {p p2 pos : Pos} {e : Expr} {es : List Expr} {kws : List Keyword} {t tk : TA} {g : List Value → List Value → List Value} {gV : List V → List V → List V}
def tMakeKZ (C : Addr) (n m : Nat) (sp : Sp) (gV : List V → List V → List V) (E : L2.St → XK) (t tk : TA) : TE := fun σ H Q => tMakeK C n m sp gV (E σ) t tk σ H Q
def tCallNZ (n m : Nat) (sp : Sp) (gV : List V → List V → List V) (E : L2.St → XK) (t tk : TA) : TE := fun σ H Q => tCallN n m sp gV (E σ) t tk σ H Q
theorem run_makeKZ {pins : List (Addr × Obj)} {σ : L2.St} {H : Hp} {s : Shared} {Q : VK} {us ws : List Value} {vs zs : List V} {E : XK} (M : Mk X.K C f) (F : FnOk X.prog X.w X.K X.mg X.base CX k f fd ps sp) (hr : Room (k + 1) X.A) (hb : KBn X.K fd ps (n + 1) ks g gV) (hx : PassesAt CX X σ E)
    (I : L2.Inv X pins σ H s) (r : Vals vs us) (rz : Vals zs ws) (l1 : vs.length = n) (l2 : zs.length = ks.length)
    (h : ∀ x dx, H x = none → H dx = none → dx ≠ x → sp (gV (.ref x :: vs) zs) (upd (upd H dx (.own x)) x (.ins C dx [])) (fun v H2 => v = .non ∧ Q (.ref x) H2) E) :
    wpAny (model X.prog X.w) X.A (call (.ref C) us (ks.zip ws)) (EP X pins σ Q) X.xe s := by
  have J := L2.Inv.made (C := C) I
  have nx : H (s.heap.objs.size + 1) = none := I.hok.fresh (Nat.le_succ _)
  have nd : H s.heap.objs.size = none := I.hok.fresh (Nat.le_refl _)
  have hq := h _ _ nx nd (Nat.ne_of_lt (Nat.lt_succ_self _))
  have r0 : Vals (V.ref (s.heap.objs.size + 1) :: vs) (Value.ref (s.heap.objs.size + 1) :: us) := .cons rfl r
  have len1 : (Value.ref (s.heap.objs.size + 1) :: us).length = n + 1 := congrArg (· + 1) (r.length.symm.trans l1)
  have bd := hb.to _ (Value.ref (s.heap.objs.size + 1) :: us) ws J.kIn len1 (rz.length.symm.trans l2)
  have run := F.run _ X.stack _ _ ⟨Value.ref (s.heap.objs.size + 1) :: us, ks.zip ws⟩ (g (Value.ref (s.heap.objs.size + 1) :: us) ws) _ _ E (hr.make C us (ks.zip ws)) (J.env0.make C us (ks.zip ws)) bd (hb.rel r0 rz) hq
  refine wpAny_call (make_map (f := f) I.kIn M.makes M.init (beq_iff_eq.mp M.fn) (codeAny_mono run fun r s2 h2 => ?_))
  match r, h2 with
  | .error e, h2 => exact hx pins _ _ e s2 J h2
  | .ok (.ret u), h2 =>
    obtain ⟨v, H3, J3, rv, ev, q3⟩ := J.after h2
    subst ev
    exact ⟨rv, V.ref (s.heap.objs.size + 1), H3, J3, rfl, q3⟩
  | .ok .next, h2 => exact h2.elim
  | .ok .brk, h2 => exact h2.elim
  | .ok .cont, h2 => exact h2.elim
/-- C(e, .., y = e2, ..) -/
theorem pe_makeKZ (M : Mk X.K C f) (F : FnOk X.prog X.w X.K X.mg X.base CX k f fd ps sp) (hr : Room (k + 1) X.A) (hg : Gl X x) (hm : X.mg x = some (.ref C)) (hb : KBn X.K fd ps (n + 1) ks g gV) (hx : ∀ σ, PassesAt CX X σ (E σ)) (ha : PA X (e :: es) t) (hkw : PK X kws tk)
    (hall : (backToKw pos (keywordEach kws X.env)).all (·.1.isSome) = true := by rfl) (hks : (backToKw pos (keywordEach kws X.env)).filterMap (·.1) = ks := by rfl) (hdb : (x == ("__debug__" : Str)) = false := by decide)
    (he : starEach (e :: es) X.env = (false, eval e X.env) :: starEach es X.env := by rfl) (hpl : ((backTo pos (starEach (e :: es) X.env)).any (·.1) || (backToKw pos (keywordEach kws X.env)).any (·.1.isNone)) = false := by rfl) :
    PE X (.Call (.Name x p) (e :: es) kws pos) (tMakeKZ C n ks.length sp gV E t tk) := by
  refine ⟨fun pins s σ H Q I h => wpAny_Call_Name_kw (ld_glob I hg hm ?_ hdb)⟩
  refine PySem.W.callWith_KW (h₀ := X.base) I.ok.mod.kin M.kp hall (thn (ha.run pos pins s σ H _ I h) fun us s1 ⟨vs, H1, I1, r, q⟩ => thn (hkw.run pos pins s1 σ H1 _ I1 q) fun ws s2 ⟨zs, H2, I2, rz, l1, l2, q2⟩ => ⟨I2.kIn, ?_⟩) hpl he
  rw [hks]
  exact run_makeKZ M F hr hb (hx σ) I2 r rz l1 l2 q2
theorem run_fnNZ {pins : List (Addr × Obj)} {σ : L2.St} {H : Hp} {s : Shared} {Q : VK} {us ws : List Value} {vs zs : List V} {E : XK} (F : FnOk X.prog X.w X.K X.mg X.base CX k f fd ps sp) (hr : Room k X.A) (hb : KBn X.K fd ps n ks g gV) (hx : PassesAt CX X σ E)
    (I : L2.Inv X pins σ H s) (r : Vals vs us) (rz : Vals zs ws) (l1 : vs.length = n) (l2 : zs.length = ks.length) (h : sp (gV vs zs) H Q E) : wpAny (model X.prog X.w) X.A (call (.ref f) us (ks.zip ws)) (EP X pins σ Q) X.xe s := by
  have bd := hb.to s us ws I.kIn (r.length.symm.trans l1) (rz.length.symm.trans l2)
  have run := F.run X.A X.stack s H ⟨us, ks.zip ws⟩ (g us ws) (gV vs zs) Q E hr I.env0 bd (hb.rel r rz) h
  refine wpAny_call (codeAny_mono run fun r s2 h2 => ?_)
  match r, h2 with
  | .error e, h2 => exact hx pins _ _ e s2 I h2
  | .ok (.ret u), h2 => exact I.after h2
  | .ok .next, h2 => exact h2.elim
  | .ok .brk, h2 => exact h2.elim
  | .ok .cont, h2 => exact h2.elim
/-- C.__init__(self, .., y = e2, ..) -/
theorem pe_cinitKZ {pl : Sem Bool} (T : CliT X.K C f) (F : FnOk X.prog X.w X.K X.mg X.base CX k f fd ps sp) (hr : Room k X.A) (hb : KBn X.K fd ps n ks g gV) (hx : ∀ σ, PassesAt CX X σ (E σ)) (hm : X.mg x = some (.ref C)) (ha : PA X (e :: es) t) (hkw : PK X kws tk) (hg : Gl X x := by rfl) (hdb : (x == ("__debug__" : Str)) = false := by decide)
    (hc : eval (.Call (.Attribute (.Name x p) "__init__" p2) (e :: es) kws pos) X.env = (do
      let ov ← eval (.Name x p) X.env
      standAt p2.atName
      let (f, first) ← holding [ov] (getMethod ov "__init__" pl)
      callWith pos f first (backTo pos (starEach (e :: es) X.env)) (backToKw pos (keywordEach kws X.env))) := by rfl)
    (hall : (backToKw pos (keywordEach kws X.env)).all (·.1.isSome) = true := by rfl) (hks : (backToKw pos (keywordEach kws X.env)).filterMap (·.1) = ks := by rfl)
    (he : starEach (e :: es) X.env = (false, eval e X.env) :: starEach es X.env := by rfl)
    (hpl : ((backTo pos (starEach (e :: es) X.env)).any (·.1) || (backToKw pos (keywordEach kws X.env)).any (·.1.isNone)) = false := by rfl) :
    PE X (.Call (.Attribute (.Name x p) "__init__" p2) (e :: es) kws pos) (tCallNZ n ks.length sp gV E t tk) := by
  refine ⟨fun pins s σ H Q I h => PySem.W.methodCall_KW (ld_glob I hg hm ?_ hdb) hc⟩
  refine PySem.W.method_cls I.kIn T.ga (PySem.W.cls_value I.kIn T.rd T.at_ (by rfl) ?_)
  show wpAny _ _ (callWith pos (Value.ref f) [] (backTo pos (starEach (e :: es) X.env)) (backToKw pos (keywordEach kws X.env))) _ _ _
  refine PySem.W.callWith_KW (h₀ := X.base) I.ok.mod.kin T.kp hall (thn (ha.run pos pins _ σ H _ (I.tok _) h) fun us s1 ⟨vs, H1, I1, r, q⟩ => thn (hkw.run pos pins s1 σ H1 _ I1 q) fun ws s2 ⟨zs, H2, I2, rz, l1, l2, q2⟩ => ⟨I2.kIn, ?_⟩) hpl he
  rw [hks]
  exact run_fnNZ F hr hb (hx σ) I2 r rz l1 l2 q2
end
def spErN (B : Bs) (C : Addr) : Sp := fun vs H Q E => ∃ (a : Addr) (v : V) (W : Wc) (m : Nm), vs = [.ref a, v] ∧ W.B.K = B.K ∧ den W H v m ∧ fineN m ∧ H a = some (exo a C none) ∧
  ∀ d H2, H d = none → d ≠ a → H2 a = some (exo a C (some d)) → H2 d = some (exd d [("name", v)]) → (∀ b, b ≠ a → b ≠ d → H2 b = H b) → Q .non H2
theorem nm_new {W : Wc} {H : Hp} {v : V} {a : Addr} {o : HO} (n : H a = none) : ∀ {m : Nm}, den W H v m → den W (upd H a o) v m
  | .s _, h => h
  | .n, h => h
  | .i _, h => h
  | .t x, ⟨q, h1, h2, h3⟩ => ⟨q, h1, h2, by rw [upd_ne (ne_of_none h3 n)]; exact h3⟩
theorem raw_raiseN {B : Bs} {C : Addr} {ta : TA} {σ : L2.St} {H : Hp} {Q : XK} {v : V} {W : Wc} {m : Nm} (ht : ∀ K : List V → Hp → Prop, K [v] H → ta σ H K) (hB : W.B.K = B.K) (dv : den W H v m) (f : fineN m) (k : ∀ d, H d = none → Q (.ref C) (some d) (upd H d (.xd [("name", v)]))) : tMkO C (spErN B C) [] ta σ H Q :=
  ht _ ⟨(by show 1 ≤ 1000; decide), fun a ha => ⟨a, v, W, m, rfl, hB, nm_new ha dv, f, upd_same, fun d H2 hd hda h1 h2 h3 => by
    obtain ⟨n, e⟩ := mko_out (gs := [("name", v)]) ha hd hda h3
    exact ⟨rfl, d, _, h1, h2, n, by rw [e]; exact k d n⟩⟩⟩
/-- what BadGauge with the name v means for a caller: nothing older than p has changed -/
def BadE (B : Bs) (W : Wd) (H : Hp) (p : Addr) (v : V) (E : XK) : Prop := ∀ H' d, (∀ a o, ¬ W.mu a → a ≠ p → H a = some o → H' a = some o) → W.ok H' → H' d = none → E (.ref (B.cl .BadGauge)) (some d) (upd H' d (.xd [("name", v)]))
theorem BadE.after {B : Bs} {W : Wd} {H H1 : Hp} {p : Addr} {v : V} {E : XK} (h : BadE B W H p v E) (k : ∀ a o, ¬ W.mu a → a ≠ p → H a = some o → H1 a = some o) : BadE B W H1 p v E :=
  fun H' d e => h H' d fun a o m n z => e a o m n (k a o m n z)
def spGIN (B : Bs) : Sp := fun vs H Q E => ∃ (W : Wd) (p dx : Addr) (fs : List (Str × V)) (kd : GK) (m : Nm) (v : V) (rd : Int), vs = [.ref p, v, .int rd] ∧ den W.toWc H v m ∧ fineN m ∧ H p = some (.ins (B.cl kd.cn) dx fs) ∧ W.B = B ∧ W.ok H ∧ ¬ W.mu p ∧ fs.length < 900 ∧ GauT B ∧
  ((gnN m = true ∧ 0 ≤ rd) → ∀ H', Ext W H H' → Q .non (upd (upd H' p (.ins (B.cl kd.cn) dx (putF "name" v fs))) p (.ins (B.cl kd.cn) dx (putF "radius" (.int rd) (putF "name" v fs))))) ∧
  (¬ (gnN m = true ∧ 0 ≤ rd) → BadE B W H p v E)
def spCIN (B : Bs) : Sp := fun vs H Q E => ∃ (W : Wd) (p dx : Addr) (fs : List (Str × V)) (kd : GK) (m : Nm) (v : V) (rd st : Int), vs = [.ref p, v, .int rd, .int st] ∧ den W.toWc H v m ∧ fineN m ∧ H p = some (.ins (B.cl kd.cn) dx fs) ∧ W.B = B ∧ W.ok H ∧ ¬ W.mu p ∧ fs.length < 800 ∧ GauT B ∧
  ((gnN m = true ∧ 0 ≤ rd ∧ 1 ≤ st) → ∀ H', Ext W H H' → Q .non (upd (upd (upd H' p (.ins (B.cl kd.cn) dx (putF "name" v fs))) p (.ins (B.cl kd.cn) dx (putF "radius" (.int rd) (putF "name" v fs)))) p (.ins (B.cl kd.cn) dx (putF "step" (.int st) (putF "radius" (.int rd) (putF "name" v fs)))))) ∧
  (¬ (gnN m = true ∧ 0 ≤ rd ∧ 1 ≤ st) → BadE B W H p v E)
def spTIN (B : Bs) : Sp := fun vs H Q E => ∃ (W : Wd) (p dx : Addr) (fs : List (Str × V)) (kd : GK) (m : Nm) (v : V) (rd lt pc : Int), vs = [.ref p, v, .int rd, .int lt, .int pc] ∧ den W.toWc H v m ∧ fineN m ∧ H p = some (.ins (B.cl kd.cn) dx fs) ∧ W.B = B ∧ W.ok H ∧ ¬ W.mu p ∧ fs.length < 700 ∧ GauT B ∧
  ((gnN m = true ∧ 0 ≤ rd ∧ 0 ≤ lt ∧ 0 ≤ pc) → ∀ H', Ext W H H' → Q .non (upd (upd (upd (upd H' p (.ins (B.cl kd.cn) dx (putF "name" v fs))) p (.ins (B.cl kd.cn) dx (putF "radius" (.int rd) (putF "name" v fs)))) p (.ins (B.cl kd.cn) dx (putF "late" (.int lt) (putF "radius" (.int rd) (putF "name" v fs))))) p (.ins (B.cl kd.cn) dx (putF "pace" (.int pc) (putF "late" (.int lt) (putF "radius" (.int rd) (putF "name" v fs))))))) ∧
  (¬ (gnN m = true ∧ 0 ≤ rd ∧ 0 ≤ lt ∧ 0 ≤ pc) → BadE B W H p v E)
def spQIN (B : Bs) : Sp := fun vs H Q E => ∃ (W : Wd) (p dx : Addr) (m : Nm) (v : V) (rd st lt pc : Int), vs = [.ref p, v, .int rd, .int st, .int lt, .int pc] ∧ den W.toWc H v m ∧ fineN m ∧ H p = some (.ins (B.cl .LateCoarseGauge) dx []) ∧ W.B = B ∧ W.ok H ∧ ¬ W.mu p ∧ GauT B ∧
  ((gnN m = true ∧ 0 ≤ rd ∧ 1 ≤ st ∧ 0 ≤ lt ∧ 0 ≤ pc) → ∀ nm H', v = .str nm → (∀ a o, ¬ W.mu a → a ≠ p → H a = some o → H' a = some o) → W.ok H' → H' p = some (.ins (B.cl .LateCoarseGauge) dx (gauF ⟨.lc, nm, rd, st, lt, pc⟩)) → Q .non H') ∧
  (¬ (gnN m = true ∧ 0 ≤ rd ∧ 1 ≤ st ∧ 0 ≤ lt ∧ 0 ≤ pc) → BadE B W H p v E)
theorem gnN_str {m : Nm} (h : gnN m = true) : ∃ x, m = .s x ∧ gnB x = true := by
  cases m with
  | s x => exact ⟨x, rfl, h⟩
  | n => cases h
  | i j => cases h
  | t x => cases h
section
variable {W : Wd} {Γ : Gam} {ta tb tc td : TE} {B : Bs} {C : Addr} {E : L2.St → XK} {x : Xn → Prop}
/-- the state in which __init__ begins, and what BadGauge means from there -/
theorem made_bad {H2 : Hp} {v : V} {m : Nm} {c : Cn} {xx dx : Addr} {E : XK} (hx : XOk W H2 E x) (o : W.ok H2) (dv : den W.toWc H2 v m) (nx : H2 xx = none) (ndx : H2 dx = none) (hb : x ⟨.BadGauge, [("name", m.fv)]⟩) :
    BadE W.B W (upd (upd H2 dx (.own xx)) xx (.ins (W.B.cl c) dx [])) xx v E := fun H' d k ok hd => by
  have kp : Ext W H2 H' := ⟨fun a u mu q => k a u mu (ne_of_none q nx) (by rw [upd_ne (ne_of_none q nx), upd_ne (ne_of_none q ndx)]; exact q), ok⟩
  have e2 := kp.trans (Ext.new (o := .xd [("name", v)]) ok hd)
  exact hx ⟨.BadGauge, [("name", m.fv)]⟩ (some d) _ e2 (.inr ⟨d, _, rfl, fresh_mu ok hd, upd_same, .cons (nm_fv (Rep.mono (a := m) e2.keep dv)) .nil⟩) hb
theorem made_ok {H2 : Hp} {c : Cn} {xx dx : Addr} (o : W.ok H2) (nx : H2 xx = none) (ndx : H2 dx = none) : ¬ W.mu xx ∧ W.ok (upd (upd H2 dx (.own xx)) xx (.ins (W.B.cl c) dx [])) ∧ Ext W H2 (upd (upd H2 dx (.own xx)) xx (.ins (W.B.cl c) dx [])) := by
  have m1 := fresh_mu o ndx
  have m2 := fresh_mu o nx
  have ok3 : W.ok (upd (upd H2 dx (.own xx)) xx (.ins (W.B.cl c) dx [])) := W.st _ _ _ (W.st _ _ _ o m1) m2
  exact ⟨m2, ok3, fun a o _ q => by rw [upd_ne (ne_of_none q nx), upd_ne (ne_of_none q ndx)]; exact q, ok3⟩
theorem ev_gaugeN {k : Gau → Prop} (st lt pc : Int) (hB : W.B = B) (hC : B.cl .Gauge = C) (hT : GauT B) (hx : HX W Γ E x)
    (h : EvK W ta Γ fun m : Nm => EvK W tb Γ fun rd : Int => fineN m ∧ (∀ y, m = .s y → gnB y = true → 0 ≤ rd → k ⟨.pl, y, rd, st, lt, pc⟩) ∧ (¬ (gnN m = true ∧ 0 ≤ rd) → x ⟨.BadGauge, [("name", m.fv)]⟩)) : EvK W (tMakeZ C (spGIN B) E (tCons ta (tCons tb tNil))) Γ k := by
  subst hB hC
  refine fun σ H Q G c => h σ H _ G fun v H1 m e1 d1 h1 => h1 σ H1 _ (G.ext e1) fun u H2 rd e2 d2 ⟨hf, hg, hb⟩ => ?_
  have d2' : u = V.int rd := d2
  subst d2'
  intro xx dx nx ndx nex
  have e := e1.trans e2
  obtain ⟨m2, ok3, e3⟩ := made_ok (c := .Gauge) e.ok nx ndx
  have dv : den W.toWc H2 v m := Rep.mono (a := m) e2.keep d1
  refine ⟨W, xx, dx, [], .pl, m, v, rd, rfl, Rep.mono (a := m) e3.keep dv, hf, upd_same, rfl, ok3, m2, by decide, hT, fun ⟨g1, g2⟩ H' e4 => ⟨rfl, ?_⟩, fun nb => made_bad (hx σ H2 (G.ext e)) e.ok dv nx ndx (hb nb)⟩
  obtain ⟨y, rfl, gy⟩ := gnN_str g1
  have d1' : v = V.str y := d1
  subst d1'
  have e5 := e3.trans e4
  have ne : ∀ a o, H2 a = some o → a ≠ xx := fun a o q => ne_of_none q nx
  refine c (.ref xx) _ ⟨.pl, y, rd, st, lt, pc⟩ (e.trans ⟨fun a o m q => ?_, W.st _ _ _ (W.st _ _ _ e5.ok m2) m2⟩) ⟨xx, dx, rfl, m2, ?_⟩ (hg y rfl gy g2)
  · rw [upd_ne (ne a o q), upd_ne (ne a o q)]
    exact e5.keep a o m q
  · rw [upd_same]
    show some (HO.ins _ _ (putF "radius" (.int rd) (putF "name" (.str y) []))) = _
    rw [gauF_pl y rd st lt pc]
theorem ev_coarseN {k : Gau → Prop} (lt pc : Int) (hB : W.B = B) (hC : B.cl .CoarseGauge = C) (hT : GauT B) (hx : HX W Γ E x)
    (h : EvK W ta Γ fun m : Nm => EvK W tb Γ fun rd : Int => EvK W tc Γ fun st : Int => fineN m ∧ (∀ y, m = .s y → gnB y = true → 0 ≤ rd → 1 ≤ st → k ⟨.co, y, rd, st, lt, pc⟩) ∧ (¬ (gnN m = true ∧ 0 ≤ rd ∧ 1 ≤ st) → x ⟨.BadGauge, [("name", m.fv)]⟩)) : EvK W (tMakeKZ C 2 1 (spCIN B) (fun vs zs => vs ++ zs) E (tCons ta (tCons tb tNil)) (tCons tc tNil)) Γ k := by
  subst hB hC
  refine fun σ H Q G c => h σ H _ G fun v H1 m e1 d1 h1 => h1 σ H1 _ (G.ext e1) fun u H1' rd e1' d2 h2 => h2 σ H1' _ ((G.ext e1).ext e1') fun u3 H2 st e2 d3 ⟨hf, hg, hb⟩ => ?_
  have d2' : u = V.int rd := d2
  have d3' : u3 = V.int st := d3
  subst d2' d3'
  refine ⟨rfl, rfl, ?_⟩
  intro xx dx nx ndx nex
  have e := (e1.trans e1').trans e2
  obtain ⟨m2, ok3, e3⟩ := made_ok (c := .CoarseGauge) e.ok nx ndx
  have dv : den W.toWc H2 v m := Rep.mono (a := m) (e1'.trans e2).keep d1
  refine ⟨W, xx, dx, [], .co, m, v, rd, st, rfl, Rep.mono (a := m) e3.keep dv, hf, upd_same, rfl, ok3, m2, by decide, hT, fun ⟨g1, g2, g3⟩ H' e4 => ⟨rfl, ?_⟩, fun nb => made_bad (hx σ H2 (G.ext e)) e.ok dv nx ndx (hb nb)⟩
  obtain ⟨y, rfl, gy⟩ := gnN_str g1
  have d1' : v = V.str y := d1
  subst d1'
  have e5 := e3.trans e4
  have ne : ∀ a o, H2 a = some o → a ≠ xx := fun a o q => ne_of_none q nx
  refine c (.ref xx) _ ⟨.co, y, rd, st, lt, pc⟩ (e.trans ⟨fun a o m q => ?_, W.st _ _ _ (W.st _ _ _ (W.st _ _ _ e5.ok m2) m2) m2⟩) ⟨xx, dx, rfl, m2, ?_⟩ (hg y rfl gy g2 g3)
  · rw [upd_ne (ne a o q), upd_ne (ne a o q), upd_ne (ne a o q)]
    exact e5.keep a o m q
  · rw [upd_same]
    show some (HO.ins _ _ (putF "step" (.int st) (putF "radius" (.int rd) (putF "name" (.str y) [])))) = _
    rw [gauF_co y rd st lt pc]
theorem ev_lateN {k : Gau → Prop} (st : Int) (hB : W.B = B) (hC : B.cl .LateGauge = C) (hT : GauT B) (hx : HX W Γ E x)
    (h : EvK W ta Γ fun m : Nm => EvK W tb Γ fun rd : Int => EvK W tc Γ fun lt : Int => EvK W td Γ fun pc : Int => fineN m ∧ (∀ y, m = .s y → gnB y = true → 0 ≤ rd → 0 ≤ lt → 0 ≤ pc → k ⟨.la, y, rd, st, lt, pc⟩) ∧ (¬ (gnN m = true ∧ 0 ≤ rd ∧ 0 ≤ lt ∧ 0 ≤ pc) → x ⟨.BadGauge, [("name", m.fv)]⟩)) : EvK W (tMakeKZ C 2 2 (spTIN B) (fun vs zs => vs ++ zs) E (tCons ta (tCons tb tNil)) (tCons tc (tCons td tNil))) Γ k := by
  subst hB hC
  refine fun σ H Q G c => h σ H _ G fun v H1 m e1 d1 h1 => h1 σ H1 _ (G.ext e1) fun u H1' rd e1' d2 h2 => h2 σ H1' _ ((G.ext e1).ext e1') fun u3 H1'' lt e1'' d3 h3 => h3 σ H1'' _ (((G.ext e1).ext e1').ext e1'') fun u4 H2 pc e2 d4 ⟨hf, hg, hb⟩ => ?_
  have d2' : u = V.int rd := d2
  have d3' : u3 = V.int lt := d3
  have d4' : u4 = V.int pc := d4
  subst d2' d3' d4'
  refine ⟨rfl, rfl, ?_⟩
  intro xx dx nx ndx nex
  have e := ((e1.trans e1').trans e1'').trans e2
  obtain ⟨m2, ok3, e3⟩ := made_ok (c := .LateGauge) e.ok nx ndx
  have dv : den W.toWc H2 v m := Rep.mono (a := m) ((e1'.trans e1'').trans e2).keep d1
  refine ⟨W, xx, dx, [], .la, m, v, rd, lt, pc, rfl, Rep.mono (a := m) e3.keep dv, hf, upd_same, rfl, ok3, m2, by decide, hT, fun ⟨g1, g2, g3, g4⟩ H' e4 => ⟨rfl, ?_⟩, fun nb => made_bad (hx σ H2 (G.ext e)) e.ok dv nx ndx (hb nb)⟩
  obtain ⟨y, rfl, gy⟩ := gnN_str g1
  have d1' : v = V.str y := d1
  subst d1'
  have e5 := e3.trans e4
  have ne : ∀ a o, H2 a = some o → a ≠ xx := fun a o q => ne_of_none q nx
  refine c (.ref xx) _ ⟨.la, y, rd, st, lt, pc⟩ (e.trans ⟨fun a o m q => ?_, W.st _ _ _ (W.st _ _ _ (W.st _ _ _ (W.st _ _ _ e5.ok m2) m2) m2) m2⟩) ⟨xx, dx, rfl, m2, ?_⟩ (hg y rfl gy g2 g3 g4)
  · rw [upd_ne (ne a o q), upd_ne (ne a o q), upd_ne (ne a o q), upd_ne (ne a o q)]
    exact e5.keep a o m q
  · rw [upd_same]
    show some (HO.ins _ _ (putF "pace" (.int pc) (putF "late" (.int lt) (putF "radius" (.int rd) (putF "name" (.str y) []))))) = _
    rw [gauF_la y rd st lt pc]
theorem ev_lcN {k : Gau → Prop} {tc td te : TE} (hB : W.B = B) (hC : B.cl .LateCoarseGauge = C) (hT : GauT B) (hx : HX W Γ E x)
    (h : EvK W ta Γ fun m : Nm => EvK W tb Γ fun rd : Int => EvK W tc Γ fun st : Int => EvK W td Γ fun lt : Int => EvK W te Γ fun pc : Int => fineN m ∧ (∀ y, m = .s y → gnB y = true → 0 ≤ rd → 1 ≤ st → 0 ≤ lt → 0 ≤ pc → k ⟨.lc, y, rd, st, lt, pc⟩) ∧ (¬ (gnN m = true ∧ 0 ≤ rd ∧ 1 ≤ st ∧ 0 ≤ lt ∧ 0 ≤ pc) → x ⟨.BadGauge, [("name", m.fv)]⟩)) : EvK W (tMakeKZ C 2 3 (spQIN B) (fun vs zs => vs ++ zs) E (tCons ta (tCons tb tNil)) (tCons tc (tCons td (tCons te tNil)))) Γ k := by
  subst hB hC
  refine fun σ H Q G c => h σ H _ G fun v H1 m e1 d1 h1 => h1 σ H1 _ (G.ext e1) fun u H3 rd e3' d2 h2 => h2 σ H3 _ ((G.ext e1).ext e3') fun u3 H4 st e4' d3 h3 => h3 σ H4 _ (((G.ext e1).ext e3').ext e4') fun u4 H5 lt e5' d4 h4 => h4 σ H5 _ ((((G.ext e1).ext e3').ext e4').ext e5') fun u5 H2 pc e2 d5 ⟨hf, hg, hb⟩ => ?_
  have d2' : u = V.int rd := d2
  have d3' : u3 = V.int st := d3
  have d4' : u4 = V.int lt := d4
  have d5' : u5 = V.int pc := d5
  subst d2' d3' d4' d5'
  refine ⟨rfl, rfl, ?_⟩
  intro xx dx nx ndx nex
  have e' := ((e3'.trans e4').trans e5').trans e2
  have e := e1.trans e'
  obtain ⟨m2, ok3, e3⟩ := made_ok (c := .LateCoarseGauge) e.ok nx ndx
  have dv : den W.toWc H2 v m := Rep.mono (a := m) e'.keep d1
  refine ⟨W, xx, dx, m, v, rd, st, lt, pc, rfl, Rep.mono (a := m) e3.keep dv, hf, upd_same, rfl, ok3, m2, hT, fun ⟨g1, g2, g3, g4, g5⟩ nm H' ev hk ho hxx => ⟨rfl, ?_⟩, fun nb => made_bad (hx σ H2 (G.ext e)) e.ok dv nx ndx (hb nb)⟩
  obtain ⟨y, rfl, gy⟩ := gnN_str g1
  have d1' : v = V.str y := d1
  rw [d1'] at ev
  cases ev
  refine c (.ref xx) _ ⟨.lc, nm, rd, st, lt, pc⟩ (e.trans ⟨fun a o m q => ?_, ho⟩) ⟨xx, dx, rfl, m2, hxx⟩ (hg nm rfl gy g2 g3 g4 g5)
  exact hk a o m (ne_of_none q nx) (e3.keep a o m q)
end
theorem pe_fmtNK {X : Cx} (K : PySem.W.Frag) {e : Expr} {te : TE} {pos : Pos} {k : Nat} (hr : Room k X.A) (he : PE X e te) (hK : X.K = K := by rfl) : PE X (.FormattedValue e 114 none pos) (tFmtN K te) := by
  subst hK
  exact pe_fmtN hr he
def Nm.isS : Nm → Bool
  | .s _ => true
  | _ => false
/-- isinstance(name, str) -/
theorem ev_isiNm {W : Wd} {Γ : Gam} {te : TE} {K : PySem.W.Frag} {k : Bool → Prop} (hK : W.B.K = K) (h : EvK W te Γ fun m : Nm => k m.isS) : EvK W (tCB (rIsi K) (tCons te (tCons (tC (.ty "str")) tNil))) Γ k := by
  subst hK
  refine fun σ H Q E c => h σ H _ E fun v H1 m e1 d z => ?_
  cases m with
  | s x =>
    cases (show v = .str x from d)
    exact ⟨_, .ty "str", _, _, true, rfl, .ty "str", .base (.str _), kit_ty (by decide +kernel), c _ H1 true e1 rfl z⟩
  | n =>
    cases (show v = .non from d)
    exact ⟨_, .ty "str", _, _, false, rfl, .ty "str", .base .non, kit_ty (by decide +kernel), c _ H1 false e1 rfl z⟩
  | i j =>
    cases (show v = .int j from d)
    exact ⟨_, .ty "str", _, _, false, rfl, .ty "str", .base (.int _), kit_ty (by decide +kernel), c _ H1 false e1 rfl z⟩
  | t x =>
    obtain ⟨q, rfl, s⟩ := d
    exact ⟨_, .ty "str", _, _, false, rfl, .ty "str", .base (.tup s.2), kit_ty (by decide +kernel), c _ H1 false e1 rfl z⟩
end G
set_option Elab.async false
set_option linter.all false
set_option maxRecDepth 100000
set_option maxHeartbeats 4000000
namespace Lw
open PySem PySem.Spec PyProof.Rows L2 StX G
def top (i : Nat) : Stmt := PySem.Challenge.pw_gaugemiss_k14_gauge_refusals.main.body.getD i (.Pass ⟨0, 0, 0, 0⟩)
abbrev s_take : Stmt := top 20
abbrev s_box : Stmt := top 19
abbrev s_word : Stmt := top 21
abbrev s_words : Stmt := top 22
abbrev s_m_is_gauge_name : Stmt := top 13
abbrev s_BadGauge_init : Stmt := inClass (top 6) 0
abbrev s_Gauge_init : Stmt := inClass (top 14) 1
abbrev s_CoarseGauge_init : Stmt := inClass (top 15) 0
abbrev s_LateGauge_init : Stmt := inClass (top 16) 0
abbrev s_LateCoarseGauge_init : Stmt := inClass (top 17) 0
abbrev s_made : Stmt := top 23
abbrev s_law : Stmt := top 24
theorem sc_take : FnScope ["_law_box_here", "_law_many", "_law_cells", "_law_digit", "_law_cell"] ["_law_box_here", "_law_many"] (defScope s_take) := ⟨rfl, rfl, rfl, by decide +kernel, rfl, by decide +kernel, by decide +kernel⟩
theorem sc_box : FnScope ["_law_script", "_law_salt", "_law_cell"] ["_law_script", "_law_salt"] (defScope s_box) := ⟨rfl, rfl, rfl, by decide +kernel, rfl, by decide +kernel, by decide +kernel⟩
theorem sc_word : FnScope ["_law_number", "_law_many", "_law_back", "_law_word_here", "_law_turn"] ["_law_number", "_law_many", "_law_back"] (defScope s_word) := ⟨rfl, rfl, rfl, by decide +kernel, rfl, by decide +kernel, by decide +kernel⟩
theorem sc_words : FnScope ["_law_box_here", "_law_many", "_law_words_here", "_law_back", "_law_turn", "_law_wide", "_law_number", "_law_word_here", "_law_again"] ["_law_box_here", "_law_many"] (defScope s_words) := ⟨rfl, rfl, rfl, by decide +kernel, rfl, by decide +kernel, by decide +kernel⟩
theorem sc_m_is_gauge_name : FnScope ["name", "sign"] ["name"] (defScope s_m_is_gauge_name) := ⟨rfl, rfl, rfl, by decide +kernel, rfl, by decide +kernel, by decide +kernel⟩
theorem sc_BadGauge_init : FnScope ["self", "name"] ["self", "name"] (defScope s_BadGauge_init) := ⟨rfl, rfl, rfl, by decide +kernel, rfl, by decide +kernel, by decide +kernel⟩
theorem sc_Gauge_init : FnScope ["self", "name", "radius"] ["self", "name", "radius"] (defScope s_Gauge_init) := ⟨rfl, rfl, rfl, by decide +kernel, rfl, by decide +kernel, by decide +kernel⟩
theorem sc_CoarseGauge_init : FnScope ["self", "name", "radius", "step"] ["self", "name", "radius", "step"] (defScope s_CoarseGauge_init) := ⟨rfl, rfl, rfl, by decide +kernel, rfl, by decide +kernel, by decide +kernel⟩
theorem sc_LateGauge_init : FnScope ["self", "name", "radius", "late", "pace"] ["self", "name", "radius", "late", "pace"] (defScope s_LateGauge_init) := ⟨rfl, rfl, rfl, by decide +kernel, rfl, by decide +kernel, by decide +kernel⟩
theorem sc_LateCoarseGauge_init : FnScope ["self", "name", "radius", "step", "late", "pace"] ["self", "name", "radius", "step", "late", "pace"] (defScope s_LateCoarseGauge_init) := ⟨rfl, rfl, rfl, by decide +kernel, rfl, by decide +kernel, by decide +kernel⟩
theorem sc_made : FnScope ["_law_sort", "_law_word_here", "_law_numbers", "_law_gauge", "e"] ["_law_sort", "_law_word_here", "_law_numbers"] (defScope s_made) := ⟨rfl, rfl, rfl, by decide +kernel, rfl, by decide +kernel, by decide +kernel⟩
theorem sc_law : FnScope ["_law_script", "_law_box_here", "_law_word_here", "_law_at", "_law_bad", "_law_fair", "_law_fine", "_law_sort", "_law_numbers", "_law_name", "_law_k", "_law_worse", "_law_asked", "_law_due"] ["_law_script"] (defScope s_law) := ⟨rfl, rfl, rfl, by decide +kernel, rfl, by decide +kernel, by decide +kernel⟩
structure Ad where
  c_GaugeError : Addr
  c_BadGauge : Addr
  c_DuplicateGauge : Addr
  c_Gauge : Addr
  c_CoarseGauge : Addr
  c_LateGauge : Addr
  c_LateCoarseGauge : Addr
  f_take : Addr
  f_box : Addr
  f_word : Addr
  f_words : Addr
  f_m_is_gauge_name : Addr
  f_BadGauge_init : Addr
  f_Gauge_init : Addr
  f_CoarseGauge_init : Addr
  f_LateGauge_init : Addr
  f_LateCoarseGauge_init : Addr
  f_made : Addr
  f_law : Addr
  k_BARRED : Addr
def bs (K : PySem.W.Frag) (A : Ad) : Bs := ⟨K, fun
  | .GaugeError => A.c_GaugeError
  | .BadGauge => A.c_BadGauge
  | .DuplicateGauge => A.c_DuplicateGauge
  | .Gauge => A.c_Gauge
  | .CoarseGauge => A.c_CoarseGauge
  | .LateGauge => A.c_LateGauge
  | .LateCoarseGauge => A.c_LateCoarseGauge
  | _ => 0⟩
structure Txt (K : PySem.W.Frag) (mg : Str → Option Value) (A : Ad) : Prop where
  g_take : DefAt K mg "_law_take" s_take ["_law_box_here", "_law_many"] A.f_take
  g_box : DefAt K mg "_law_box" s_box ["_law_script", "_law_salt"] A.f_box
  g_word : DefAt K mg "_law_word" s_word ["_law_number", "_law_many", "_law_back"] A.f_word
  g_words : DefAt K mg "_law_words" s_words ["_law_box_here", "_law_many"] A.f_words
  g_m_is_gauge_name : DefAt K mg "is_gauge_name" s_m_is_gauge_name ["name"] A.f_m_is_gauge_name
  d_BadGauge_init : DefM K "__init__" "BadGauge.__init__" s_BadGauge_init ["self", "name"] A.f_BadGauge_init
  xi_BadGauge : PySem.W.findIn K (.ref A.c_BadGauge) "__init__" = some (some (.ref A.f_BadGauge_init))
  xt_BadGauge : PySem.W.typeIn K (.ref A.f_BadGauge_init) = some (.type "function")
  d_Gauge_init : DefM K "__init__" "Gauge.__init__" s_Gauge_init ["self", "name", "radius"] A.f_Gauge_init
  m_Gauge : Mk K A.c_Gauge A.f_Gauge_init
  dk_CoarseGauge_init : DefK K "__init__" "CoarseGauge.__init__" s_CoarseGauge_init ["self", "name", "radius", "step"] 3 ["step"] A.f_CoarseGauge_init
  m_CoarseGauge : Mk K A.c_CoarseGauge A.f_CoarseGauge_init
  dk_LateGauge_init : DefK K "__init__" "LateGauge.__init__" s_LateGauge_init ["self", "name", "radius", "late", "pace"] 3 ["late", "pace"] A.f_LateGauge_init
  m_LateGauge : Mk K A.c_LateGauge A.f_LateGauge_init
  dk_LateCoarseGauge_init : DefK K "__init__" "LateCoarseGauge.__init__" s_LateCoarseGauge_init ["self", "name", "radius", "step", "late", "pace"] 3 ["step", "late", "pace"] A.f_LateCoarseGauge_init
  m_LateCoarseGauge : Mk K A.c_LateCoarseGauge A.f_LateCoarseGauge_init
  g_made : DefAt K mg "_law_made" s_made ["_law_sort", "_law_word_here", "_law_numbers"] A.f_made
  g_law : DefAt K mg "law" s_law ["_law_script"] A.f_law
  c_GaugeError : mg "GaugeError" = some (.ref A.c_GaugeError)
  ge : GeT K mg A.c_GaugeError
  c_BadGauge : mg "BadGauge" = some (.ref A.c_BadGauge)
  xo_BadGauge : OexC K A.c_BadGauge
  xf_BadGauge : XfC K A.c_BadGauge
  n_BadGauge_name : PySem.W.findIn K (.ref A.c_BadGauge) "name" = some none
  xm_BadGauge_BadGauge : PySem.W.exmOne K (.ref A.c_BadGauge) (.ref A.c_BadGauge) = some true
  c_DuplicateGauge : mg "DuplicateGauge" = some (.ref A.c_DuplicateGauge)
  xo_DuplicateGauge : OexC K A.c_DuplicateGauge
  xf_DuplicateGauge : XfC K A.c_DuplicateGauge
  n_DuplicateGauge_name : PySem.W.findIn K (.ref A.c_DuplicateGauge) "name" = some none
  c_Gauge : mg "Gauge" = some (.ref A.c_Gauge)
  cl_Gauge : Cls K A.c_Gauge
  is_Gauge : IsT K A.c_Gauge
  n_Gauge_name : NoAttr K A.c_Gauge "name"
  n_Gauge_radius : NoAttr K A.c_Gauge "radius"
  n_Gauge_step : NoAttr K A.c_Gauge "step"
  n_Gauge_late : NoAttr K A.c_Gauge "late"
  n_Gauge_pace : NoAttr K A.c_Gauge "pace"
  c_CoarseGauge : mg "CoarseGauge" = some (.ref A.c_CoarseGauge)
  cl_CoarseGauge : Cls K A.c_CoarseGauge
  is_CoarseGauge : IsT K A.c_CoarseGauge
  n_CoarseGauge_name : NoAttr K A.c_CoarseGauge "name"
  n_CoarseGauge_radius : NoAttr K A.c_CoarseGauge "radius"
  n_CoarseGauge_step : NoAttr K A.c_CoarseGauge "step"
  n_CoarseGauge_late : NoAttr K A.c_CoarseGauge "late"
  n_CoarseGauge_pace : NoAttr K A.c_CoarseGauge "pace"
  c_LateGauge : mg "LateGauge" = some (.ref A.c_LateGauge)
  cl_LateGauge : Cls K A.c_LateGauge
  is_LateGauge : IsT K A.c_LateGauge
  n_LateGauge_name : NoAttr K A.c_LateGauge "name"
  n_LateGauge_radius : NoAttr K A.c_LateGauge "radius"
  n_LateGauge_step : NoAttr K A.c_LateGauge "step"
  n_LateGauge_late : NoAttr K A.c_LateGauge "late"
  n_LateGauge_pace : NoAttr K A.c_LateGauge "pace"
  c_LateCoarseGauge : mg "LateCoarseGauge" = some (.ref A.c_LateCoarseGauge)
  cl_LateCoarseGauge : Cls K A.c_LateCoarseGauge
  is_LateCoarseGauge : IsT K A.c_LateCoarseGauge
  n_LateCoarseGauge_name : NoAttr K A.c_LateCoarseGauge "name"
  n_LateCoarseGauge_radius : NoAttr K A.c_LateCoarseGauge "radius"
  n_LateCoarseGauge_step : NoAttr K A.c_LateCoarseGauge "step"
  n_LateCoarseGauge_late : NoAttr K A.c_LateCoarseGauge "late"
  n_LateCoarseGauge_pace : NoAttr K A.c_LateCoarseGauge "pace"
  ec_BadGauge : ExcC K A.c_BadGauge
  kit_BadGauge_DuplicateGauge : PySem.W.kitOne K (.ref A.c_BadGauge) (.ref A.c_DuplicateGauge) = some false
  kit_BadGauge_GaugeError : PySem.W.kitOne K (.ref A.c_BadGauge) (.ref A.c_GaugeError) = some true
  cli_CoarseGauge : CliT K A.c_CoarseGauge A.f_CoarseGauge_init
  cli_Gauge : CliT K A.c_Gauge A.f_Gauge_init
  cli_LateGauge : CliT K A.c_LateGauge A.f_LateGauge_init
  kg_BARRED : ∃ u, mg "BARRED" = some u ∧ L2.RelV (V.ref A.k_BARRED) u
  kt_BARRED : ∀ H, L2.SqT K H A.k_BARRED ([("rank" : Str), ("trim" : Str), ("weigh" : Str), ("together" : Str)].map V.str)
  kg_LETTERS : ∃ u, mg "LETTERS" = some u ∧ L2.RelV (V.str "abcdefghijklmnopqrstuvwxyz") u
  r_Gauge : ClX.CRead K A.c_Gauge (.type "type")
  kc_Gauge_LONGEST : ∃ u, ClX.CVal K A.c_Gauge (.type "type") "LONGEST" (.int 12) u
  gc_Gauge : ∃ u, mg "Gauge" = some u ∧ L2.RelV (V.ref A.c_Gauge) u
  z_all : mg "all" = none
  z_int : mg "int" = none
  z_isinstance : mg "isinstance" = none
  z_len : mg "len" = none
  z_list : mg "list" = none
  z_range : mg "range" = none
  z_str : mg "str" = none
theorem gauT {K : PySem.W.Frag} {mg : Str → Option Value} {A : Ad} (tx : Txt K mg A) : GauT (bs K A) := ⟨fun k => match k with | .pl => tx.cl_Gauge | .co => tx.cl_CoarseGauge | .la => tx.cl_LateGauge | .lc => tx.cl_LateCoarseGauge, fun k => match k with | .pl => tx.n_Gauge_name | .co => tx.n_CoarseGauge_name | .la => tx.n_LateGauge_name | .lc => tx.n_LateCoarseGauge_name, fun k => match k with | .pl => tx.n_Gauge_radius | .co => tx.n_CoarseGauge_radius | .la => tx.n_LateGauge_radius | .lc => tx.n_LateCoarseGauge_radius, fun k => match k with | .pl => tx.n_Gauge_step | .co => tx.n_CoarseGauge_step | .la => tx.n_LateGauge_step | .lc => tx.n_LateCoarseGauge_step, fun k => match k with | .pl => tx.n_Gauge_late | .co => tx.n_CoarseGauge_late | .la => tx.n_LateGauge_late | .lc => tx.n_LateCoarseGauge_late, fun k => match k with | .pl => tx.n_Gauge_pace | .co => tx.n_CoarseGauge_pace | .la => tx.n_LateGauge_pace | .lc => tx.n_LateCoarseGauge_pace⟩
local macro_rules | `(tactic| walk_at "good") => `(tactic| first | exact trivial | exact ⟨trivial, trivial⟩ | exact fun _ _ => trivial | exact fun _ _ => ⟨trivial, trivial⟩ | exact ⟨trivial, trivial, trivial⟩ | exact ⟨⟨trivial, trivial⟩, ⟨trivial, trivial⟩, trivial, trivial⟩ | exact ⟨strOk_of _, trivial⟩ | exact ⟨strOk_of _, trivial, trivial⟩ | assumption | (show PyData.strOk _ = true; walk_at "strok"))
local macro_rules | `(tactic| walk_at "len") => `(tactic| ((try dsimp only); (try simp only [Str.length_append, emp_len]); (try rw [show (Str.ofString "Stretch(").length = 8 by decide]); (try rw [show (Str.ofString ", ").length = 2 by decide]); (try rw [show (Str.ofString ")").length = 1 by decide]); (try rw [show (Str.ofString "..").length = 2 by decide]); (try rw [show (Str.ofString "none").length = 4 by decide]); (try rw [show (Str.ofString "Levels(").length = 7 by decide]); omega))
local macro_rules | `(tactic| walk_at "strok") => `(tactic| repeat (first | exact strOk_of _ | exact strOk_emp | assumption | apply strOk_app))
local macro_rules | `(tactic| walk_at "frz") => `(tactic| repeat (first | exact .nil | apply Frz.own (by simp) | apply Frz.same))
local macro_rules | `(tactic| walk_at "hx") => `(tactic| first | exact hx_of (by assumption) | assumption | exact hx0)
local macro_rules | `(tactic| walk_at "g0") => `(tactic| first
  | ((with_reducible apply gd_s); first
    | ((with_reducible apply sx_set))
    | ((with_reducible apply sx_ret))
    | ((with_reducible apply sx_if))
    | ((with_reducible apply sx_next))
    | ((with_reducible apply sx_retN)))
  | ((with_reducible apply gd_var); first
    | ((with_reducible apply ev_var); (case h => exact rfl)))
  | ((with_reducible apply gd_c); first
    | ((with_reducible apply ev_int))
    | ((with_reducible apply ev_bl))
    | ((with_reducible apply ev_str))
    | ((with_reducible apply ev_non)))
  | ((with_reducible apply gd_op); first
    | ((with_reducible apply ev_opI))
    | ((with_reducible apply ev_opB))
    | ((with_reducible apply ev_eqG); (case hK => assumption))
    | ((with_reducible apply ev_neG); (case hK => assumption))
    | ((with_reducible apply ev_ixSp0); (case hK => assumption); (with_reducible apply ev_var); (case h => exact rfl))
    | ((with_reducible apply ev_ixSp1); (case hK => assumption); (with_reducible apply ev_var); (case h => exact rfl))
    | ((with_reducible apply ev_ixSp2); (case hK => assumption); (with_reducible apply ev_var); (case h => exact rfl))
    | ((with_reducible apply ev_ixSp3); (case hK => assumption); (with_reducible apply ev_var); (case h => exact rfl))
    | ((with_reducible apply ev_ixSp4); (case hK => assumption); (with_reducible apply ev_var); (case h => exact rfl))
    | ((with_reducible apply ev_ixSp5); (case hK => assumption); (with_reducible apply ev_var); (case h => exact rfl))
    | ((with_reducible apply ev_ixT3a); (case hK => assumption); (with_reducible apply ev_var); (case h => exact rfl))
    | ((with_reducible apply ev_ixT3b); (case hK => assumption); (with_reducible apply ev_var); (case h => exact rfl))
    | ((with_reducible apply ev_ixT3c); (case hK => assumption); (with_reducible apply ev_var); (case h => exact rfl))
    | ((with_reducible apply ev_ixT0); (case hK => assumption))
    | ((with_reducible apply ev_ixT1); (case hK => assumption))
    | ((with_reducible apply ev_ixL); (case hK => assumption))
    | ((with_reducible apply ev_pow); (case hc => exact ⟨by decide, by decide, by decide⟩))
    | ((with_reducible apply ev_ltP); (case hK => assumption))
    | ((with_reducible apply ev_ixO); (case hB => assumption))
    | ((with_reducible apply ev_opC))
    | ((with_reducible apply ev_cat))
    | ((with_reducible apply ev_addS))
    | ((with_reducible apply ev_inOwn); (case hB => assumption))
    | ((with_reducible apply ev_inI); (case hK => assumption))
    | ((with_reducible apply ev_inS); (case hK => assumption))
    | ((with_reducible apply ev_ixS))
    | ((with_reducible apply ev_notInI); (case hK => assumption))
    | ((with_reducible apply ev_eqO); (case hB => assumption); (case hK => exact rfl))
    | ((with_reducible apply ev_neO); (case hB => assumption); (case hK => exact rfl)))
  | ((with_reducible apply gd_un); first
    | ((with_reducible apply ev_unI)))
  | ((with_reducible apply gd_cb); first
    | ((with_reducible apply ev_len); (case hK => assumption))
    | ((with_reducible apply ev_intB); (with_reducible apply gd_op); first | (with_reducible apply ev_opB) | ((with_reducible apply ev_eqG); (case hK => assumption)))
    | ((with_reducible apply ev_intB); (with_reducible apply gd_k); (with_reducible apply ev_orV))
    | ((with_reducible apply ev_intI))
    | ((with_reducible apply ev_max2))
    | ((with_reducible apply ev_min2))
    | ((with_reducible apply ev_abs))
    | ((with_reducible apply ev_any); (case hK => assumption))
    | ((with_reducible apply ev_all); (case hK => assumption))
    | ((with_reducible apply ev_sum); (case hK => assumption))
    | ((with_reducible apply ev_minP); (case hK => assumption))
    | ((with_reducible apply ev_boolO); (case hB => assumption))
    | ((with_reducible apply ev_sortedP); (case hK => assumption))
    | ((with_reducible apply ev_sortedI); (case hK => assumption))
    | ((with_reducible apply ev_strO); (case hB => assumption))
    | ((with_reducible apply ev_lenO); (case hB => assumption))
    | ((with_reducible apply ev_strI))
    | ((with_reducible apply ev_isiGv); (case hK => assumption); (with_reducible apply ev_var); (case h => exact rfl))
    | ((with_reducible apply ev_isiO); (case hK => assumption))
    | ((with_reducible apply ev_isF); (case hB => assumption); (case hK => exact rfl)))
  | ((with_reducible apply gd_fld); first
    | ((with_reducible apply ev_low); (case hK => assumption); (case hS => exact stc_of (by assumption) (stcT (by assumption))))
    | ((with_reducible apply ev_high); (case hK => assumption); (case hS => exact stc_of (by assumption) (stcT (by assumption))))
    | ((with_reducible apply ev_gname); (case hK => assumption); (case hG => exact gau_of (by assumption) (gauT (by assumption))))
    | ((with_reducible apply ev_radius); (case hK => assumption); (case hG => exact gau_of (by assumption) (gauT (by assumption))))
    | ((with_reducible apply ev_step); (case hK => assumption); (case hG => exact gau_of (by assumption) (gauT (by assumption))))
    | ((with_reducible apply ev_late); (case hK => assumption); (case hG => exact gau_of (by assumption) (gauT (by assumption))))
    | ((with_reducible apply ev_pace); (case hK => assumption); (case hG => exact gau_of (by assumption) (gauT (by assumption))))
    | ((with_reducible apply ev_pieces); (case hK => assumption); (case hL => exact lvs_of (by assumption) (lvsT (by assumption)))))
  | ((with_reducible apply gd_call); first
    | ((with_reducible apply ev_callR); (case hB => assumption)))
  | ((with_reducible apply gd_tup); first
    | ((with_reducible apply ev_tup2))
    | ((with_reducible apply ev_tup3)))
  | ((with_reducible apply gd_lst); first
    | ((with_reducible apply ev_lst4))
    | ((with_reducible apply ev_lst)))
  | ((with_reducible apply gd_k); first
    | ((with_reducible apply ev_if))
    | ((with_reducible apply ev_andV))
    | ((with_reducible apply ev_orV))
    | ((with_reducible apply ev_notV))
    | ((with_reducible apply ev_chainP))
    | ((with_reducible apply ev_stretch); (case hB => assumption); (case hC => exact rfl))
    | ((with_reducible apply ev_stretchZ); (case hB => assumption); (case hC => exact rfl); (case hx => walk_at "hx"))
    | ((with_reducible apply ev_callZ); (case hB => assumption); (case hx => walk_at "hx"))
    | ((with_reducible apply ev_methZ); (case hB => assumption); (case hx => walk_at "hx"))
    | ((with_reducible apply ev_binI); (case hB => assumption); (case hx => walk_at "hx"))
    | ((with_reducible apply ev_binO); (case hB => assumption); (case hx => walk_at "hx"))
    | ((with_reducible apply ev_negO); (case hB => assumption); (case hx => walk_at "hx"))
    | ((with_reducible apply ev_xfI); (case hC => exact xcl_of (by assumption) rfl))
    | ((with_reducible apply ev_xfP); (case hC => exact xcl_of (by assumption) rfl))
    | ((with_reducible apply ev_makeV); (case hB => assumption); (case hi => exact rfl); (case hC => exact rfl))
    | ((with_reducible apply ev_levels); (case hB => assumption); (case hC => exact rfl))
    | ((with_reducible apply (ev_cmethZ .Stretch)); (case hB => assumption); (case hC => exact rfl); (case hx => walk_at "hx"))
    | ((with_reducible apply (ev_cmethZ .Levels)); (case hB => assumption); (case hC => exact rfl); (case hx => walk_at "hx"))
    | ((with_reducible apply ev_propZ); (case hB => assumption))
    | ((with_reducible apply ev_propX); (case hB => assumption); (case hx => walk_at "hx"))
    | ((with_reducible apply ev_joined))
    | ((with_reducible apply ev_fmtI)))
  | ((with_reducible apply gd_t); first
    | ((with_reducible apply et_test))
    | ((with_reducible apply et_B))
    | ((with_reducible apply et_not))
    | ((with_reducible apply et_and))
    | ((with_reducible apply et_or))
    | ((with_reducible apply et_yes))
    | ((with_reducible apply et_truthL); (case hK => assumption)))
  | ((with_reducible apply gd_a); first
    | ((with_reducible apply ea_nil))
    | ((with_reducible apply ea_cons)))
  | ((with_reducible apply gd_l); first
    | ((with_reducible apply el_nil))
    | ((with_reducible apply el_cons))
    | ((with_reducible apply el_starL); (case hK => assumption))
    | ((with_reducible apply el_starT); (case hK => assumption)))
  | ((with_reducible apply gd_j); first
    | ((with_reducible apply ej_nil))
    | ((with_reducible apply ej_cons)))
  | ((with_reducible apply tg_name))
  | ((with_reducible apply tj_name))
  | ((with_reducible apply tj_tup2); (case hK => assumption))
  | ((with_reducible apply tj_tup3); (case hK => assumption))
  | ((with_reducible apply eqg_in); (case h1 => decide); (case h2 => walk_at "good"); (case h3 => walk_at "good"))
  | ((with_reducible apply neg_in); (case h1 => decide); (case h2 => walk_at "good"); (case h3 => walk_at "good"))
  | ((with_reducible apply ownM_in); (case hC => exact rfl); (case hm => decide))
  | ((with_reducible apply own_in); (case hC => exact rfl))
  | ((with_reducible apply tyG_in); (case hn => exact nf_self))
  | ((with_reducible apply plnG_in))
  | ((with_reducible apply isO_self); (case hT => exact isT_of (by assumption) (by first | exact (by assumption : Txt _ _ _).is_Stretch | exact (by assumption : Txt _ _ _).is_Levels)); (case hC => exact cl_of (by assumption) rfl))
  | ((with_reducible apply chg_in); (case h1 => walk_at "g"; exact rfl))
  | (refine And.intro (by show _ ≤ 100000; first | exact Nat.le_of_ble_eq_true rfl | omega | (dsimp only; omega)) ?_)
  | (refine And.intro (show CMul _ _ from Or.inl ⟨by omega, by omega⟩) ?_)
  | (refine And.intro (show CMul _ _ from Or.inr ⟨by omega, by omega⟩) ?_)
  | (refine And.intro (show CDiv _ _ from ⟨by omega, by omega⟩) ?_)
  | (refine And.intro (show (0 : Int) < _ by omega) ?_)
  | (refine And.intro (by assumption : Small _) ?_)
  | (refine And.intro (show Small _ from Small.of (by omega) (by omega)) ?_)
  | (refine And.intro (by show _ ≤ 1000000; walk_at "len") ?_)
  | fail)
local macro_rules | `(tactic| walk_at "g1") => `(tactic| first | ((with_reducible apply gd_set); (conv => arg 3; dsimp only [List.set])) | (with_reducible apply sx_seq) | walk_at "g0")
local macro_rules | `(tactic| walk_at "s1") => `(tactic| first | ((with_reducible apply gd_set); (conv => arg 3; dsimp only [List.set])) | (with_reducible apply sx_seqA) | (with_reducible apply sx_seqD) | walk_at "g0")
local macro_rules | `(tactic| walk_at "s") => `(tactic| repeat walk_at "s1")
local macro_rules | `(tactic| walk_at "g") => `(tactic| repeat walk_at "g1")
section
variable {P : Program} {w : World} {K : PySem.W.Frag} {mg : Str → Option Value} {base : Heap} {A : Ad}
def P_take : PT := fun rt xx ts => ∃ (m : Int), ts = [T Bx.mk, T m] ∧ (0 < m ∧ m < 1073741824 ∧ ∀ k : Int, 0 ≤ k → k < m → rt (T k))
theorem pc_take {rt : Ty → Prop} {xx : Xn → Prop} {m : Int} (h : 0 < m ∧ m < 1073741824 ∧ ∀ k : Int, 0 ≤ k → k < m → rt (T k)) : P_take rt xx [T Bx.mk, T m] := ⟨_, rfl, h⟩
theorem ok_take (tx : Txt K mg A) : FnR P w K mg base CX0 1 A.f_take (spG (bs K A) P_take) := by
  refine fnR_of tx.g_take.d sc_take (fun vs H Q E h => ?_) (fun cdv Ar outer s H vs Q E hr h => ?_)
  · exact len_ok (n := 2) (fun rt xx ts hp => by obtain ⟨_, rfl, _⟩ := hp; rfl) vs H Q E h
  · refine ⟨_, (pss_cons (ps_set (i := 2) sc_take.nd rfl (Or.inl rfl) (pe_ix (ix_listK K) (pv 0) pe_int (fun _ _ => rfl)))
        (pss_cons (ps_if (PW.pt (pw_and (pt_cmpR (op_eqDK K (huD hr)) (pe_ix (ix_listK K) (pv 0) pe_int (fun _ _ => rfl)) pe_int (nomark _)) (pw_and (pt_cmpR op_lt (pe_ix (ix_listK K) (pv 0) pe_int (fun _ _ => rfl)) (pe_callB (call_lenK K) (by rfl) tx.z_len PySem.boot_len (pa_cons (pv 2) pa_nil)) (nomark _)) (pw_and1 (pt_cmpR op_gt (pe_ix (ix_listK K) (pv 2) (pe_ix (ix_listK K) (pv 0) pe_int (fun _ _ => rfl)) (fun _ _ => rfl)) (pe_op op_pow pe_int pe_int) (nomark _)))))) (pss_cons (ps_asg (pe_op op_sub (pe_ix (ix_listK K) (pv 2) (pe_ix (ix_listK K) (pv 0) pe_int (fun _ _ => rfl)) (fun _ _ => rfl)) (pe_op op_pow pe_int pe_int)) (pg_sub (pv 0) pe_int set_list))
        (pss_one (ps_asg (pe_op op_add (pe_ix (ix_listK K) (pv 0) pe_int (fun _ _ => rfl)) pe_int) (pg_sub (pv 0) pe_int set_list)))) pss_nil)
        (pss_cons (ps_if (pt_cmpR op_gt (pe_ix (ix_listK K) (pv 0) pe_int (fun _ _ => rfl)) pe_int (nomark _)) (pss_cons (ps_set (i := 3) sc_take.nd rfl (Or.inl rfl) (pe_op op_mod (pe_callTy call_int1 (by rfl) tx.z_int (by decide +kernel) (pa_cons (pe_ix (ix_listK K) (pv 0) pe_int (fun _ _ => rfl)) pa_nil)) (pv 1)))
        (pss_cons (ps_asg (pe_op op_fdiv (pe_callTy call_int1 (by rfl) tx.z_int (by decide +kernel) (pa_cons (pe_ix (ix_listK K) (pv 0) pe_int (fun _ _ => rfl)) pa_nil)) (pv 1)) (pg_sub (pv 0) pe_int set_list))
        (pss_one (ps_ret (pv 3))))) pss_nil)
        (pss_cons (ps_set (i := 4) sc_take.nd rfl (Or.inl rfl) pe_int)
        (pss_cons (ps_if (pt_cmpR op_lt (pe_ix (ix_listK K) (pv 0) pe_int (fun _ _ => rfl)) (pe_callB (call_lenK K) (by rfl) tx.z_len PySem.boot_len (pa_cons (pv 2) pa_nil)) (nomark _)) (pss_one (ps_set (i := 4) sc_take.nd rfl (Or.inl rfl) (pe_callTy call_int1 (by rfl) tx.z_int (by decide +kernel) (pa_cons (pe_ix (ix_listK K) (pv 2) (pe_ix (ix_listK K) (pv 0) pe_int (fun _ _ => rfl)) (fun _ _ => rfl)) pa_nil)))) pss_nil)
        (pss_cons (ps_asg (pe_op op_add (pe_ix (ix_listK K) (pv 0) pe_int (fun _ _ => rfl)) pe_int) (pg_sub (pv 0) pe_int set_list))
        (pss_cons (ps_asg (pe_op op_mod (pe_callTy call_int1 (by rfl) tx.z_int (by decide +kernel) (pa_cons (pe_op op_add (pe_op op_add (pe_op op_mul (pe_ix (ix_listK K) (pv 0) pe_int (fun _ _ => rfl)) pe_int) (pe_op op_mul (pv 4) pe_int)) (pe_ix (ix_listK K) (pv 0) pe_int (fun _ _ => rfl))) pa_nil)) pe_int) (pg_sub (pv 0) pe_int set_list))
        (pss_one (ps_ret (pe_op op_mod (pe_op op_mod (pe_callTy call_int1 (by rfl) tx.z_int (by decide +kernel) (pa_cons (pe_op op_add (pe_op op_mul (pe_op op_fdiv (pe_ix (ix_listK K) (pv 0) pe_int (fun _ _ => rfl)) pe_int) pe_int) (pe_op op_mod (pe_callTy call_int1 (by rfl) tx.z_int (by decide +kernel) (pa_cons (pe_ix (ix_listK K) (pv 0) pe_int (fun _ _ => rfl)) pa_nil)) pe_int)) pa_nil)) pe_int) (pv 1))))))))))), ?_⟩
    try dsimp only [cxOf, Cx.nox]
    obtain ⟨W, ts, rt, xx, hB, ho, d, ⟨m, rfl, hm0, hm1, hk⟩, hq, hx⟩ := h
    cases d with
    | cons db d2 =>
    cases d2 with
    | cons dm d3 =>
    cases d3
    obtain ⟨b, rfl, hbx⟩ : ∃ b, _ = V.ref b ∧ W.box b := db
    obtain rfl : _ = V.int m := dm
    obtain ⟨c, ns, i, p, s, hbc, hb0, hc0, hi, hp⟩ := W.hasbox H b ho hbx
    have mb := W.boxmu b hbx
    -- the end: any state of the box will do
    have fin : ∀ (i' p' s' k : Int), 0 ≤ i' → 0 ≤ p' → 0 ≤ k → k < m → Q (.int k) (upd H b (.lst [.ref c, .int i', .int p', .int s'])) := by
      intro i' p' s' k h1 h2 h3 h4
      refine hq (.int k) _ (T k) ⟨fun a o n e => ?_, W.boxset H b c i p s i' p' s' ho hbx hb0 h1 h2⟩ rfl (hk k h3 h4)
      rw [upd_ne (fun z => n (by rw [z]; exact mb))]; exact e
    have hlen : ((ns.map V.int).length : Int) = ns.length := by rw [List.length_map]
    have cell : ∀ j : Int, 0 ≤ j → j < ns.length → ∃ z, atI (ns.map V.int) j = some (V.int z) := by
      intro j h1 h2
      obtain ⟨n, rfl⟩ : ∃ n : Nat, j = (n : Int) := ⟨j.toNat, by omega⟩
      have hn : n < ns.length := by omega
      exact ⟨ns[n], atI_nat (by rw [List.getElem?_map, List.getElem?_eq_getElem hn]; rfl)⟩
    have p18 : ((10 : Int) ^ (18 : Int).toNat) = 1000000000000000000 := by decide
    have c18 : CPow 10 18 := ⟨by decide, by decide, by decide⟩
    have modk : ∀ y : Int, 0 ≤ y % m ∧ y % m < m := fun y => ⟨Int.emod_nonneg _ (by omega), Int.emod_lt_of_pos _ hm0⟩
    refine ⟨_, rfl, b, _, 0, .ref c, rfl, rfl, .inl (.inl hb0), rfl, ?_⟩
    -- if box[2] == 0 and ..
    refine ⟨_, rfl, b, _, 2, .int p, rfl, rfl, .inl (.inl hb0), rfl, .int p, .int 0, .int p, .int 0, rfl, rfl, _, rfl, ?_⟩
    by_cases h0 : p = 0
    · refine itT (by rw [h0]; rfl) ?_
      refine ⟨_, rfl, b, _, 1, .int i, rfl, rfl, .inl (.inl hb0), rfl, _, rfl, c, _, rfl, .inl (.inl (.inl hc0)), i, _, rfl, rfl, _, rfl, ?_⟩
      -- the third test is False, or the place lies beyond: on with the cell
      have rest : ∀ cl : Int, tSeq
          (tAsg (tOp (rI0 fun i j => V.int (i + j)) (tOp (rIxL K) (tVar 0) (tC (V.int 1))) (tC (V.int 1))) (gSub (tVar 0) (tC (V.int 1)) rSetL))
          (tSeq
            (tAsg (tOp (rI (fun x j => 0 < j) fun i j => V.int (i % j)) (tCB (fun xs H Q => (∃ i, xs = [V.int i] ∧ Q (V.int i) H) ∨ ∃ k, xs = [V.bl k] ∧ Q (V.int (if k = true then 1 else 0)) H)
              (tCons (tOp (rI0 fun i j => V.int (i + j)) (tOp (rI0 fun i j => V.int (i + j)) (tOp (rI CMul fun i j => V.int (i * j)) (tOp (rIxL K) (tVar 0) (tC (V.int 3))) (tC (V.int 48271))) (tOp (rI CMul fun i j => V.int (i * j)) (tVar 4) (tC (V.int 7))))
                (tOp (rIxL K) (tVar 0) (tC (V.int 1)))) tNil)) (tC (V.int 2147483647))) (gSub (tVar 0) (tC (V.int 3)) rSetL))
            (tRet (tOp (rI (fun x j => 0 < j) fun i j => V.int (i % j)) (tOp (rI (fun x j => 0 < j) fun i j => V.int (i % j)) (tCB (fun xs H Q => (∃ i, xs = [V.int i] ∧ Q (V.int i) H) ∨ ∃ k, xs = [V.bl k] ∧ Q (V.int (if k = true then 1 else 0)) H)
              (tCons (tOp (rI0 fun i j => V.int (i + j)) (tOp (rI CMul fun i j => V.int (i * j)) (tOp (rI CDiv fun i j => V.int (i / j)) (tOp (rIxL K) (tVar 0) (tC (V.int 3))) (tC (V.int 8))) (tC (V.int 31)))
                (tOp (rI (fun x j => 0 < j) fun i j => V.int (i % j)) (tCB (fun xs H Q => (∃ i, xs = [V.int i] ∧ Q (V.int i) H) ∨ ∃ k, xs = [V.bl k] ∧ Q (V.int (if k = true then 1 else 0)) H) (tCons (tOp (rIxL K) (tVar 0) (tC (V.int 3))) tNil)) (tC (V.int 65537)))) tNil))
              (tC (V.int 1000003))) (tVar 1))))
          { nx := fun _ H' => Q .non H', rt := Q } [some (.ref b), some (.int m), some (.ref c), none, some (.int cl)] H := by
        intro cl
        refine ⟨_, rfl, b, _, 1, .int i, rfl, rfl, .inl (.inl hb0), rfl, i, 1, rfl, rfl, _, rfl, b, _, 1, 1, rfl, rfl, hb0, rfl, ?_⟩
        refine ⟨_, rfl, b, _, 3, .int s, rfl, rfl, .inl (.inl upd_same), rfl, s, 48271, rfl, rfl, .inr ⟨by decide, by decide⟩, ?_⟩
        refine ⟨_, rfl, cl, 7, rfl, rfl, .inr ⟨by decide, by decide⟩, _, _, rfl, rfl, ?_⟩
        refine ⟨_, rfl, b, _, 1, .int (i + 1), rfl, rfl, .inl (.inl upd_same), rfl, _, _, rfl, rfl, .inl ⟨_, rfl, _, 2147483647, rfl, rfl, by show (0 : Int) < 2147483647; decide, ?_⟩⟩
        refine ⟨_, rfl, b, _, 3, 3, rfl, rfl, upd_same, rfl, ?_⟩
        rw [upd_upd]
        refine ⟨_, rfl, b, _, 3, .int _, rfl, rfl, .inl (.inl upd_same), rfl, _, 8, rfl, rfl, ⟨by decide, by decide⟩, _, 31, rfl, rfl, .inr ⟨by decide, by decide⟩, ?_⟩
        refine ⟨_, rfl, b, _, 3, .int _, rfl, rfl, .inl (.inl upd_same), rfl, .inl ⟨_, rfl, _, 65537, rfl, rfl, by show (0 : Int) < 65537; decide, _, _, rfl, rfl, .inl ⟨_, rfl, _, 1000003, rfl, rfl, by show (0 : Int) < 1000003; decide, ?_⟩⟩⟩
        exact ⟨_, rfl, _, m, rfl, rfl, hm0, fin (i + 1) p _ _ (by omega) (by omega) (modk _).1 (modk _).2⟩
      -- behind the two ifs: no pending number
      have cont : ∀ σ2 : L2.St, σ2 = [some (.ref b), some (.int m), some (.ref c), none, none] → ∀ t1 : TS, ∀ t2, t2 = tSeq
          (tIfS (tTest (tOp (rI0 fun i j => V.bl (decide (j < i))) (tOp (rIxL K) (tVar 0) (tC (V.int 2))) (tC (V.int 0)))) t1 tNext)
          (tSeq (tAsg (tC (V.int 0)) (gName 4))
            (tSeq
              (tIfS (tTest (tOp (rI0 fun i j => V.bl (decide (i < j))) (tOp (rIxL K) (tVar 0) (tC (V.int 1))) (tCB (fun xs H Q => ∃ p ys, xs = [V.ref p] ∧ (SqL K H p ys ∨ SqT K H p ys) ∧ Q (V.int ↑ys.length) H) (tCons (tVar 2) tNil))))
                (tAsg (tCB (fun xs H Q => (∃ i, xs = [V.int i] ∧ Q (V.int i) H) ∨ ∃ k, xs = [V.bl k] ∧ Q (V.int (if k = true then 1 else 0)) H) (tCons (tOp (rIxL K) (tVar 2) (tOp (rIxL K) (tVar 0) (tC (V.int 1)))) tNil)) (gName 4)) tNext)
              (tSeq
          (tAsg (tOp (rI0 fun i j => V.int (i + j)) (tOp (rIxL K) (tVar 0) (tC (V.int 1))) (tC (V.int 1))) (gSub (tVar 0) (tC (V.int 1)) rSetL))
          (tSeq
            (tAsg (tOp (rI (fun x j => 0 < j) fun i j => V.int (i % j)) (tCB (fun xs H Q => (∃ i, xs = [V.int i] ∧ Q (V.int i) H) ∨ ∃ k, xs = [V.bl k] ∧ Q (V.int (if k = true then 1 else 0)) H)
              (tCons (tOp (rI0 fun i j => V.int (i + j)) (tOp (rI0 fun i j => V.int (i + j)) (tOp (rI CMul fun i j => V.int (i * j)) (tOp (rIxL K) (tVar 0) (tC (V.int 3))) (tC (V.int 48271))) (tOp (rI CMul fun i j => V.int (i * j)) (tVar 4) (tC (V.int 7))))
                (tOp (rIxL K) (tVar 0) (tC (V.int 1)))) tNil)) (tC (V.int 2147483647))) (gSub (tVar 0) (tC (V.int 3)) rSetL))
            (tRet (tOp (rI (fun x j => 0 < j) fun i j => V.int (i % j)) (tOp (rI (fun x j => 0 < j) fun i j => V.int (i % j)) (tCB (fun xs H Q => (∃ i, xs = [V.int i] ∧ Q (V.int i) H) ∨ ∃ k, xs = [V.bl k] ∧ Q (V.int (if k = true then 1 else 0)) H)
              (tCons (tOp (rI0 fun i j => V.int (i + j)) (tOp (rI CMul fun i j => V.int (i * j)) (tOp (rI CDiv fun i j => V.int (i / j)) (tOp (rIxL K) (tVar 0) (tC (V.int 3))) (tC (V.int 8))) (tC (V.int 31)))
                (tOp (rI (fun x j => 0 < j) fun i j => V.int (i % j)) (tCB (fun xs H Q => (∃ i, xs = [V.int i] ∧ Q (V.int i) H) ∨ ∃ k, xs = [V.bl k] ∧ Q (V.int (if k = true then 1 else 0)) H) (tCons (tOp (rIxL K) (tVar 0) (tC (V.int 3))) tNil)) (tC (V.int 65537)))) tNil))
              (tC (V.int 1000003))) (tVar 1))))))) → t2 { nx := fun _ H' => Q .non H', rt := Q } σ2 H := by
        intro σ2 e t1 t2 e2
        subst e
        subst e2
        refine ⟨_, rfl, b, _, 2, .int p, rfl, rfl, .inl (.inl hb0), rfl, p, 0, rfl, rfl, _, rfl, ?_⟩
        refine itF (decide_eq_false (by omega)) ?_
        refine ⟨_, rfl, b, _, 1, .int i, rfl, rfl, .inl (.inl hb0), rfl, _, rfl, c, _, rfl, .inl (.inl (.inl hc0)), i, _, rfl, rfl, _, rfl, ?_⟩
        by_cases h1 : i < ns.length
        · obtain ⟨z, hz⟩ := cell i hi h1
          refine itT (decide_eq_true (by omega)) ?_
          refine ⟨_, rfl, _, rfl, b, _, 1, .int i, rfl, rfl, .inl (.inl hb0), rfl, c, _, i, .int z, rfl, rfl, .inl (.inl hc0), hz, .inl ⟨z, rfl, ?_⟩⟩
          exact rest z
        · refine itF (decide_eq_false (by omega)) ?_
          exact rest 0
      by_cases h1 : i < ns.length
      · refine itT (decide_eq_true (by omega)) ?_
        obtain ⟨z, hz⟩ := cell i hi h1
        refine ⟨_, rfl, _, rfl, b, _, 1, .int i, rfl, rfl, .inl (.inl hb0), rfl, c, _, i, .int z, rfl, rfl, .inl (.inl hc0), hz, 10, 18, rfl, rfl, c18, z, _, rfl, rfl, _, rfl, ?_⟩
        by_cases h2 : (1000000000000000000 : Int) < z
        · -- the cell is a pending number
          refine itT (decide_eq_true (by rw [p18]; exact h2)) ?_
          refine ⟨_, rfl, _, rfl, b, _, 1, .int i, rfl, rfl, .inl (.inl hb0), rfl, c, _, i, .int z, rfl, rfl, .inl (.inl hc0), hz, 10, 18, rfl, rfl, c18, z, _, rfl, rfl, ?_⟩
          refine ⟨_, rfl, b, _, 2, 2, rfl, rfl, hb0, rfl, ?_⟩
          refine ⟨_, rfl, b, _, 1, .int i, rfl, rfl, .inl (.inl upd_same), rfl, i, 1, rfl, rfl, _, rfl, b, _, 1, 1, rfl, rfl, upd_same, rfl, ?_⟩
          rw [upd_upd]
          refine ⟨_, rfl, b, _, 2, .int _, rfl, rfl, .inl (.inl upd_same), rfl, _, 0, rfl, rfl, _, rfl, ?_⟩
          refine itT (decide_eq_true (by rw [p18]; omega)) ?_
          refine ⟨_, rfl, b, _, 2, .int _, rfl, rfl, .inl (.inl upd_same), rfl, .inl ⟨_, rfl, _, rfl, _, m, rfl, rfl, hm0, ?_⟩⟩
          refine ⟨_, rfl, b, _, 2, .int _, rfl, rfl, .inl (.inl upd_same), rfl, .inl ⟨_, rfl, _, rfl, _, m, rfl, rfl, ⟨hm0, hm1⟩, _, rfl, b, _, 2, 2, rfl, rfl, upd_same, rfl, ?_⟩⟩
          rw [upd_upd]
          refine ⟨_, rfl, fin (i + 1) _ s _ (by omega) (Int.ediv_nonneg (by rw [p18]; omega) (by omega)) (modk _).1 (modk _).2⟩
        · refine itF (decide_eq_false (by rw [p18]; exact h2)) ?_
          exact cont _ rfl _ _ rfl
      · refine itF (decide_eq_false (by omega)) ?_
        exact cont _ rfl _ _ rfl
    · refine itF (by show (p == 0) = false; simp [h0]) ?_
      refine ⟨_, rfl, b, _, 2, .int p, rfl, rfl, .inl (.inl hb0), rfl, p, 0, rfl, rfl, _, rfl, ?_⟩
      refine itT (decide_eq_true (by omega)) ?_
      refine ⟨_, rfl, b, _, 2, .int p, rfl, rfl, .inl (.inl hb0), rfl, .inl ⟨_, rfl, _, rfl, _, m, rfl, rfl, hm0, ?_⟩⟩
      refine ⟨_, rfl, b, _, 2, .int p, rfl, rfl, .inl (.inl hb0), rfl, .inl ⟨_, rfl, _, rfl, _, m, rfl, rfl, ⟨hm0, hm1⟩, _, rfl, b, _, 2, 2, rfl, rfl, hb0, rfl, ?_⟩⟩
      exact ⟨_, rfl, fin i _ s _ hi (Int.ediv_nonneg hp (by omega)) (modk _).1 (modk _).2⟩
def spBox (K : PySem.W.Frag) : Sp := fun vs H Q E => ∃ (a : Addr) (ns : List Int) (s : Int), vs = [.ref a, .int s] ∧ SqL K H a (ns.map V.int) ∧ ns.length ≤ 63 ∧
  ∀ (b c : Addr) (H' : Hp), b ≠ c → H' b = some (.lst [.ref c, .int 0, .int 0, .int s]) → H' c = some (.lst (ns.map V.int)) → Q (.ref b) H'
theorem ok_box (tx : Txt K mg A) : FnR P w K mg base CX0 1 A.f_box (spBox K) := by
  refine fnR_of tx.g_box.d sc_box (fun vs H Q E h => ?_) (fun cdv Ar outer s H vs Q E hr h => ?_)
  · obtain ⟨a, ns, s, rfl, _⟩ := h; rfl
  · refine ⟨_, (pss_one (ps_ret (pe_lst (pa_cons (pe_lc (own := [("_law_cell", 2)]) rfl sc_box.nd (pi_listK K (pe_slice (sl_listK K) (pv 0) po_none (po_some pe_int))) (blkOk_by (N := ["_law_script", "_law_salt", "_law_cell"]) (sc := defScope s_box) (by decide +kernel)) (fun _ _ _ _ _ => (pg_name (i := 2) sc_box.nd rfl (Or.inl rfl))) (fun _ _ _ _ _ => pts_nil) (fun _ _ _ _ _ => (pe_callTy call_int1 (by rfl) tx.z_int (by decide +kernel) (pa_cons (pv 2) pa_nil)))) (pa_cons pe_int (pa_cons pe_int (pa_cons (pv 1) pa_nil))))))), ?_⟩
    try dsimp only [cxOf, Cx.nox]
    obtain ⟨a, ns, s, rfl, hS, hl, k⟩ := h
    refine ⟨_, rfl, _, rfl, a, _, rfl, hS, fun p hp => ⟨p, rfl, ⟨_, .inl (.inl upd_same)⟩, fun D nD => ?_⟩⟩
    have hpD : p ≠ D := ne_of_none upd_same nD
    have hcut : cutV (ns.map V.int) none (some 63) = ns.map V.int := by
      unfold cutV
      show (List.drop 0 (ns.map V.int)).take (HT.sIx (ns.map V.int).length (ns.map V.int).length (some 63) - 0) = _
      rw [List.drop_zero]
      have e : HT.sIx (ns.map V.int).length (ns.map V.int).length (some 63) = (ns.map V.int).length := by
        rw [List.length_map]
        unfold HT.sIx
        simp
        omega
      rw [e, Nat.sub_zero, List.take_length]
    rw [hcut]
    refine lc_list (xs := ns.map V.int) (fun i H' => H' p = some (.lst (ns.map V.int)) ∧ H' D = some (.lst ((ns.take i).map V.int))) ⟨by rw [upd_ne hpD]; exact upd_same, upd_same⟩ (fun i H' _ h => .inl (.inl h.1)) ?_ ?_
    · rintro i x H' hx ⟨h1, h2⟩
      obtain ⟨z, hz, rfl⟩ : ∃ z, ns[i]? = some z ∧ x = V.int z := by
        rw [List.getElem?_map] at hx
        cases e : ns[i]? with
        | none => rw [e] at hx; cases hx
        | some z => rw [e] at hx; exact ⟨z, rfl, (Option.some.inj hx).symm⟩
      have hi := (List.getElem?_eq_some_iff.mp hz).1
      refine ⟨rfl, ?_⟩
      refine yes_then ?_
      refine ⟨_, rfl, .inl ⟨z, rfl, _, h2, ?_, ?_, ?_⟩⟩
      · exact Nat.lt_of_le_of_lt (by rw [List.length_map]; exact List.length_take_le' _ _) (Nat.lt_of_le_of_lt hl (by decide : 63 < sizeLine))
      · rw [upd_ne hpD]; exact h1
      · rw [upd_same, List.take_succ, hz, List.map_append]; rfl
    · rintro H' ⟨h1, h2⟩
      rw [List.length_map, List.take_length] at h2
      refine ⟨_, rfl, by show 4 ≤ sizeLine; decide, fun b hb => ?_⟩
      have hbD : b ≠ D := (ne_of_none h2 hb).symm
      exact k b D _ hbD upd_same (by rw [upd_ne hbD.symm]; exact h2)
def P_word : PT := fun rt xx ts => ∃ (n : Int) (m : Int) (b : Bool), ts = [T n, T m, T b] ∧ (0 ≤ n ∧ n ≤ 1000000000 ∧ 0 ≤ m ∧ m ≤ 12 ∧ rt (T (wordS n m.toNat b)))
theorem pc_word {rt : Ty → Prop} {xx : Xn → Prop} {n : Int} {m : Int} {b : Bool} (h : 0 ≤ n ∧ n ≤ 1000000000 ∧ 0 ≤ m ∧ m ≤ 12 ∧ rt (T (wordS n m.toNat b))) : P_word rt xx [T n, T m, T b] := ⟨_, _, _, rfl, h⟩
theorem ok_word (tx : Txt K mg A) : FnR P w K mg base CX0 1 A.f_word (spG (bs K A) P_word) := by
  refine fnR_of tx.g_word.d sc_word (len_ok (n := 3) fun rt xx ts hp => by obtain ⟨_, _, _, rfl, _⟩ := hp; rfl) (fun cdv Ar outer s H vs Q E hr h => ⟨_, (pss_cons (ps_set (i := 3) sc_word.nd rfl (Or.inl rfl) pe_str)
        (pss_cons (ps_for PassesOwn.never rfl (pi_range1 (by rfl) tx.z_range (pa_cons (pv 1) pa_nil)) (pg_name (i := 4) sc_word.nd rfl (Or.inl rfl)) (pss_cons (ps_set (i := 3) sc_word.nd rfl (Or.inl rfl) (pe_op op_add_str (pv 3) (pe_ix ix_str pe_str (pe_op op_mod (pe_callTy call_int1 (by rfl) tx.z_int (by decide +kernel) (pa_cons (pv 0) pa_nil)) pe_int) (fun _ _ => rfl))))
        (pss_one (ps_set (i := 0) sc_word.nd rfl (Or.inl rfl) (pe_op op_fdiv (pe_callTy call_int1 (by rfl) tx.z_int (by decide +kernel) (pa_cons (pv 0) pa_nil)) pe_int)))))
        (pss_cons (ps_if (pt_val (pv 2)) (pss_one (ps_ret (pe_revS (pv 3)))) pss_nil)
        (pss_one (ps_ret (pv 3)))))),
      body_ok (N := ["_law_number", "_law_many", "_law_back", "_law_word_here", "_law_turn"]) (fun W ts rt xx hB ho hw hp => ?_) h⟩)
  have hK : W.B.K = K := congrArg Bs.K hB
  obtain ⟨n, m, b, rfl, hp⟩ := hp
  show Sx W _ [some (T n), some (T m), some (T b), none, none] _
  obtain ⟨h1, h2, h3, h4, hp⟩ := hp
  walk_at "g"
  apply sx_forR
  walk_at "g"
  refine ⟨by omega, fun i Γ' => ∃ (ni : Int) (z : Str) (o4 : Option Ty), 0 ≤ ni ∧ ni ≤ 1000000000 ∧ z.length = i ∧ z.cps.toList ++ wordL (m.toNat - i) ni = wordL m.toNat n ∧ Γ' = [some (T ni), some (T m), some (T b), some (T z), o4], ⟨n, Str.ofString "", none, h1, h2, by decide +kernel, ?_, rfl⟩, ?_, ?_⟩
  · rw [show (Str.ofString "").cps.toList = [] by decide +kernel]
    rfl
  · rintro i Γ' hi ⟨ni, z, o4, n0, n1, zl, ze, rfl⟩
    have hi' : i < m.toNat := hi
    obtain ⟨r, hr⟩ : ∃ r, m.toNat - i = r + 1 := ⟨m.toNat - i - 1, by omega⟩
    rw [hr] at ze
    have q0 : 0 ≤ ni % 26 := Int.emod_nonneg _ (by decide)
    have q1 : ni % 26 < 26 := Int.emod_lt_of_pos _ (by decide)
    apply tg_of
    walk_at "g"
    refine ⟨_, abc_at q0 q1, by show z.length + 1 ≤ 1000000; omega, ?_⟩
    walk_at "g"
    refine ⟨ni / 26, _, _, by omega, by omega, by rw [snoc_len, zl], ?_, rfl⟩
    rw [snoc_list, List.append_assoc, show m.toNat - (i + 1) = r by omega, ← ze]
    rfl
  · rintro Γ' ⟨ni, z, o4, n0, n1, zl, ze, rfl⟩
    have hz : z.cps.toList = wordL m.toNat n := by
      rw [Nat.sub_self] at ze
      rw [← ze]
      exact (List.append_nil _).symm
    obtain ⟨w1, w2⟩ := wordS_of hz
    walk_at "g"
    refine ⟨fun hb => ?_, fun hb => ?_⟩
    · apply sx_ret
      refine ev_revS ?_
      walk_at "g"
      rw [hb, w2] at hp
      exact hp
    · walk_at "g"
      rw [hb, w1] at hp
      exact hp
def P_words : PT := fun rt xx ts => ∃ (m : Int), ts = [T Bx.mk, T m] ∧ (0 ≤ m ∧ m ≤ 16 ∧ ∀ ws : List Str, (ws.length : Int) = m → ws.Nodup → (∀ w ∈ ws, GoodW w) → rt (T ws))
theorem pc_words {rt : Ty → Prop} {xx : Xn → Prop} {m : Int} (h : 0 ≤ m ∧ m ≤ 16 ∧ ∀ ws : List Str, (ws.length : Int) = m → ws.Nodup → (∀ w ∈ ws, GoodW w) → rt (T ws)) : P_words rt xx [T Bx.mk, T m] := ⟨_, rfl, h⟩
theorem ok_words (tx : Txt K mg A) : FnR P w K mg base CX0 2 A.f_words (spG (bs K A) P_words) := by
  have G_take := ok_take (P := P) (w := w) (base := base) tx
  have G_word := ok_word (P := P) (w := w) (base := base) tx
  refine fnR_of tx.g_words.d sc_words (len_ok (n := 2) fun rt xx ts hp => by obtain ⟨_, rfl, _⟩ := hp; rfl) (fun cdv Ar outer s H vs Q E hr h => ⟨_, (pss_cons (ps_set (i := 2) sc_words.nd rfl (Or.inl rfl) (pe_lst pa_nil))
        (pss_cons (ps_set (i := 3) sc_words.nd rfl (Or.inl rfl) (pe_cmpR (op_eqDK K (huD hr)) (pe_callR G_take (room hr) rfl (tx.g_take).g (tx.g_take).kp pass0 (pa_cons (pv 0) (pa_cons pe_int pa_nil))) pe_int (nomark _)))
        (pss_cons (ps_for PassesOwn.never rfl (pi_range1 (by rfl) tx.z_range (pa_cons (pv 1) pa_nil)) (pg_name (i := 4) sc_words.nd rfl (Or.inl rfl)) (pss_cons (ps_set (i := 5) sc_words.nd rfl (Or.inl rfl) (pe_ix (ix_listK K) (pe_lst (pa_cons pe_int (pa_cons pe_int (pa_cons pe_int (pa_cons pe_int (pa_cons pe_int (pa_cons pe_int pa_nil))))))) (pe_callR G_take (room hr) rfl (tx.g_take).g (tx.g_take).kp pass0 (pa_cons (pv 0) (pa_cons pe_int pa_nil))) (fun _ _ => rfl)))
        (pss_cons (ps_set (i := 6) sc_words.nd rfl (Or.inl rfl) (pe_callR G_take (room hr) rfl (tx.g_take).g (tx.g_take).kp pass0 (pa_cons (pv 0) (pa_cons pe_int pa_nil))))
        (pss_cons (ps_set (i := 7) sc_words.nd rfl (Or.inl rfl) (pe_callR G_word (room hr) rfl (tx.g_word).g (tx.g_word).kp pass0 (pa_cons (pv 6) (pa_cons (pv 5) (pa_cons (pv 3) pa_nil)))))
        (pss_cons (ps_for PassesOwn.never rfl (pi_range1 (by rfl) tx.z_range (pa_cons pe_int pa_nil)) (pg_name (i := 8) sc_words.nd rfl (Or.inl rfl)) (pss_one (ps_if (PW.pt (pw_or (pt_cmpR (op_inSeqK K) (pv 7) (pv 2) rfl) (pw_or1 (pt_cmpR (op_inSeqK K) (pv 7) (pe_lst (pa_cons pe_str (pa_cons pe_str (pa_cons pe_str (pa_cons pe_str pa_nil))))) rfl)))) (pss_cons (ps_set (i := 6) sc_words.nd rfl (Or.inl rfl) (pe_op op_add (pv 6) pe_int))
        (pss_one (ps_set (i := 7) sc_words.nd rfl (Or.inl rfl) (pe_callR G_word (room hr) rfl (tx.g_word).g (tx.g_word).kp pass0 (pa_cons (pv 6) (pa_cons (pv 5) (pa_cons (pv 3) pa_nil))))))) pss_nil)))
        (pss_one (ps_expr (pe_appendK K (pv 2) (pa_cons (pv 7) pa_nil)))))))))
        (pss_one (ps_ret (pv 2)))))),
      body_ok (N := ["_law_box_here", "_law_many", "_law_words_here", "_law_back", "_law_turn", "_law_wide", "_law_number", "_law_word_here", "_law_again"]) (fun W ts rt xx hB ho hw hp => ?_) h⟩)
  have hK : W.B.K = K := congrArg Bs.K hB
  obtain ⟨m, rfl, hp⟩ := hp
  show Sx W _ [some (T Bx.mk), some (T m), none, none, none, none, none, none, none] _
  obtain ⟨h1, h2, hp⟩ := hp
  refine sx_own fun F => ?_
  refine sxm_seq (sxm_new (β := Str) (rβ := inferInstance) fun Wo hW => evF_lst (el_nil (α := Str) (rα := inferInstance) ⟨by decide, fun p vs => ?_⟩))
  show SxM W F _ [(p, vs)] [some (T Bx.mk), some (T m), some (T (Ol.mk p vs ([] : List Str))), none, none, none, none, none, none] _
  refine sxm_seq (sxm_pure fun Wo hW => ?_)
  have hBo : Wo.B = bs K A := hW.B.trans hB
  have hKo : Wo.B.K = K := congrArg Bs.K hBo
  walk_at "g"
  refine pc_take ⟨by decide, by decide, fun bk b0 b1 => ⟨_, rfl, ?_⟩⟩
  walk_at "g"
  generalize decide (bk = 1) = back
  show SxM W F _ [(p, vs)] [some (T Bx.mk), some (T m), some (T (Ol.mk p vs ([] : List Str))), some (T back), none, none, none, none, none] _
  refine sxm_seq (sxm_forR fun Wo2 hW2 => ?_)
  walk_at "g"
  refine ⟨by omega, fun i L' Γ' => ∃ (vs' : List V) (as : List Str) (o4 o5 o6 o7 o8 : Option Ty), L' = [(p, vs')] ∧ as.length = i ∧ as.Nodup ∧ (∀ w ∈ as, GoodW w) ∧ Γ' = [some (T Bx.mk), some (T m), some (T (Ol.mk p vs' as)), some (T back), o4, o5, o6, o7, o8], ⟨vs, [], none, none, none, none, none, rfl, rfl, List.nodup_nil, fun _ h => (nomatch h), rfl⟩, ?_, ?_⟩
  · rintro i L' Γ' hi ⟨vs', as, o4, o5, o6, o7, o8, rfl, al, an, ag, rfl⟩ Wo' hW'
    have hi' : i < m.toNat := hi
    apply tg_of
    walk_at "g"
    show SxM W F _ [(p, vs')] [some (T Bx.mk), some (T m), some (T (Ol.mk p vs' as)), some (T back), some (T (i : Int)), o5, o6, o7, o8] _
    refine sxm_seq (sxm_pure fun Wo3 hW3 => ?_)
    have hB3 : Wo3.B = bs K A := hW3.B.trans hB
    have hK3 : Wo3.B.K = K := congrArg Bs.K hB3
    apply sx_set
    refine ev_ixL (α := Int) (rα := inferInstance) hK3 ?_
    apply ev_lst
    walk_at "g"
    refine pc_take ⟨by decide, by decide, fun z z0 z1 => ⟨_, rfl, ?_⟩⟩
    have hw : ∃ w : Int, atI [1, 1, 2, 3, 5, 12] z = some w ∧ 1 ≤ w ∧ w ≤ 12 := by
      have : z = 0 ∨ z = 1 ∨ z = 2 ∨ z = 3 ∨ z = 4 ∨ z = 5 := by omega
      rcases this with rfl | rfl | rfl | rfl | rfl | rfl
      · exact ⟨1, rfl, by omega, by omega⟩
      · exact ⟨1, rfl, by omega, by omega⟩
      · exact ⟨2, rfl, by omega, by omega⟩
      · exact ⟨3, rfl, by omega, by omega⟩
      · exact ⟨5, rfl, by omega, by omega⟩
      · exact ⟨12, rfl, by omega, by omega⟩
    obtain ⟨wd, hw, w0, w1⟩ := hw
    refine ⟨wd, hw, ?_⟩
    show SxM W F _ [(p, vs')] [some (T Bx.mk), some (T m), some (T (Ol.mk p vs' as)), some (T back), some (T (i : Int)), some (T wd), o6, o7, o8] _
    refine sxm_seq (sxm_pure fun Wo4 hW4 => ?_)
    have hB4 : Wo4.B = bs K A := hW4.B.trans hB
    have hK4 : Wo4.B.K = K := congrArg Bs.K hB4
    walk_at "g"
    refine pc_take ⟨by decide, by decide, fun n n0 n1 => ⟨_, rfl, ?_⟩⟩
    show SxM W F _ [(p, vs')] [some (T Bx.mk), some (T m), some (T (Ol.mk p vs' as)), some (T back), some (T (i : Int)), some (T wd), some (T n), o7, o8] _
    refine sxm_seq (sxm_pure fun Wo5 hW5 => ?_)
    have hB5 : Wo5.B = bs K A := hW5.B.trans hB
    have hK5 : Wo5.B.K = K := congrArg Bs.K hB5
    walk_at "g"
    refine pc_word ⟨by omega, by omega, by omega, by omega, _, rfl, ?_⟩
    obtain ⟨k, rfl⟩ : ∃ k : Nat, wd = k := ⟨wd.toNat, by omega⟩
    rw [Int.toNat_natCast]
    show SxM W F _ [(p, vs')] [some (T Bx.mk), some (T m), some (T (Ol.mk p vs' as)), some (T back), some (T (i : Int)), some (T (k : Int)), some (T n), some (T (wordS n k back)), o8] _
    refine sxm_seq (sxm_forR fun Wo6 hW6 => ?_)
    walk_at "g"
    refine ⟨by omega, fun j L' Γ' => ∃ (q : Nat) (o8 : Option Ty), L' = [(p, vs')] ∧ q ≤ j ∧ ((q = j ∧ ∀ t : Nat, t < q → wordS (n + (t : Int)) k back ∈ as ++ barS) ∨ wordS (n + (q : Int)) k back ∉ as ++ barS) ∧ Γ' = [some (T Bx.mk), some (T m), some (T (Ol.mk p vs' as)), some (T back), some (T (i : Int)), some (T (k : Int)), some (T (n + (q : Int))), some (T (wordS (n + (q : Int)) k back)), o8], ⟨0, o8, rfl, Nat.le_refl _, .inl ⟨rfl, fun t ht => absurd ht (Nat.not_lt_zero _)⟩, ?_⟩, ?_, ?_⟩
    · show _ = [some (T Bx.mk), some (T m), some (T (Ol.mk p vs' as)), some (T back), some (T (i : Int)), some (T (k : Int)), some (T (n + ((0 : Nat) : Int))), some (T (wordS (n + ((0 : Nat) : Int)) k back)), o8]
      rw [show n + ((0 : Nat) : Int) = n by omega]
    · rintro j L'' Γ'' hj ⟨q, o8', rfl, hqj, hq, rfl⟩ Wo7 hW7
      have hj' : j < 20 := hj
      apply tg_of
      walk_at "g"
      show SxM W F _ [(p, vs')] [some (T Bx.mk), some (T m), some (T (Ol.mk p vs' as)), some (T back), some (T (i : Int)), some (T (k : Int)), some (T (n + (q : Int))), some (T (wordS (n + (q : Int)) k back)), some (T (j : Int))] _
      refine sxm_ifB (Γ' := [some (T Bx.mk), some (T m), some (T as), some (T back), some (T (i : Int)), some (T (k : Int)), some (T (n + (q : Int))), some (T (wordS (n + (q : Int)) k back)), some (T (j : Int))]) (by walk_at "frz") ?_
      apply et_or
      apply et_test
      refine ev_inS hK ?_
      walk_at "g"
      refine ⟨fun hi1 => ⟨fun _ => ?_, fun h => (nomatch h)⟩, fun hi1 => ?_⟩
      · have hin : wordS (n + (q : Int)) k back ∈ as ++ barS := List.mem_append_left _ (of_decide_eq_true hi1)
        have hq2 : q = j ∧ ∀ t : Nat, t < q → wordS (n + (t : Int)) k back ∈ as ++ barS := by
          rcases hq with h' | h'
          · exact h'
          · exact absurd hin h'
        obtain ⟨rfl, hall⟩ := hq2
        refine sxm_seq (sxm_pure fun Wo8 hW8 => ?_)
        have hB8 : Wo8.B = bs K A := hW8.B.trans hB
        have hK8 : Wo8.B.K = K := congrArg Bs.K hB8
        walk_at "g"
        show SxM W F _ [(p, vs')] [some (T Bx.mk), some (T m), some (T (Ol.mk p vs' as)), some (T back), some (T (i : Int)), some (T (k : Int)), some (T (n + (q : Int) + 1)), some (T (wordS (n + (q : Int)) k back)), some (T (q : Int))] _
        refine sxm_pure fun Wo9 hW9 => ?_
        have hB9 : Wo9.B = bs K A := hW9.B.trans hB
        have hK9 : Wo9.B.K = K := congrArg Bs.K hB9
        walk_at "g"
        refine pc_word ⟨by omega, by omega, by omega, by omega, _, rfl, ?_⟩
        rw [Int.toNat_natCast]
        refine ⟨q + 1, some (T (q : Int)), rfl, Nat.le_refl _, .inl ⟨rfl, fun t ht => ?_⟩, ?_⟩
        · by_cases e : t < q
          · exact hall t e
          · have e2 : t = q := by omega
            rw [e2]
            exact hin
        · rw [show n + ((q + 1 : Nat) : Int) = n + (q : Int) + 1 by omega]
          rfl
      · apply et_test
        refine ev_inS hK ?_
        walk_at "g0"
        apply ev_lst
        walk_at "g"
        refine ⟨fun hi2 => ?_, fun hi2 => ?_⟩
        · have hin : wordS (n + (q : Int)) k back ∈ as ++ barS := List.mem_append_right _ (of_decide_eq_true hi2)
          have hq2 : q = j ∧ ∀ t : Nat, t < q → wordS (n + (t : Int)) k back ∈ as ++ barS := by
            rcases hq with h' | h'
            · exact h'
            · exact absurd hin h'
          obtain ⟨rfl, hall⟩ := hq2
          refine sxm_seq (sxm_pure fun Wo8 hW8 => ?_)
          have hB8 : Wo8.B = bs K A := hW8.B.trans hB
          have hK8 : Wo8.B.K = K := congrArg Bs.K hB8
          walk_at "g"
          show SxM W F _ [(p, vs')] [some (T Bx.mk), some (T m), some (T (Ol.mk p vs' as)), some (T back), some (T (i : Int)), some (T (k : Int)), some (T (n + (q : Int) + 1)), some (T (wordS (n + (q : Int)) k back)), some (T (q : Int))] _
          refine sxm_pure fun Wo9 hW9 => ?_
          have hB9 : Wo9.B = bs K A := hW9.B.trans hB
          have hK9 : Wo9.B.K = K := congrArg Bs.K hB9
          walk_at "g"
          refine pc_word ⟨by omega, by omega, by omega, by omega, _, rfl, ?_⟩
          rw [Int.toNat_natCast]
          refine ⟨q + 1, some (T (q : Int)), rfl, Nat.le_refl _, .inl ⟨rfl, fun t ht => ?_⟩, ?_⟩
          · by_cases e : t < q
            · exact hall t e
            · have e2 : t = q := by omega
              rw [e2]
              exact hin
          · rw [show n + ((q + 1 : Nat) : Int) = n + (q : Int) + 1 by omega]
            rfl
        · refine sxm_next ⟨q, _, rfl, by omega, .inr fun hm => ?_, rfl⟩
          rcases List.mem_append.mp hm with hm | hm
          · exact (of_decide_eq_false hi1) hm
          · exact (of_decide_eq_false hi2) hm
    · rintro L'' Γ'' ⟨q, o8', rfl, hqj, hq, rfl⟩
      have hno : wordS (n + (q : Int)) k back ∉ as ++ barS := by
        rcases hq with ⟨hq, hall⟩ | hq
        · have hq : q = 20 := hq
          subst hq
          exact (words_free (by omega) (by rw [List.length_append]; show as.length + 4 < 20; omega) hall).elim
        · exact hq
      have hna : wordS (n + (q : Int)) k back ∉ as := fun h => hno (List.mem_append_left _ h)
      have hnb : wordS (n + (q : Int)) k back ∉ barS := fun h => hno (List.mem_append_right _ h)
      refine sxm_append (α := Str) (rα := inferInstance) 0 rfl rfl fun Wo8 hW8 => ?_
      walk_at "g"
      refine fun v => ⟨_, _, _, _, _, _, _, rfl, ?_, ?_, ?_, rfl⟩
      · rw [List.length_append, al]
        rfl
      · refine List.nodup_append.mpr ⟨an, by simp, fun a ha b hb e => ?_⟩
        rw [List.mem_singleton.mp hb] at e
        exact hna (e ▸ ha)
      · intro w hw
        rcases List.mem_append.mp hw with hw | hw
        · exact ag w hw
        · rw [List.mem_singleton.mp hw]
          exact ⟨by rw [wordS_len]; omega, by rw [wordS_len]; omega, wordS_az, hnb⟩
  · rintro L' Γ' ⟨vs', as, o4, o5, o6, o7, o8, rfl, al, an, ag, rfl⟩
    refine sxm_freeze (Γ' := [some (T Bx.mk), some (T m), some (T as), some (T back), o4, o5, o6, o7, o8]) (by walk_at "frz") ?_
    refine sxm_pure fun Wf hWf => ?_
    walk_at "g"
    exact hp as (by omega) an ag
def P_m_is_gauge_name : PT := fun rt xx ts => ∃ (m : Nm), ts = [T m] ∧ (fineN m ∧ rt (T (gnN m)))
theorem pc_m_is_gauge_name {rt : Ty → Prop} {xx : Xn → Prop} {m : Nm} (h : fineN m ∧ rt (T (gnN m))) : P_m_is_gauge_name rt xx [T m] := ⟨_, rfl, h⟩
theorem ok_m_is_gauge_name (tx : Txt K mg A) : FnR P w K mg base CX0 1 A.f_m_is_gauge_name (spG (bs K A) P_m_is_gauge_name) := by
  refine fnR_of tx.g_m_is_gauge_name.d sc_m_is_gauge_name (len_ok (n := 1) fun rt xx ts hp => by obtain ⟨_, rfl, _⟩ := hp; rfl) (fun cdv Ar outer s H vs Q E hr h => ⟨_, (pss_cons (ps_if (PW.pt (pw_or (pt_not (pt_val (pe_callB (call_isiKK K) (by rfl) tx.z_isinstance (by decide +kernel) (pa_cons (pv 0) (pa_cons (pe_bltn (by rfl) tx.z_str (by decide +kernel) (show RelV (.ty "str") _ from rfl)) pa_nil))))) (pw_or1 (pt_cmpR (op_inSeqK K) (pv 0) (pe_globE tx.kg_BARRED) rfl)))) (pss_one (ps_ret pe_bl)) pss_nil)
        (pss_one (ps_ret (pe_and (pe_chain op_le op_le pe_int (pe_callB call_len_str (by rfl) tx.z_len PySem.boot_len (pa_cons (pv 0) pa_nil)) (pe_cvalK K (pe_globE tx.gc_Gauge))) (pe_one (pe_callB (cr_all rfl) (by rfl) tx.z_all (by decide +kernel) (pa_cons (pe_lc (own := [("sign", 1)]) rfl sc_m_is_gauge_name.nd (pi_str (pv 0)) (blkOk_by (N := ["name", "sign"]) (sc := defScope s_m_is_gauge_name) (by decide +kernel)) (fun _ _ _ _ _ => (pg_name (i := 1) sc_m_is_gauge_name.nd rfl (Or.inl rfl))) (fun _ _ _ _ _ => pts_nil) (fun _ _ _ _ _ => (pe_cmpR op_in_sign (pv 1) (pe_globE tx.kg_LETTERS) rfl))) pa_nil))))))),
      body_ok (N := ["name", "sign"]) (fun W ts rt xx hB ho hw hp => ?_) h⟩)
  have hK : W.B.K = K := congrArg Bs.K hB
  obtain ⟨m, rfl, hp⟩ := hp
  show Sx W _ [some (T m), none] _
  obtain ⟨hf, hp⟩ := hp
  cases m with
  | n =>
    walk_at "g"
    refine ev_isiNm hK (ev_var rfl ?_)
    walk_at "g"
    refine ⟨fun _ => ⟨fun _ => ?_, fun h => (nomatch h)⟩, fun h => (nomatch h)⟩
    walk_at "g"
    exact hp
  | i j =>
    walk_at "g"
    refine ev_isiNm hK (ev_var rfl ?_)
    walk_at "g"
    refine ⟨fun _ => ⟨fun _ => ?_, fun h => (nomatch h)⟩, fun h => (nomatch h)⟩
    walk_at "g"
    exact hp
  | t x =>
    walk_at "g"
    refine ev_isiNm hK (ev_var rfl ?_)
    walk_at "g"
    refine ⟨fun _ => ⟨fun _ => ?_, fun h => (nomatch h)⟩, fun h => (nomatch h)⟩
    walk_at "g"
    exact hp
  | s w =>
  have hl : w.length ≤ 100000 := Nat.le_trans hf.2 (by decide)
  replace hp : rt (T (gnB w)) := hp
  refine sx_as 0 (u := T (Nm.s w)) (u' := T w) rfl (fun W H v d => d) ?_
  show Sx W _ [some (T w), none] _
  walk_at "g"
  refine ev_isi (b := true) hK (inferInstance : PyTy Str "str") (kit_ty (by decide +kernel)) ?_
  walk_at "g"
  refine ⟨fun h => (nomatch h), fun _ => ?_⟩
  apply et_test
  refine ev_inCst tx.kt_BARRED ?_
  walk_at "g"
  unfold gnB at hp
  rw [show decide (w ∈ barS) = decide (w ∈ [Str.ofString "rank", Str.ofString "trim", Str.ofString "weigh", Str.ofString "together"]) from rfl] at hp
  refine ⟨fun hb => ?_, fun hb => ?_⟩
  · rw [hb] at hp
    walk_at "g"
    exact hp
  · rw [hb] at hp
    refine sx_next ?_
    apply sx_ret
    apply ev_andV
    apply ev_chainP
    walk_at "g0"
    refine ev_lenS ?_
    walk_at "g0"
    refine ⟨hl, ?_⟩
    obtain ⟨u, hcv⟩ := tx.kc_Gauge_LONGEST
    refine chg_in (l := 12) (ev_cvalI tx.r_Gauge hcv rfl) ?_
    refine ⟨fun h1 => ?_, fun h1 => ?_⟩
    · rw [h1] at hp
      apply ev_all hK
      refine ev_lcSF (fun c => decide (c ∈ (Str.ofString "abcdefghijklmnopqrstuvwxyz").cps.toList)) ?_
      walk_at "g0"
      refine ⟨hl, fun W' sb c hc => ⟨[1], rfl, ?_⟩, hp⟩
      apply tj_name
      walk_at "g"
      refine ⟨fun _ => ?_, fun h => (nomatch h)⟩
      refine ev_inSign ?_
      walk_at "g"
      refine ⟨c, rfl, ?_⟩
      walk_at "g"
      rfl
    · rw [h1] at hp
      exact hp
theorem ok_BadGauge_init (tx : Txt K mg A) : FnR P w K mg base CX0 1 A.f_BadGauge_init (spErN (bs K A) A.c_BadGauge) := by
  refine fnR_of tx.d_BadGauge_init sc_BadGauge_init (fun vs H Q E h => ?_) (fun cdv Ar outer s H vs Q E hr h => ?_)
  · obtain ⟨a, v, W, m, rfl, _⟩ := h; rfl
  · refine ⟨_, (pss_cons (ps_expr (pe_geinitK K tx.ge (pa_cons (pv 0) (pa_cons (pe_joined (PJ.cons pe_str (PJ.cons (pe_fmtNK K (room hr : Room 0 _) (pv 1)) (PJ.cons pe_str PJ.nil)))) pa_nil))))
        (pss_one (ps_ostK K (pv 0) (pv 1)))), ?_⟩
    try dsimp only [cxOf, Cx.nox]
    obtain ⟨a, v, W, m, rfl, hW, dv, hf, ha, k⟩ := h
    exact err_one tx.xo_BadGauge tx.n_BadGauge_name rfl rfl (first_ge tx.xo_BadGauge rfl ha fun Q q => js_nm hW (by decide +kernel) (by decide +kernel) (var_is rfl) dv hf q) ha k
theorem ok_Gauge_init (tx : Txt K mg A) : FnR P w K mg base (L2.CX P w) 3 A.f_Gauge_init (spGIN (bs K A)) := by
  have G_m_is_gauge_name := ok_m_is_gauge_name (P := P) (w := w) (base := base) tx
  have G_BadGauge_init := ok_BadGauge_init (P := P) (w := w) (base := base) tx
  refine fnRX_of tx.d_Gauge_init sc_Gauge_init (fun vs H Q E h => ?_) (fun cdv Ar outer s H vs Q E hr h => ?_)
  · obtain ⟨W, p, dx, fs, kd, m, v, rd, rfl, _⟩ := h; rfl
  · refine ⟨_, (pss_cons (ps_if (PW.pt (pw_or (pt_not (pt_val (pe_callR G_m_is_gauge_name (room hr) rfl (tx.g_m_is_gauge_name).g (tx.g_m_is_gauge_name).kp pass0 (pa_cons (pv 1) pa_nil)))) (pw_or1 (pt_cmpR op_lt (pv 2) pe_int (nomark _))))) (pss_one (ps_raise rfl (takes_of rfl rfl rfl rfl) (pmk_oexR tx.xo_BadGauge tx.xi_BadGauge tx.xt_BadGauge G_BadGauge_init (room hr) pass0 rfl tx.c_BadGauge (pa_cons (pv 1) pa_nil)))) pss_nil)
        (pss_cons (ps_fld (pv 0) (pv 1) rfl)
        (pss_one (ps_fld (pv 0) (pv 2) rfl)))), ?_⟩
    try dsimp only [cxOf, Cx.nox]
    obtain ⟨W, p, dx, fs, kd, m, v, rd, rfl, dv, hf, hp, hB, ho, hm, hl, hT, hgood, hbad⟩ := h
    refine ⟨_, rfl, W, [T m], fun t => t = T (gnN m), fun _ => False, hB, ho, .cons (t := T m) dv .nil, pc_m_is_gauge_name ⟨hf, rfl⟩, fun v' H' t e dt et => ?_, fun n d2 H2 _ _ z => z.elim⟩
    subst et
    have dt' : v' = V.bl (gnN m) := dt
    subst dt'
    have br : ∀ nb : ¬ (gnN m = true ∧ 0 ≤ rd), tMkO A.c_BadGauge (spErN (bs K A) A.c_BadGauge) [] (tCons (tVar 1) tNil) (L2.start ["self", "name", "radius"] [V.ref p, v, V.int rd]) H' fun cls d H' => E cls d H' := fun nb =>
      raw_raiseN (v := v) (m := m) (W := W.toWc) (fun K q => ⟨_, rfl, q⟩) (congrArg Bs.K hB) (Rep.mono (a := m) e.keep dv) hf fun d hd => hbad nb H' d (fun a o mu ne z => e.keep a o mu z) e.ok hd
    refine ⟨_, rfl, ?_⟩
    cases hg : gnN m with
    | false =>
      refine itT rfl ?_
      refine itT rfl ?_
      exact br (fun h => by rw [hg] at h; exact absurd h.1 (by decide))
    | true =>
      refine itF rfl ?_
      refine ⟨_, rfl, rd, 0, rfl, rfl, _, rfl, ?_⟩
      by_cases hr0 : rd < 0
      · refine itT (decide_eq_true hr0) ?_
        exact br (fun h => absurd h.2 (by omega))
      refine itF (decide_eq_false hr0) ?_
      refine ⟨_, rfl, _, rfl, p, (bs K A).cl kd.cn, dx, fs, rfl, e.keep _ _ hm hp, hT.cl kd, hT.nname kd, by omega, ?_⟩
      refine ⟨_, rfl, _, rfl, p, (bs K A).cl kd.cn, dx, _, rfl, upd_same, hT.cl kd, hT.nradius kd, by have := putF_le "name" v fs; omega, ?_⟩
      exact hgood ⟨hg, by omega⟩ H' e
theorem ok_CoarseGauge_init (tx : Txt K mg A) : ∃ fd, FnOk P w K mg base (L2.CX P w) 5 A.f_CoarseGauge_init fd ["self", "name", "radius", "step"] (spCIN (bs K A)) ∧ KBn K fd ["self", "name", "radius", "step"] 3 ["step"] (fun us ws => us ++ ws) (fun vs zs => vs ++ zs) := by
  have G_Gauge_init := ok_Gauge_init (P := P) (w := w) (base := base) tx
  have G_BadGauge_init := ok_BadGauge_init (P := P) (w := w) (base := base) tx
  obtain ⟨fd, F, kb⟩ := tx.dk_CoarseGauge_init.ex
  refine ⟨fd, F.okX sc_CoarseGauge_init (fun vs H Q E h => ?_) (fun cdv Ar outer s H vs Q E hr h => ?_), kb⟩
  · obtain ⟨W, p, dx, fs, kd, m, v, rd, st, rfl, _⟩ := h; rfl
  · refine ⟨_, (pss_cons (ps_expr (pe_cinit (E := WE (fun cls d _ H => E cls d H)) tx.cli_Gauge G_Gauge_init (room hr) (passAt (takes_of rfl rfl rfl rfl)) tx.c_Gauge (pa_cons (pv 0) (pa_cons (pv 1) (pa_cons (pv 2) pa_nil)))))
        (pss_cons (ps_if (pt_cmpR op_lt (pv 3) pe_int (nomark _)) (pss_one (ps_raise rfl (takes_of rfl rfl rfl rfl) (pmk_oexR tx.xo_BadGauge tx.xi_BadGauge tx.xt_BadGauge G_BadGauge_init (room hr) pass0 rfl tx.c_BadGauge (pa_cons (pv 1) pa_nil)))) pss_nil)
        (pss_one (ps_fld (pv 0) (pv 3) rfl)))), ?_⟩
    try dsimp only [cxOf, Cx.nox]
    obtain ⟨W, p, dx, fs, kd, m, v, rd, st, rfl, dv, hf, hp, hB, ho, hm, hl, hT, hgood, hbad⟩ := h
    refine ⟨_, rfl, _, rfl, _, rfl, W, p, dx, fs, kd, m, v, rd, rfl, dv, hf, hp, hB, ho, hm, by omega, hT, fun hg H' e => ?_, fun nb => hbad fun h => nb ⟨h.1, h.2.1⟩⟩
    have h1 := putF_le "name" v fs
    have h2 := putF_le "radius" (V.int rd) (putF "name" v fs)
    refine ⟨_, rfl, st, 1, rfl, rfl, _, rfl, ?_⟩
    by_cases hs : st < 1
    · refine itT (decide_eq_true hs) ?_
      refine raw_raiseN (v := v) (m := m) (W := W.toWc) (fun K q => ⟨_, rfl, q⟩) (congrArg Bs.K hB) (nm_upd upd_same (nm_upd (e.keep _ _ hm hp) (Rep.mono (a := m) e.keep dv))) hf fun d hd => hbad (fun h => absurd h.2.2 (by omega)) _ d (fun a o mu ne z => ?_) (W.st _ _ _ (W.st _ _ _ e.ok hm) hm) hd
      rw [upd_ne ne, upd_ne ne]
      exact e.keep a o mu z
    refine itF (decide_eq_false hs) ?_
    refine ⟨_, rfl, _, rfl, p, (bs K A).cl kd.cn, dx, _, rfl, upd_same, hT.cl kd, hT.nstep kd, by omega, ?_⟩
    exact hgood ⟨hg.1, hg.2, by omega⟩ H' e
theorem ok_LateGauge_init (tx : Txt K mg A) : ∃ fd, FnOk P w K mg base (L2.CX P w) 5 A.f_LateGauge_init fd ["self", "name", "radius", "late", "pace"] (spTIN (bs K A)) ∧ KBn K fd ["self", "name", "radius", "late", "pace"] 3 ["late", "pace"] (fun us ws => us ++ ws) (fun vs zs => vs ++ zs) := by
  have G_Gauge_init := ok_Gauge_init (P := P) (w := w) (base := base) tx
  have G_BadGauge_init := ok_BadGauge_init (P := P) (w := w) (base := base) tx
  obtain ⟨fd, F, kb⟩ := tx.dk_LateGauge_init.ex
  refine ⟨fd, F.okX sc_LateGauge_init (fun vs H Q E h => ?_) (fun cdv Ar outer s H vs Q E hr h => ?_), kb⟩
  · obtain ⟨W, p, dx, fs, kd, m, v, rd, lt, pc, rfl, _⟩ := h; rfl
  · refine ⟨_, (pss_cons (ps_expr (pe_cinit (E := WE (fun cls d _ H => E cls d H)) tx.cli_Gauge G_Gauge_init (room hr) (passAt (takes_of rfl rfl rfl rfl)) tx.c_Gauge (pa_cons (pv 0) (pa_cons (pv 1) (pa_cons (pv 2) pa_nil)))))
        (pss_cons (ps_if (PW.pt (pw_or (pt_cmpR op_lt (pv 3) pe_int (nomark _)) (pw_or1 (pt_cmpR op_lt (pv 4) pe_int (nomark _))))) (pss_one (ps_raise rfl (takes_of rfl rfl rfl rfl) (pmk_oexR tx.xo_BadGauge tx.xi_BadGauge tx.xt_BadGauge G_BadGauge_init (room hr) pass0 rfl tx.c_BadGauge (pa_cons (pv 1) pa_nil)))) pss_nil)
        (pss_cons (ps_fld (pv 0) (pv 3) rfl)
        (pss_one (ps_fld (pv 0) (pv 4) rfl))))), ?_⟩
    try dsimp only [cxOf, Cx.nox]
    obtain ⟨W, p, dx, fs, kd, m, v, rd, lt, pc, rfl, dv, hf, hp, hB, ho, hm, hl, hT, hgood, hbad⟩ := h
    refine ⟨_, rfl, _, rfl, _, rfl, W, p, dx, fs, kd, m, v, rd, rfl, dv, hf, hp, hB, ho, hm, by omega, hT, fun hg H' e => ?_, fun nb => hbad fun h => nb ⟨h.1, h.2.1⟩⟩
    have h1 := putF_le "name" v fs
    have h2 := putF_le "radius" (V.int rd) (putF "name" v fs)
    have h3 := putF_le "late" (V.int lt) (putF "radius" (V.int rd) (putF "name" v fs))
    have br : ∀ nb : ¬ (0 ≤ lt ∧ 0 ≤ pc), tMkO A.c_BadGauge (spErN (bs K A) A.c_BadGauge) [] (tCons (tVar 1) tNil) (L2.start ["self", "name", "radius", "late", "pace"] [V.ref p, v, V.int rd, V.int lt, V.int pc]) _ fun cls d H' => E cls d H' := fun nb =>
      raw_raiseN (v := v) (m := m) (W := W.toWc) (fun K q => ⟨_, rfl, q⟩) (congrArg Bs.K hB) (nm_upd upd_same (nm_upd (e.keep _ _ hm hp) (Rep.mono (a := m) e.keep dv))) hf fun d hd => hbad (fun h => nb h.2.2) (upd (upd H' p (.ins ((bs K A).cl kd.cn) dx (putF "name" v fs))) p (.ins ((bs K A).cl kd.cn) dx (putF "radius" (.int rd) (putF "name" v fs)))) d (fun a o mu ne z => by rw [upd_ne ne, upd_ne ne]; exact e.keep a o mu z) (W.st _ _ _ (W.st _ _ _ e.ok hm) hm) hd
    refine ⟨_, rfl, lt, 0, rfl, rfl, _, rfl, ?_⟩
    by_cases hs : lt < 0
    · refine itT (decide_eq_true hs) ?_
      refine itT rfl ?_
      exact br (fun h => absurd h.1 (by omega))
    refine itF (decide_eq_false hs) ?_
    refine ⟨_, rfl, pc, 0, rfl, rfl, _, rfl, ?_⟩
    by_cases hs2 : pc < 0
    · refine itT (decide_eq_true hs2) ?_
      exact br (fun h => absurd h.2 (by omega))
    refine itF (decide_eq_false hs2) ?_
    refine ⟨_, rfl, _, rfl, p, (bs K A).cl kd.cn, dx, _, rfl, upd_same, hT.cl kd, hT.nlate kd, by omega, ?_⟩
    refine ⟨_, rfl, _, rfl, p, (bs K A).cl kd.cn, dx, _, rfl, upd_same, hT.cl kd, hT.npace kd, by omega, ?_⟩
    exact hgood ⟨hg.1, hg.2, by omega, by omega⟩ H' e
theorem ok_LateCoarseGauge_init (tx : Txt K mg A) : ∃ fd, FnOk P w K mg base (L2.CX P w) 7 A.f_LateCoarseGauge_init fd ["self", "name", "radius", "step", "late", "pace"] (spQIN (bs K A)) ∧ KBn K fd ["self", "name", "radius", "step", "late", "pace"] 3 ["step", "late", "pace"] (fun us ws => us ++ ws) (fun vs zs => vs ++ zs) := by
  obtain ⟨fd_LateGauge_init, G_LateGauge_init, kb_LateGauge_init⟩ := ok_LateGauge_init (P := P) (w := w) (base := base) tx
  obtain ⟨fd_CoarseGauge_init, G_CoarseGauge_init, kb_CoarseGauge_init⟩ := ok_CoarseGauge_init (P := P) (w := w) (base := base) tx
  obtain ⟨fd, F, kb⟩ := tx.dk_LateCoarseGauge_init.ex
  refine ⟨fd, F.okX sc_LateCoarseGauge_init (fun vs H Q E h => ?_) (fun cdv Ar outer s H vs Q E hr h => ?_), kb⟩
  · obtain ⟨W, p, dx, m, v, rd, st, lt, pc, rfl, _⟩ := h; rfl
  · refine ⟨_, (pss_cons (ps_expr (pe_cinitKZ (E := WE (fun cls d _ H => E cls d H)) tx.cli_LateGauge G_LateGauge_init (room hr) kb_LateGauge_init (passAt (takes_of rfl rfl rfl rfl)) tx.c_LateGauge (pa_cons (pv 0) (pa_cons (pv 1) (pa_cons (pv 2) pa_nil))) (pk_cons (pv 4) (pk_cons (pv 5) pk_nil))))
        (pss_one (ps_expr (pe_cinitKZ (E := WE (fun cls d _ H => E cls d H)) tx.cli_CoarseGauge G_CoarseGauge_init (room hr) kb_CoarseGauge_init (passAt (takes_of rfl rfl rfl rfl)) tx.c_CoarseGauge (pa_cons (pv 0) (pa_cons (pv 1) (pa_cons (pv 2) pa_nil))) (pk_cons (pv 3) pk_nil))))), ?_⟩
    try dsimp only [cxOf, Cx.nox]
    obtain ⟨W, p, dx, m, v, rd, st, lt, pc, rfl, dv, hf, hp, hB, ho, hm, hT, hgood, hbad⟩ := h
    refine ⟨_, rfl, _, rfl, _, rfl, _, rfl, _, rfl, rfl, rfl, W, p, dx, [], .lc, m, v, rd, lt, pc, rfl, dv, hf, hp, hB, ho, hm, by decide, hT, fun hg H' e => ?_, fun nb => hbad fun h => nb ⟨h.1, h.2.1, h.2.2.2.1, h.2.2.2.2⟩⟩
    have kp : ∀ a o, ¬ W.mu a → a ≠ p → H a = some o → (upd (upd (upd (upd H' p (.ins ((bs K A).cl GK.lc.cn) dx (putF "name" v []))) p (.ins ((bs K A).cl GK.lc.cn) dx (putF "radius" (.int rd) (putF "name" v [])))) p (.ins ((bs K A).cl GK.lc.cn) dx (putF "late" (.int lt) (putF "radius" (.int rd) (putF "name" v []))))) p (.ins ((bs K A).cl GK.lc.cn) dx (putF "pace" (.int pc) (putF "late" (.int lt) (putF "radius" (.int rd) (putF "name" v [])))))) a = some o := fun a o mu ne z => by
      rw [upd_ne ne, upd_ne ne, upd_ne ne, upd_ne ne]
      exact e.keep a o mu z
    refine ⟨_, rfl, _, rfl, _, rfl, _, rfl, rfl, rfl, W, p, dx, _, .lc, m, v, rd, st, rfl, nm_upd upd_same (nm_upd upd_same (nm_upd upd_same (nm_upd (e.keep _ _ hm hp) (Rep.mono (a := m) e.keep dv)))), hf, upd_same, hB, W.st _ _ _ (W.st _ _ _ (W.st _ _ _ (W.st _ _ _ e.ok hm) hm) hm) hm, hm, ?_, hT, fun hg2 H2 e2 => ?_, fun nb => (hbad fun h => nb ⟨h.1, h.2.1, h.2.2.1⟩).after kp⟩
    · have h1 := putF_le "name" v []
      have h2 := putF_le "radius" (V.int rd) (putF "name" v [])
      have h3 := putF_le "late" (V.int lt) (putF "radius" (V.int rd) (putF "name" v []))
      have h4 := putF_le "pace" (V.int pc) (putF "late" (V.int lt) (putF "radius" (V.int rd) (putF "name" v [])))
      have h0 : ([] : List (Str × V)).length = 0 := rfl
      omega
    obtain ⟨y, rfl, gy⟩ := gnN_str hg.1
    have ev : v = V.str y := dv
    subst ev
    refine hgood ⟨hg.1, hg.2.1, hg2.2.2, hg.2.2.1, hg.2.2.2⟩ y _ rfl (fun a o mb hne h => ?_) (W.st _ _ _ (W.st _ _ _ (W.st _ _ _ e2.ok hm) hm) hm) (by rw [upd_same, gauF_lc]; rfl)
    rw [upd_ne hne, upd_ne hne, upd_ne hne]
    exact e2.keep a o mb (kp a o mb hne h)
def okM (so : Int) (m : Nm) (rd st lt pc : Int) : Bool := gnN m && decide (0 ≤ rd) && (!decide (so = 1 ∨ so = 3) || decide (1 ≤ st)) && (!decide (so = 2 ∨ so = 3) || (decide (0 ≤ lt) && decide (0 ≤ pc)))
theorem okM_iff {so : Int} {m : Nm} {rd st lt pc : Int} : okM so m rd st lt pc = true ↔ gnN m = true ∧ 0 ≤ rd ∧ ((so = 1 ∨ so = 3) → 1 ≤ st) ∧ ((so = 2 ∨ so = 3) → 0 ≤ lt ∧ 0 ≤ pc) := by
  unfold okM
  simp only [Bool.and_eq_true, Bool.or_eq_true, Bool.not_eq_true', decide_eq_true_eq, decide_eq_false_iff_not]
  constructor
  · rintro ⟨⟨⟨h1, h2⟩, h3⟩, h4⟩
    exact ⟨h1, h2, fun z => h3.resolve_left fun n => n z, fun z => h4.resolve_left fun n => n z⟩
  · rintro ⟨h1, h2, h3, h4⟩
    exact ⟨⟨⟨h1, h2⟩, (Classical.em (so = 1 ∨ so = 3)).elim (fun z => .inr (h3 z)) .inl⟩, (Classical.em (so = 2 ∨ so = 3)).elim (fun z => .inr (h4 z)) .inl⟩
theorem okM_not {so : Int} {m : Nm} {rd st lt pc : Int} (h : ¬ (gnN m = true ∧ 0 ≤ rd ∧ ((so = 1 ∨ so = 3) → 1 ≤ st) ∧ ((so = 2 ∨ so = 3) → 0 ≤ lt ∧ 0 ≤ pc))) : okM so m rd st lt pc = false := by
  cases q : okM so m rd st lt pc with
  | false => rfl
  | true => exact absurd (okM_iff.mp q) h
def P_made : PT := fun rt xx ts => ∃ (so : Int) (m : Nm) (rd : Int) (st : Int) (lt : Int) (pc : Int), ts = [T so, T m, T ([rd, st, lt, pc] : List Int)] ∧ ((0 ≤ so ∧ so ≤ 3) ∧ fineN m ∧ rt (T (if okM so m rd st lt pc = true then Rs.one m else Rs.lst m)))
theorem pc_made {rt : Ty → Prop} {xx : Xn → Prop} {so : Int} {m : Nm} {rd : Int} {st : Int} {lt : Int} {pc : Int} (h : (0 ≤ so ∧ so ≤ 3) ∧ fineN m ∧ rt (T (if okM so m rd st lt pc = true then Rs.one m else Rs.lst m))) : P_made rt xx [T so, T m, T ([rd, st, lt, pc] : List Int)] := ⟨_, _, _, _, _, _, rfl, h⟩
theorem ok_made (tx : Txt K mg A) : FnR P w K mg base CX0 9 A.f_made (spG (bs K A) P_made) := by
  have G_Gauge_init := ok_Gauge_init (P := P) (w := w) (base := base) tx
  obtain ⟨fd_CoarseGauge_init, G_CoarseGauge_init, kb_CoarseGauge_init⟩ := ok_CoarseGauge_init (P := P) (w := w) (base := base) tx
  obtain ⟨fd_LateGauge_init, G_LateGauge_init, kb_LateGauge_init⟩ := ok_LateGauge_init (P := P) (w := w) (base := base) tx
  obtain ⟨fd_LateCoarseGauge_init, G_LateCoarseGauge_init, kb_LateCoarseGauge_init⟩ := ok_LateCoarseGauge_init (P := P) (w := w) (base := base) tx
  refine fnR_of tx.g_made.d sc_made (len_ok (n := 3) fun rt xx ts hp => by obtain ⟨_, _, _, _, _, _, rfl, _⟩ := hp; rfl) (fun cdv Ar outer s H vs Q E hr h => ⟨_, (pss_cons (ps_tryZ K (i := 4) (c := .ref A.c_BadGauge) rfl rfl sc_made.nd rfl rfl ⟨rfl, by decide, Or.inl tx.c_BadGauge⟩ takes0 (fun Wx pn xe tk po => (pss_one (ps_if (pt_cmpR (op_eqDK K (huD hr)) (pv 0) pe_int (nomark _)) (pss_one (ps_set (i := 3) sc_made.nd rfl (Or.inl rfl) (pe_makeZ (E := WE Wx) (tx.m_Gauge) G_Gauge_init (room hr) rfl tx.c_Gauge (passAt tk) (pa_cons (pv 1) (pa_cons (pe_ix (ix_listK K) (pv 2) pe_int (fun _ _ => rfl)) pa_nil))))) (pss_one (ps_if (pt_cmpR (op_eqDK K (huD hr)) (pv 0) pe_int (nomark _)) (pss_one (ps_set (i := 3) sc_made.nd rfl (Or.inl rfl) (pe_makeKZ (E := WE Wx) (tx.m_CoarseGauge) G_CoarseGauge_init (room hr) rfl tx.c_CoarseGauge kb_CoarseGauge_init (passAt tk) (pa_cons (pv 1) (pa_cons (pe_ix (ix_listK K) (pv 2) pe_int (fun _ _ => rfl)) pa_nil)) (pk_cons (pe_ix (ix_listK K) (pv 2) pe_int (fun _ _ => rfl)) pk_nil)))) (pss_one (ps_if (pt_cmpR (op_eqDK K (huD hr)) (pv 0) pe_int (nomark _)) (pss_one (ps_set (i := 3) sc_made.nd rfl (Or.inl rfl) (pe_makeKZ (E := WE Wx) (tx.m_LateGauge) G_LateGauge_init (room hr) rfl tx.c_LateGauge kb_LateGauge_init (passAt tk) (pa_cons (pv 1) (pa_cons (pe_ix (ix_listK K) (pv 2) pe_int (fun _ _ => rfl)) pa_nil)) (pk_cons (pe_ix (ix_listK K) (pv 2) pe_int (fun _ _ => rfl)) (pk_cons (pe_ix (ix_listK K) (pv 2) pe_int (fun _ _ => rfl)) pk_nil))))) (pss_one (ps_set (i := 3) sc_made.nd rfl (Or.inl rfl) (pe_makeKZ (E := WE Wx) (tx.m_LateCoarseGauge) G_LateCoarseGauge_init (room hr) rfl tx.c_LateCoarseGauge kb_LateCoarseGauge_init (passAt tk) (pa_cons (pv 1) (pa_cons (pe_ix (ix_listK K) (pv 2) pe_int (fun _ _ => rfl)) pa_nil)) (pk_cons (pe_ix (ix_listK K) (pv 2) pe_int (fun _ _ => rfl)) (pk_cons (pe_ix (ix_listK K) (pv 2) pe_int (fun _ _ => rfl)) (pk_cons (pe_ix (ix_listK K) (pv 2) pe_int (fun _ _ => rfl)) pk_nil)))))))))))))
        (fun a oe cls d pn hz hf => (pss_cons (ps_if (PW.pt (pw_or (pt_not (pt_val (pe_callB (call_isF K hz hf) (by rfl) tx.z_isinstance (by decide +kernel) (pa_cons (pv 4) (pa_cons (pe_glob (v := V.ref A.c_GaugeError) rfl tx.c_GaugeError rfl) pa_nil))))) (pw_or1 (pt_val (pe_callB (call_isF K hz hf) (by rfl) tx.z_isinstance (by decide +kernel) (pa_cons (pv 4) (pa_cons (pe_glob (v := V.ref A.c_DuplicateGauge) rfl tx.c_DuplicateGauge rfl) pa_nil))))))) (pss_one (ps_ret pe_str)) pss_nil)
        (pss_one (ps_ret (pe_lst (pa_cons (pe_xf tx.xf_BadGauge tx.n_BadGauge_name hz hf (pv 4)) pa_nil)))))))
        (pss_one (ps_ret (pe_fldK K (pv 3) rfl)))),
      body_ok (N := ["_law_sort", "_law_word_here", "_law_numbers", "_law_gauge", "e"]) (fun W ts rt xx hB ho hw hp => ?_) h⟩)
  have hK : W.B.K = K := congrArg Bs.K hB
  obtain ⟨so, m, rd, st, lt, pc, rfl, hp⟩ := hp
  show Sx W _ [some (T so), some (T m), some (T ([rd, st, lt, pc] : List Int)), none, none] _
  obtain ⟨⟨h0, h3⟩, hf, hp⟩ := hp
  have yes : ∀ y : Str, okM so m rd st lt pc = true → m = .s y → rt (T (Rs.one (.s y))) := fun y h e => by
    rw [if_pos h, e] at hp
    exact hp
  have hret : ∀ (g : Gau) (y : Str), g.nm = y → okM so m rd st lt pc = true → m = .s y → Sx W (tRet (tFld K (tVar 3) (Str.ofString "name"))) [some (T so), some (T m), some (T ([rd, st, lt, pc] : List Int)), some (T g), none] { nx := fun x => rt (T ()), rt := rt } := fun g y eg h e =>
    sx_ret (α := Rs) (rα := inferInstance) (ev_rs1 (ev_nmS (ev_gname hK (hB ▸ gauT tx) (ev_var rfl (by rw [eg]; exact yes y h e)))))
  refine sx_seq (sx_try (fun n => n = ⟨.BadGauge, [("name", m.fv)]⟩ ∧ okM so m rd st lt pc = false) (fun W' Wx hB' hX => ?_) (fun a dd n hn => ?_))
  · have hB2 : W'.B = bs K A := hB'.trans hB
    have hK2 : W'.B.K = K := congrArg Bs.K hB2
    refine sx_if (et_test (ev_eqG (α := Int) (rα := inferInstance) hK2 (ev_var rfl (ev_int (eqg_in (by decide) trivial trivial ⟨fun h => ?_, fun h => ?_⟩)))))
    · have e := of_decide_eq_true h
      refine sx_set (α := Gau) (rα := inferInstance) (ev_gaugeN 0 0 0 hB2 rfl (gauT tx) hX (ev_var rfl (ev_ixL (α := Int) (rα := inferInstance) hK2 (ev_var rfl (ev_int ⟨rd, rfl, hf, fun y em gy g1 => ?_, fun nb => ⟨rfl, ?_⟩⟩)))))
      · exact hret _ y rfl (okM_iff.mpr ⟨by rw [em]; exact gy, g1, fun z => by omega, fun z => by omega⟩) em
      · exact okM_not fun z => nb ⟨z.1, z.2.1⟩
    have e0 := of_decide_eq_false h
    refine sx_if (et_test (ev_eqG (α := Int) (rα := inferInstance) hK2 (ev_var rfl (ev_int (eqg_in (by decide) trivial trivial ⟨fun h => ?_, fun h => ?_⟩)))))
    · have e := of_decide_eq_true h
      refine sx_set (α := Gau) (rα := inferInstance) (ev_coarseN 0 0 hB2 rfl (gauT tx) hX (ev_var rfl (ev_ixL (α := Int) (rα := inferInstance) hK2 (ev_var rfl (ev_int ⟨rd, rfl, ev_ixL (α := Int) (rα := inferInstance) hK2 (ev_var rfl (ev_int ⟨st, rfl, hf, fun y em gy g1 g2 => ?_, fun nb => ⟨rfl, ?_⟩⟩))⟩)))))
      · exact hret _ y rfl (okM_iff.mpr ⟨by rw [em]; exact gy, g1, fun z => g2, fun z => by omega⟩) em
      · exact okM_not fun z => nb ⟨z.1, z.2.1, z.2.2.1 (.inl e)⟩
    have e1 := of_decide_eq_false h
    refine sx_if (et_test (ev_eqG (α := Int) (rα := inferInstance) hK2 (ev_var rfl (ev_int (eqg_in (by decide) trivial trivial ⟨fun h => ?_, fun h => ?_⟩)))))
    · have e := of_decide_eq_true h
      refine sx_set (α := Gau) (rα := inferInstance) (ev_lateN 0 hB2 rfl (gauT tx) hX (ev_var rfl (ev_ixL (α := Int) (rα := inferInstance) hK2 (ev_var rfl (ev_int ⟨rd, rfl, ev_ixL (α := Int) (rα := inferInstance) hK2 (ev_var rfl (ev_int ⟨lt, rfl, ev_ixL (α := Int) (rα := inferInstance) hK2 (ev_var rfl (ev_int ⟨pc, rfl, hf, fun y em gy g1 g2 g3 => ?_, fun nb => ⟨rfl, ?_⟩⟩))⟩))⟩)))))
      · exact hret _ y rfl (okM_iff.mpr ⟨by rw [em]; exact gy, g1, fun z => by omega, fun z => ⟨g2, g3⟩⟩) em
      · exact okM_not fun z => nb ⟨z.1, z.2.1, z.2.2.2 (.inl e)⟩
    have e2 := of_decide_eq_false h
    have e : so = 3 := by omega
    refine sx_set (α := Gau) (rα := inferInstance) (ev_lcN hB2 rfl (gauT tx) hX (ev_var rfl (ev_ixL (α := Int) (rα := inferInstance) hK2 (ev_var rfl (ev_int ⟨rd, rfl, ev_ixL (α := Int) (rα := inferInstance) hK2 (ev_var rfl (ev_int ⟨st, rfl, ev_ixL (α := Int) (rα := inferInstance) hK2 (ev_var rfl (ev_int ⟨lt, rfl, ev_ixL (α := Int) (rα := inferInstance) hK2 (ev_var rfl (ev_int ⟨pc, rfl, hf, fun y em gy g1 g2 g3 g4 => ?_, fun nb => ⟨rfl, ?_⟩⟩))⟩))⟩))⟩)))))
    · exact hret _ y rfl (okM_iff.mpr ⟨by rw [em]; exact gy, g1, fun z => g2, fun z => ⟨g3, g4⟩⟩) em
    · exact okM_not fun z => nb ⟨z.1, z.2.1, z.2.2.1 (.inr e), z.2.2.2 (.inr e)⟩
  · obtain ⟨rfl, hn⟩ := hn
    rw [hn, if_neg Bool.false_ne_true] at hp
    refine ⟨exm_at hB rfl tx.xm_BadGauge_BadGauge, ?_⟩
    walk_at "g"
    refine isF_in hB rfl tx.ec_BadGauge rel_ref tx.kit_BadGauge_GaugeError ?_
    refine ⟨fun h => (nomatch h), fun _ => ?_⟩
    walk_at "g"
    refine isF_in hB rfl tx.ec_BadGauge rel_ref tx.kit_BadGauge_DuplicateGauge ?_
    refine ⟨fun h => (nomatch h), fun _ => sx_next ?_⟩
    exact sx_ret (α := Rs) (rα := inferInstance) (ev_rsL (ev_lst (el_cons (ev_xfN (xcl_of hB rfl) (ev_var rfl ⟨⟨rfl, rfl⟩, m, by simp [List.lookup], el_nil ⟨by show 1 ≤ 100000; decide, m, rfl, hp⟩⟩)))))
def spLaw (K : PySem.W.Frag) : Sp := fun vs H Q _ => ∃ (a : Addr) (ns : List Int), vs = [.ref a] ∧ SqL K H a (ns.map V.int) ∧ ns.length ≤ 63 ∧ ∀ H', Q (.bl true) H'
structure BadNm (m : Nm) : Prop where
  fine : fineN m
  bad : gnN m = false
  ok : Dat.good m
theorem fine_s {x : Str} (hl : x.length ≤ 30) (hc : ∀ c ∈ x.cps.toList, c < 128) : fineN (.s x) ∧ Dat.good (Nm.s x) := by
  refine ⟨⟨repr_small (fun c h => Nat.lt_trans (hc c h) (by decide)) (by omega), by omega⟩, fun y e => ?_⟩
  rcases e with e | e
  · cases e
    show PyData.strOk x = true
    unfold PyData.strOk
    rw [← Array.all_toList, List.all_eq_true]
    intro c h
    have := hc c h
    exact decide_eq_true (by omega)
  · cases e
theorem bad_s {x : Str} (hl : x.length ≤ 30) (hc : ∀ c ∈ x.cps.toList, c < 128) (hb : gnB x = false) : BadNm (.s x) := ⟨(fine_s hl hc).1, hb, (fine_s hl hc).2⟩
theorem gnB_long {x : Str} (h : 12 < x.length) : gnB x = false := by
  unfold gnB
  rw [decide_eq_false (by omega : ¬ (x.length : Int) ≤ 12), Bool.and_false, Bool.false_and, Bool.and_false]
theorem gnB_sign {x : Str} {c : Nat} (h : c ∈ x.cps.toList) (hc : c ∉ (Str.ofString "abcdefghijklmnopqrstuvwxyz").cps.toList) : gnB x = false := by
  have e : (x.cps.toList.map fun c => decide (c ∈ (Str.ofString "abcdefghijklmnopqrstuvwxyz").cps.toList)).all id = false := by
    rw [List.all_eq_false]
    exact ⟨false, List.mem_map.mpr ⟨c, h, decide_eq_false hc⟩, by simp⟩
  unfold gnB
  rw [e, Bool.and_false, Bool.and_false]
def sp14 (w : Str) (n : Nat) (c : Str) : Str := (⟨(w.cps.toList.take n).toArray⟩ : Str) ++ c ++ (⟨(w.cps.toList.drop (n + 1)).toArray⟩ : Str)
theorem app_cps (a b : Str) : (a ++ b).cps.toList = a.cps.toList ++ b.cps.toList := Array.toList_append
theorem sp14_cps (w : Str) (n : Nat) (c : Str) : (sp14 w n c).cps.toList = w.cps.toList.take n ++ c.cps.toList ++ w.cps.toList.drop (n + 1) := by
  unfold sp14
  rw [app_cps, app_cps]
theorem wlen (w : Str) : w.cps.toList.length = w.length := Array.length_toList
theorem bad_sp {w : Str} (hw : GoodW w) (n : Nat) {c : Str} {d : Nat} (hc : c.cps.toList = [d]) (hd : d < 128) (hn : d ∉ (Str.ofString "abcdefghijklmnopqrstuvwxyz").cps.toList) : BadNm (.s (sp14 w n c)) := by
  obtain ⟨h1, h2, h3, _⟩ := hw
  refine bad_s ?_ (fun x hx => ?_) (gnB_sign (c := d) ?_ hn)
  · rw [← wlen, sp14_cps, hc, List.length_append, List.length_append, List.length_take, List.length_drop, wlen]
    show _ + 1 + _ ≤ 30
    omega
  · rw [sp14_cps, hc] at hx
    rcases List.mem_append.mp hx with hx | hx
    · rcases List.mem_append.mp hx with hx | hx
      · have := (h3 x (List.mem_of_mem_take hx)).2
        omega
      · rw [List.mem_singleton.mp hx]
        exact hd
    · have := (h3 x (List.mem_of_mem_drop hx)).2
      omega
  · rw [sp14_cps, hc]
    simp
theorem ev_sp14 {W : Wd} {Γ : Gam} {k : Str → Prop} {w : Str} {n : Nat} {c : Str} (h2 : Γ[2]? = some (some (T w))) (h3 : Γ[3]? = some (some (T (n : Int)))) (hw : w.length ≤ 12) (hn : n < w.length) (hc : c.length ≤ 10) (q : k (sp14 w n c)) :
    EvK W (tOp (fun x y H Q => ∃ i j, x = .str i ∧ y = .str j ∧ i.length + j.length ≤ sizeLine ∧ Q (.str (i ++ j)) H) (tOp (fun x y H Q => ∃ i j, x = .str i ∧ y = .str j ∧ i.length + j.length ≤ sizeLine ∧ Q (.str (i ++ j)) H) (tSl rSlS (tVar 2) tNoPart (tPart (tVar 3))) (tC (.str c))) (tSl rSlS (tVar 2) (tPart (tOp (rI0 fun i j => V.int (i + j)) (tVar 3) (tC (.int 1)))) tNoPart)) Γ k := by
  have l1 : (⟨(w.cps.toList.take n).toArray⟩ : Str).length ≤ 12 := by
    rw [← wlen]
    show (w.cps.toList.take n).length ≤ 12
    rw [List.length_take]
    have := wlen w
    omega
  refine ev_addS (ev_addS (ev_slSto (ev_var h2 (ev_var h3 ⟨⟨by omega, by omega, by omega⟩, ev_str ⟨?_, ?_⟩⟩))))
  · rw [Int.toNat_natCast]
    omega
  refine ev_slSfrom (ev_var h2 (ev_opI (ev_var h3 (ev_int ⟨⟨by omega, by omega, by omega⟩, ?_, ?_⟩))))
  · rw [Int.toNat_natCast, Str.length_append]
    have l2 : (⟨(w.cps.toList.drop ((n : Int) + 1).toNat).toArray⟩ : Str).length ≤ 12 := by
      rw [← wlen]
      show (w.cps.toList.drop ((n : Int) + 1).toNat).length ≤ 12
      rw [List.length_drop]
      have := wlen w
      omega
    omega
  · rw [Int.toNat_natCast, show ((n : Int) + 1).toNat = n + 1 by omega]
    exact q
theorem worse14 {rd st lt pc : Int} (h0 : 0 ≤ rd) (h1 : 1 ≤ st) (h2 : 0 ≤ lt) (h3 : 0 ≤ pc) {so : Int} (hs : 0 ≤ so ∧ so ≤ 3) {k : Nat} (hk : k < 4) {z : Int} (hz : 0 ≤ z) {w : Str} (gw : gnB w = true) :
    ∃ rd' st' lt' pc', [rd, st, lt, pc].set k ((if decide ((k : Int) = 1) = true then 1 else 0) - 1 - z) = [rd', st', lt', pc'] ∧ ∃ as, atI [[(0 : Int)], [0, 1], [0, 2, 3], [0, 1, 2, 3]] so = some as ∧ okM so (.s w) rd' st' lt' pc' = !decide ((k : Int) ∈ as) := by
  have hg : gnN (.s w) = true := gw
  have e1 : so = 0 ∨ so = 1 ∨ so = 2 ∨ so = 3 := by omega
  have e2 : k = 0 ∨ k = 1 ∨ k = 2 ∨ k = 3 := by omega
  rcases e1 with rfl | rfl | rfl | rfl <;> rcases e2 with rfl | rfl | rfl | rfl <;> refine ⟨_, _, _, _, rfl, _, rfl, ?_⟩ <;> simp [okM, hg] <;> omega
theorem ok_law' (tx : Txt K mg A) {fd : FuncData} (F : Fun K "law" "law" s_law A.f_law fd) : FnOk P w K mg base CX0 10 A.f_law fd ["_law_script"] (spLaw K) := by
  have G_box := ok_box (P := P) (w := w) (base := base) tx
  have G_words := ok_words (P := P) (w := w) (base := base) tx
  have G_take := ok_take (P := P) (w := w) (base := base) tx
  have G_made := ok_made (P := P) (w := w) (base := base) tx
  refine F.ok sc_law (fun vs H Q E h => ?_) (fun cdv Ar outer s H vs Q E hr h => ?_)
  · obtain ⟨a, ns, rfl, _⟩ := h; rfl
  · refine ⟨_, (pss_cons (ps_set (i := 1) sc_law.nd rfl (Or.inl rfl) (pe_callR G_box (room hr) rfl (tx.g_box).g (tx.g_box).kp pass0 (pa_cons (pv 0) (pa_cons pe_int pa_nil))))
        (pss_cons (ps_set (i := 2) sc_law.nd rfl (Or.inl rfl) (pe_ix (ix_listK K) (pe_callR G_words (room hr) rfl (tx.g_words).g (tx.g_words).kp pass0 (pa_cons (pv 1) (pa_cons pe_int pa_nil))) pe_int (fun _ _ => rfl)))
        (pss_cons (ps_set (i := 3) sc_law.nd rfl (Or.inl rfl) (pe_callR G_take (room hr) rfl (tx.g_take).g (tx.g_take).kp pass0 (pa_cons (pv 1) (pa_cons (pe_callB call_len_str (by rfl) tx.z_len PySem.boot_len (pa_cons (pv 2) pa_nil)) pa_nil))))
        (pss_cons (ps_set (i := 4) sc_law.nd rfl (Or.inl rfl) (pe_lst (pa_cons pe_str (pa_cons (pe_op op_add_str (pv 2) pe_str) (pa_cons (pe_op op_add_str (pe_op op_add_str (pe_slice sl_str (pv 2) po_none (po_some (pv 3))) pe_str) (pe_slice sl_str (pv 2) (po_some (pe_op op_add (pv 3) pe_int)) po_none)) (pa_cons (pe_op op_add_str (pe_op op_add_str (pe_slice sl_str (pv 2) po_none (po_some (pv 3))) pe_str) (pe_slice sl_str (pv 2) (po_some (pe_op op_add (pv 3) pe_int)) po_none)) pa_nil))))))
        (pss_cons (ps_set (i := 4) sc_law.nd rfl (Or.inl rfl) (pe_op op_cat (pv 4) (pe_lst (pa_cons (pe_op op_add_str (pe_op op_add_str (pe_slice sl_str (pv 2) po_none (po_some (pv 3))) pe_str) (pe_slice sl_str (pv 2) (po_some (pe_op op_add (pv 3) pe_int)) po_none)) (pa_cons (pe_op op_add_str (pe_op op_add_str (pe_slice sl_str (pv 2) po_none (po_some (pv 3))) pe_str) (pe_slice sl_str (pv 2) (po_some (pe_op op_add (pv 3) pe_int)) po_none)) (pa_cons pe_str (pa_cons pe_str pa_nil)))))))
        (pss_cons (ps_set (i := 4) sc_law.nd rfl (Or.inl rfl) (pe_op op_cat (pv 4) (pe_lst (pa_cons pe_str (pa_cons pe_str pa_nil)))))
        (pss_cons (ps_set (i := 4) sc_law.nd rfl (Or.inl rfl) (pe_op op_cat (pv 4) (pe_lst (pa_cons pe_non (pa_cons pe_int (pa_cons (pe_tup (pa_cons pe_str pa_nil)) (pa_cons pe_str (pa_cons (pe_op op_add_str (pe_op op_add_str (pe_slice sl_str (pv 2) po_none (po_some (pv 3))) pe_str) (pe_slice sl_str (pv 2) (po_some (pe_op op_add (pv 3) pe_int)) po_none)) pa_nil))))))))
        (pss_cons (ps_set (i := 4) sc_law.nd rfl (Or.inl rfl) (pe_op op_cat (pv 4) (pe_lst (pa_cons (pe_op op_add_str (pe_op op_add_str (pe_slice sl_str (pv 2) po_none (po_some (pv 3))) pe_str) (pe_slice sl_str (pv 2) (po_some (pe_op op_add (pv 3) pe_int)) po_none)) pa_nil))))
        (pss_cons (ps_set (i := 5) sc_law.nd rfl (Or.inl rfl) (pe_lst (pa_cons (pv 2) (pa_cons pe_str (pa_cons pe_str (pa_cons pe_str (pa_cons pe_str (pa_cons pe_str (pa_cons pe_str (pa_cons pe_str (pa_cons pe_str (pa_cons pe_str pa_nil))))))))))))
        (pss_cons (ps_set (i := 6) sc_law.nd rfl (Or.inl rfl) (pe_lst (pa_cons (pe_lst (pa_cons pe_int (pa_cons pe_int (pa_cons pe_int (pa_cons pe_int pa_nil))))) (pa_cons (pe_lst (pa_cons (pe_callR G_take (room hr) rfl (tx.g_take).g (tx.g_take).kp pass0 (pa_cons (pv 1) (pa_cons pe_int pa_nil))) (pa_cons (pe_op op_add pe_int (pe_callR G_take (room hr) rfl (tx.g_take).g (tx.g_take).kp pass0 (pa_cons (pv 1) (pa_cons pe_int pa_nil)))) (pa_cons (pe_callR G_take (room hr) rfl (tx.g_take).g (tx.g_take).kp pass0 (pa_cons (pv 1) (pa_cons pe_int pa_nil))) (pa_cons (pe_callR G_take (room hr) rfl (tx.g_take).g (tx.g_take).kp pass0 (pa_cons (pv 1) (pa_cons pe_int pa_nil))) pa_nil))))) pa_nil))))
        (pss_cons (ps_for PassesOwn.never rfl (pi_range1 (by rfl) tx.z_range (pa_cons pe_int pa_nil)) (pg_name (i := 7) sc_law.nd rfl (Or.inl rfl)) (pss_one (ps_for PassesOwn.never rfl (pi_listK K (pv 6)) (pg_name (i := 8) sc_law.nd rfl (Or.inl rfl)) (pss_cons (ps_for PassesOwn.never rfl (pi_listK K (pv 5)) (pg_name (i := 9) sc_law.nd rfl (Or.inl rfl)) (pss_one (ps_if (pt_cmpR (op_neDK K (huD hr)) (pe_callR G_made (room hr) rfl (tx.g_made).g (tx.g_made).kp pass0 (pa_cons (pv 7) (pa_cons (pv 9) (pa_cons (pv 8) pa_nil)))) (pv 9) (nomark _)) (pss_one (ps_ret pe_bl)) pss_nil)))
        (pss_cons (ps_for PassesOwn.never rfl (pi_listK K (pv 4)) (pg_name (i := 9) sc_law.nd rfl (Or.inl rfl)) (pss_one (ps_if (pt_cmpR (op_neDK K (huD hr)) (pe_callR G_made (room hr) rfl (tx.g_made).g (tx.g_made).kp pass0 (pa_cons (pv 7) (pa_cons (pv 9) (pa_cons (pv 8) pa_nil)))) (pe_lst (pa_cons (pv 9) pa_nil)) (nomark _)) (pss_one (ps_ret pe_bl)) pss_nil)))
        (pss_one (ps_for PassesOwn.never rfl (pi_range1 (by rfl) tx.z_range (pa_cons pe_int pa_nil)) (pg_name (i := 10) sc_law.nd rfl (Or.inl rfl)) (pss_cons (ps_set (i := 11) sc_law.nd rfl (Or.inl rfl) (pe_callTy (call_list_ofK K) (by rfl) tx.z_list (by decide +kernel) (pa_cons (pv 8) pa_nil)))
        (pss_cons (ps_asg (pe_op op_sub (pe_op op_sub (pe_callTy call_int1 (by rfl) tx.z_int (by decide +kernel) (pa_cons (pe_cmpR (op_eqDK K (huD hr)) (pv 10) pe_int (nomark _)) pa_nil)) pe_int) (pe_callR G_take (room hr) rfl (tx.g_take).g (tx.g_take).kp pass0 (pa_cons (pv 1) (pa_cons pe_int pa_nil)))) (pg_sub (pv 11) (pv 10) set_list))
        (pss_cons (ps_set (i := 12) sc_law.nd rfl (Or.inl rfl) (pe_ix (ix_listK K) (pe_lst (pa_cons (pe_lst (pa_cons pe_int pa_nil)) (pa_cons (pe_lst (pa_cons pe_int (pa_cons pe_int pa_nil))) (pa_cons (pe_lst (pa_cons pe_int (pa_cons pe_int (pa_cons pe_int pa_nil)))) (pa_cons (pe_lst (pa_cons pe_int (pa_cons pe_int (pa_cons pe_int (pa_cons pe_int pa_nil))))) pa_nil))))) (pv 7) (fun _ _ => rfl)))
        (pss_cons (ps_set (i := 13) sc_law.nd rfl (Or.inl rfl) (pv 2))
        (pss_cons (ps_if (pt_cmpR (op_inSeqK K) (pv 10) (pv 12) rfl) (pss_one (ps_set (i := 13) sc_law.nd rfl (Or.inl rfl) (pe_lst (pa_cons (pv 2) pa_nil)))) pss_nil)
        (pss_one (ps_if (pt_cmpR (op_neDK K (huD hr)) (pe_callR G_made (room hr) rfl (tx.g_made).g (tx.g_made).kp pass0 (pa_cons (pv 7) (pa_cons (pv 2) (pa_cons (pv 11) pa_nil)))) (pv 13) (nomark _)) (pss_one (ps_ret pe_bl)) pss_nil))))))))))))))
        (pss_one (ps_ret pe_bl))))))))))))), ?_⟩
    try dsimp only [cxOf, Cx.nox]
    obtain ⟨a, ns, rfl, hS, hl, kq⟩ := h
    refine raw_seq (raw_asg ⟨_, rfl, a, ns, 114, rfl, hS, hl, fun b c H' hbc hb hc => ?_⟩)
    dsimp only
    refine law_run (B := bs K A) (j := 1) hbc hb hc (by exact rfl) kq fun W hB => ?_
    have hK : W.B.K = K := congrArg Bs.K hB
    show Sx W _ [none, some (T Bx.mk), none, none, none, none, none, none, none, none, none, none, none, none] _
    refine sx_seq (sx_set (α := Str) (rα := inferInstance) (ev_ixL (α := Str) (rα := inferInstance) hK (ev_callR hB (ea_cons (ev_var rfl (ea_cons (ev_int (ea_nil (pc_words ⟨by omega, by omega, fun ws hwl hwn hwg => ⟨_, rfl, ?_⟩⟩)))))))))
    obtain ⟨w, rfl⟩ : ∃ w, ws = [w] := by
      match ws, hwl with
      | [w], _ => exact ⟨w, rfl⟩
    have hw : GoodW w := hwg w (by simp)
    refine ev_int ⟨w, rfl, ?_⟩
    have hw1 : 1 ≤ w.length := hw.1
    have hw12 : w.length ≤ 12 := hw.2.1
    refine sx_seq (sx_set (α := Int) (rα := inferInstance) (ev_callR hB (ea_cons (ev_var rfl (ea_cons (ev_lenS (ev_var rfl ⟨by omega, ea_nil (pc_take ⟨by omega, by omega, fun n0 n1 n2 => ⟨_, rfl, ?_⟩⟩)⟩)))))))
    obtain ⟨n, rfl⟩ : ∃ a : Nat, n0 = a := ⟨n0.toNat, by omega⟩
    have hn : n < w.length := by omega
    have hwl1 : ∀ c ∈ w.cps.toList, c < 128 := fun c h => by
      have := (hw.2.2.1 c h).2
      omega
    refine sx_seq (sx_set (α := List Nm) (rα := inferInstance) (ev_lst (el_cons (ev_nmS (ev_str (el_cons (ev_nmS (ev_addS (ev_var rfl (ev_str ⟨?_, el_cons (ev_nmS (ev_sp14 rfl rfl hw12 hn (by decide +kernel) (el_cons (ev_nmS (ev_sp14 rfl rfl hw12 hn (by decide +kernel) (el_nil ⟨by show 4 ≤ 100000; decide, ?_⟩))))))⟩))))))))))
    · rw [show (Str.ofString "abcdefghijklm").length = 13 by decide +kernel]
      omega
    refine sx_seq (sx_set (α := List Nm) (rα := inferInstance) (ev_cat (ev_var rfl (ev_lst (el_cons (ev_nmS (ev_sp14 rfl rfl hw12 hn (by decide +kernel) (el_cons (ev_nmS (ev_sp14 rfl rfl hw12 hn (by decide +kernel) (el_cons (ev_nmS (ev_str (el_cons (ev_nmS (ev_str (el_nil ⟨by show 4 ≤ 100000; decide, by show 4 + 4 ≤ 100000; decide, ?_⟩)))))))))))))))))
    refine sx_seq (sx_set (α := List Nm) (rα := inferInstance) (ev_cat (ev_var rfl (ev_lst (el_cons (ev_nmS (ev_str (el_cons (ev_nmS (ev_str (el_nil ⟨by show 2 ≤ 100000; decide, by show 8 + 2 ≤ 100000; decide, ?_⟩)))))))))))
    refine sx_seq (sx_set (α := List Nm) (rα := inferInstance) (ev_cat (ev_var rfl (ev_lst (el_cons (ev_nmN (ev_non (el_cons (ev_nmI (ev_int (el_cons (ev_nmT (ev_str (el_cons (ev_nmS (ev_str (el_cons (ev_nmS (ev_sp14 rfl rfl hw12 hn (by decide +kernel) (el_nil ⟨by show 5 ≤ 100000; decide, by show 10 + 5 ≤ 100000; decide, ?_⟩))))))))))))))))))))
    refine sx_seq (sx_set (α := List Nm) (rα := inferInstance) (ev_cat (ev_var rfl (ev_lst (el_cons (ev_nmS (ev_sp14 rfl rfl hw12 hn (by decide +kernel) (el_nil ⟨by show 1 ≤ 100000; decide, by show 15 + 1 ≤ 100000; decide, ?_⟩))))))))
    have hbad : ∀ m ∈ ([.s "", .s (w ++ "abcdefghijklm"), .s (sp14 w n "A"), .s (sp14 w n "7")] ++ [.s (sp14 w n " "), .s (sp14 w n "_"), .s "rank", .s "trim"] ++ [.s "weigh", .s "together"] ++ [.n, .i 5, .t "a", .s "abcdefghijklm", .s (sp14 w n "{")] ++ [.s (sp14 w n "`")] : List Nm), BadNm m := by
      intro m hm
      simp only [List.mem_append, List.mem_cons, List.not_mem_nil, or_false] at hm
      rcases hm with ((((rfl | rfl | rfl | rfl) | (rfl | rfl | rfl | rfl)) | (rfl | rfl)) | (rfl | rfl | rfl | rfl | rfl)) | rfl
      · exact bad_s (by decide +kernel) (by decide +kernel) (by decide +kernel)
      · have e13 : (Str.ofString "abcdefghijklm").length = 13 := by decide +kernel
        have el := Str.length_append w (Str.ofString "abcdefghijklm")
        refine bad_s (by omega) (fun c h => ?_) (gnB_long (by omega))
        rw [app_cps] at h
        rcases List.mem_append.mp h with h | h
        · exact hwl1 c h
        · exact (by decide +kernel : ∀ c ∈ (Str.ofString "abcdefghijklm").cps.toList, c < 128) c h
      · exact bad_sp hw n (d := 65) (by decide +kernel) (by decide) (by decide +kernel)
      · exact bad_sp hw n (d := 55) (by decide +kernel) (by decide) (by decide +kernel)
      · exact bad_sp hw n (d := 32) (by decide +kernel) (by decide) (by decide +kernel)
      · exact bad_sp hw n (d := 95) (by decide +kernel) (by decide) (by decide +kernel)
      · exact bad_s (by decide +kernel) (by decide +kernel) (by decide +kernel)
      · exact bad_s (by decide +kernel) (by decide +kernel) (by decide +kernel)
      · exact bad_s (by decide +kernel) (by decide +kernel) (by decide +kernel)
      · exact bad_s (by decide +kernel) (by decide +kernel) (by decide +kernel)
      · exact ⟨trivial, rfl, fun x e => by rcases e with e | e <;> cases e⟩
      · exact ⟨Small.of (by decide) (by decide), rfl, fun x e => by rcases e with e | e <;> cases e⟩
      · refine ⟨⟨by decide +kernel, by decide +kernel⟩, rfl, fun x e => ?_⟩
        rcases e with e | e
        · cases e
        · cases e
          exact strOk_of _
      · exact bad_s (by decide +kernel) (by decide +kernel) (by decide +kernel)
      · exact bad_sp hw n (d := 123) (by decide +kernel) (by decide) (by decide +kernel)
      · exact bad_sp hw n (d := 96) (by decide +kernel) (by decide) (by decide +kernel)
    show Sx W _ [none, some (T Bx.mk), some (T w), some (T (n : Int)), some (T ([.s "", .s (w ++ "abcdefghijklm"), .s (sp14 w n "A"), .s (sp14 w n "7")] ++ [.s (sp14 w n " "), .s (sp14 w n "_"), .s "rank", .s "trim"] ++ [.s "weigh", .s "together"] ++ [.n, .i 5, .t "a", .s "abcdefghijklm", .s (sp14 w n "{")] ++ [.s (sp14 w n "`")] : List Nm)), none, none, none, none, none, none, none, none, none] _
    generalize ([.s "", .s (w ++ "abcdefghijklm"), .s (sp14 w n "A"), .s (sp14 w n "7")] ++ [.s (sp14 w n " "), .s (sp14 w n "_"), .s "rank", .s "trim"] ++ [.s "weigh", .s "together"] ++ [.n, .i 5, .t "a", .s "abcdefghijklm", .s (sp14 w n "{")] ++ [.s (sp14 w n "`")] : List Nm) = bad at hbad
    refine sx_seq (sx_set (α := List Str) (rα := inferInstance) (ev_lst (el_cons (ev_var rfl (el_cons (ev_str (el_cons (ev_str (el_cons (ev_str (el_cons (ev_str (el_cons (ev_str (el_cons (ev_str (el_cons (ev_str (el_cons (ev_str (el_cons (ev_str (el_nil ⟨by show 10 ≤ 100000; decide, ?_⟩)))))))))))))))))))))))
    have hfair : ∀ x ∈ ([w, "abcdefghijkl", "ranks", "tri", "trims", "weighs", "togethe", "togethers", "az", "z"] : List Str), gnB x = true ∧ fineN (.s x) ∧ Dat.good (Nm.s x) := by
      intro x hx
      simp only [List.mem_cons, List.not_mem_nil, or_false] at hx
      rcases hx with rfl | rfl | rfl | rfl | rfl | rfl | rfl | rfl | rfl | rfl
      · exact ⟨gnB_good hw, fine_s (by omega) hwl1⟩
      all_goals exact ⟨by decide +kernel, fine_s (by decide +kernel) (by decide +kernel)⟩
    show Sx W _ [none, some (T Bx.mk), some (T w), some (T (n : Int)), some (T bad), some (T ([w, "abcdefghijkl", "ranks", "tri", "trims", "weighs", "togethe", "togethers", "az", "z"] : List Str)), none, none, none, none, none, none, none, none] _
    generalize ([w, "abcdefghijkl", "ranks", "tri", "trims", "weighs", "togethe", "togethers", "az", "z"] : List Str) = fair at hfair
    refine sx_seq (sx_set (α := List (List Int)) (rα := inferInstance) (ev_lst (el_cons (ev_lst (el_cons (ev_int (el_cons (ev_int (el_cons (ev_int (el_cons (ev_int (el_nil ⟨by show 4 ≤ 100000; decide, ?_⟩)))))))))))))
    refine el_cons (ev_lst (el_cons (ev_callR hB (ea_cons (ev_var rfl (ea_cons (ev_int (ea_nil (pc_take ⟨by decide, by decide, fun r r0 r1 => ⟨_, rfl, el_cons (ev_opI (ev_int (ev_callR hB (ea_cons (ev_var rfl (ea_cons (ev_int (ea_nil (pc_take ⟨by decide, by decide, fun s s0 s1 => ⟨_, rfl, el_cons (ev_callR hB (ea_cons (ev_var rfl (ea_cons (ev_int (ea_nil (pc_take ⟨by decide, by decide, fun l l0 l1 => ⟨_, rfl, el_cons (ev_callR hB (ea_cons (ev_var rfl (ea_cons (ev_int (ea_nil (pc_take ⟨by decide, by decide, fun p p0 p1 => ⟨_, rfl, el_nil ⟨by show 4 ≤ 100000; decide, el_nil ⟨by show 2 ≤ 100000; decide, ?_⟩⟩⟩⟩)))))))⟩⟩)))))))⟩⟩)))))))))⟩⟩)))))))))
    have hfine : ∀ ns ∈ ([[0, 1, 0, 0], [r, 1 + s, l, p]] : List (List Int)), ∃ rd st lt pc : Int, ns = [rd, st, lt, pc] ∧ 0 ≤ rd ∧ 1 ≤ st ∧ 0 ≤ lt ∧ 0 ≤ pc := by
      intro ns h
      simp only [List.mem_cons, List.not_mem_nil, or_false] at h
      rcases h with rfl | rfl
      · exact ⟨0, 1, 0, 0, rfl, by decide, by decide, by decide, by decide⟩
      · exact ⟨r, 1 + s, l, p, rfl, by omega, by omega, by omega, by omega⟩
    show Sx W _ [none, some (T Bx.mk), some (T w), some (T (n : Int)), some (T bad), some (T fair), some (T ([[0, 1, 0, 0], [r, 1 + s, l, p]] : List (List Int))), none, none, none, none, none, none, none] _
    generalize ([[0, 1, 0, 0], [r, 1 + s, l, p]] : List (List Int)) = fine at hfine
    refine sx_seq (sx_forR (ev_int ⟨⟨by decide, by decide⟩, fun i Γ' => ∃ (o7 o8 o9 o10 o11 o12 o13 : Option G.Ty), Γ' = [none, some (T Bx.mk), some (T w), some (T (n : Int)), some (T bad), some (T fair), some (T fine), o7, o8, o9, o10, o11, o12, o13], ⟨none, none, none, none, none, none, none, rfl⟩, ?_, ?_⟩))
    · rintro so Γ' hso ⟨o7, o8, o9, o10, o11, o12, o13, rfl⟩
      have hso3 : (0 : Int) ≤ (so : Int) ∧ (so : Int) ≤ 3 := by
        have : so < 4 := hso
        omega
      refine tg_name ?_
      refine sx_forL (α := List Int) (rα := inferInstance) hK (ev_var rfl ⟨fun i Γ' => ∃ (o8 o9 o10 o11 o12 o13 : Option G.Ty), Γ' = [none, some (T Bx.mk), some (T w), some (T (n : Int)), some (T bad), some (T fair), some (T fine), some (T (so : Int)), o8, o9, o10, o11, o12, o13], ⟨_, _, _, _, _, _, rfl⟩, ?_, ?_⟩)
      · rintro i ns Γ' hns ⟨o8, o9, o10, o11, o12, o13, rfl⟩
        obtain ⟨rd, st, lt, pc, rfl, f0, f1, f2, f3⟩ := hfine ns (List.mem_of_getElem? hns)
        refine tg_name ?_
        refine sx_seq (sx_forL (α := Str) (rα := inferInstance) hK (ev_var rfl ⟨fun i Γ' => ∃ (o9 o10 o11 o12 o13 : Option G.Ty), Γ' = [none, some (T Bx.mk), some (T w), some (T (n : Int)), some (T bad), some (T fair), some (T fine), some (T (so : Int)), some (T ([rd, st, lt, pc] : List Int)), o9, o10, o11, o12, o13], ⟨_, _, _, _, _, rfl⟩, ?_, ?_⟩))
        · rintro i x Γ' hx ⟨o9, o10, o11, o12, o13, rfl⟩
          obtain ⟨gx, fx, dx⟩ := hfair x (List.mem_of_getElem? hx)
          refine tg_name ?_
          refine sx_if (et_test (ev_neG (α := Rs) (rα := inferInstance) hK (ev_callR hB (ea_cons (ev_var rfl (ea_cons (ev_nmS (ev_var rfl (ea_cons (ev_var rfl (ea_nil (pc_made ⟨hso3, fx, _, rfl, ev_rs1 (ev_nmS (ev_var rfl ?_))⟩))))))))))))
          rw [if_pos ((okM_iff (m := .s x)).mpr ⟨gx, f0, fun _ => f1, fun _ => ⟨f2, f3⟩⟩)]
          refine neg_in (by decide) dx dx ?_
          rw [decide_eq_true rfl]
          exact ⟨fun h => (nomatch h), fun _ => sx_next ⟨_, _, _, _, _, rfl⟩⟩
        rintro Γ' ⟨o9, o10, o11, o12, o13, rfl⟩
        refine sx_seq (sx_forL (α := Nm) (rα := inferInstance) hK (ev_var rfl ⟨fun i Γ' => ∃ (o9 o10 o11 o12 o13 : Option G.Ty), Γ' = [none, some (T Bx.mk), some (T w), some (T (n : Int)), some (T bad), some (T fair), some (T fine), some (T (so : Int)), some (T ([rd, st, lt, pc] : List Int)), o9, o10, o11, o12, o13], ⟨_, _, _, _, _, rfl⟩, ?_, ?_⟩))
        · rintro i x Γ' hx ⟨o9, o10, o11, o12, o13, rfl⟩
          obtain ⟨fx, gx, dx⟩ := hbad x (List.mem_of_getElem? hx)
          refine tg_name ?_
          refine sx_if (et_test (ev_neG (α := Rs) (rα := inferInstance) hK (ev_callR hB (ea_cons (ev_var rfl (ea_cons (ev_var rfl (ea_cons (ev_var rfl (ea_nil (pc_made ⟨hso3, fx, _, rfl, ev_rsL (ev_lst (el_cons (ev_var rfl (el_nil ⟨by show 1 ≤ 100000; decide, _, rfl, ?_⟩))))⟩)))))))))))
          rw [if_neg (fun h => by rw [(okM_iff.mp h).1] at gx; exact absurd gx (by decide))]
          refine neg_in (by decide) dx dx ?_
          rw [decide_eq_true rfl]
          exact ⟨fun h => (nomatch h), fun _ => sx_next ⟨_, _, _, _, _, rfl⟩⟩
        rintro Γ' ⟨o9, o10, o11, o12, o13, rfl⟩
        refine sx_forR (ev_int ⟨⟨by decide, by decide⟩, fun i Γ' => ∃ (o9 o10 o11 o12 o13 : Option G.Ty), Γ' = [none, some (T Bx.mk), some (T w), some (T (n : Int)), some (T bad), some (T fair), some (T fine), some (T (so : Int)), some (T ([rd, st, lt, pc] : List Int)), o9, o10, o11, o12, o13], ⟨_, _, _, _, _, rfl⟩, ?_, ?_⟩)
        · rintro k Γ' hk ⟨o9, o10, o11, o12, o13, rfl⟩
          have hk : k < 4 := hk
          refine tg_name ?_
          show Sx W _ [none, some (T Bx.mk), some (T w), some (T (n : Int)), some (T bad), some (T fair), some (T fine), some (T (so : Int)), some (T ([rd, st, lt, pc] : List Int)), o9, some (T (k : Int)), o11, o12, o13] _
          refine sx_own fun F => ?_
          refine sxm_seq (sxm_new (β := Int) (rβ := inferInstance) fun Wo hW => ?_)
          have hBo : Wo.B = bs K A := hW.B.trans hB
          have hKo : Wo.B.K = K := congrArg Bs.K hBo
          refine evF_listOf hKo (ev_var rfl fun q us => ?_)
          show SxM W F _ [(q, us)] [none, some (T Bx.mk), some (T w), some (T (n : Int)), some (T bad), some (T fair), some (T fine), some (T (so : Int)), some (T ([rd, st, lt, pc] : List Int)), o9, some (T (k : Int)), some (T (Ol.mk q us ([rd, st, lt, pc] : List Int))), o12, o13] _
          refine sxm_seq (sxm_put (α := Int) (rα := inferInstance) 0 rfl rfl fun Wo hW => ?_)
          have hBo : Wo.B = bs K A := hW.B.trans hB
          have hKo : Wo.B.K = K := congrArg Bs.K hBo
          refine ev_opI (ev_opI (ev_intB (ev_eqG (α := Int) (rα := inferInstance) hKo (ev_var rfl (ev_int (eqg_in (by decide) trivial trivial ?_))))))
          refine ev_int (ev_callR hBo (ea_cons (ev_var rfl (ea_cons (ev_int (ea_nil (pc_take ⟨by decide, by decide, fun z z0 z1 => ⟨_, rfl, ?_⟩⟩)))))))
          refine ev_var rfl ⟨k, by unfold ixN; rw [if_pos (by omega), if_pos (by show (k : Int) < 4; omega), Int.toNat_natCast], fun v1 => ?_⟩
          refine sxm_freeze (Γ' := [none, some (T Bx.mk), some (T w), some (T (n : Int)), some (T bad), some (T fair), some (T fine), some (T (so : Int)), some (T ([rd, st, lt, pc] : List Int)), o9, some (T (k : Int)), some (T ([rd, st, lt, pc].set k ((if decide ((k : Int) = 1) = true then 1 else 0) - 1 - z) : List Int)), o12, o13]) (by walk_at "frz") ?_
          obtain ⟨rd', st', lt', pc', hset, as, hat, hok⟩ := worse14 f0 f1 f2 f3 hso3 hk z0 (gnB_good hw)
          rw [hset]
          refine sxm_pure fun W2 hW2 => ?_
          have hB2 : W2.B = bs K A := hW2.B.trans hB
          have hK2 : W2.B.K = K := congrArg Bs.K hB2
          refine sx_seq (sx_set (α := List Int) (rα := inferInstance) (ev_ixL (α := List Int) (rα := inferInstance) hK2 (ev_lst ?_)))
          refine el_cons (ev_lst (el_cons (ev_int (el_nil ⟨by decide, ?_⟩))))
          refine el_cons (ev_lst (el_cons (ev_int (el_cons (ev_int (el_nil ⟨by decide, ?_⟩))))))
          refine el_cons (ev_lst (el_cons (ev_int (el_cons (ev_int (el_cons (ev_int (el_nil ⟨by decide, ?_⟩))))))))
          refine el_cons (ev_lst (el_cons (ev_int (el_cons (ev_int (el_cons (ev_int (el_cons (ev_int (el_nil ⟨by decide, el_nil ⟨by show 4 ≤ 100000; decide, ev_var rfl ⟨as, hat, ?_⟩⟩⟩))))))))))
          refine sx_seq (sx_set (α := Rs) (rα := inferInstance) (ev_rs1 (ev_nmS (ev_var rfl ?_))))
          refine sx_seqI (fun Γ' => Γ' = [none, some (T Bx.mk), some (T w), some (T (n : Int)), some (T bad), some (T fair), some (T fine), some (T (so : Int)), some (T ([rd, st, lt, pc] : List Int)), o9, some (T (k : Int)), some (T ([rd', st', lt', pc'] : List Int)), some (T as), some (T (if decide ((k : Int) ∈ as) = true then Rs.lst (.s w) else Rs.one (.s w)))]) ?_ ?_
          · refine sx_if (et_test (ev_inI hK2 (ev_var rfl (ev_var rfl ⟨fun h => ?_, fun h => ?_⟩))))
            · refine sx_set (α := Rs) (rα := inferInstance) (ev_rsL (ev_lst (el_cons (ev_nmS (ev_var rfl (el_nil ⟨by show 1 ≤ 100000; decide, _, rfl, ?_⟩))))))
              rw [h]
              rfl
            · refine sx_next ?_
              rw [h]
              rfl
          rintro _ rfl
          have hfw := fine_s (x := w) (by omega) hwl1
          refine sx_if (et_test (ev_neG (α := Rs) (rα := inferInstance) hK2 (ev_callR hB2 (ea_cons (ev_var rfl (ea_cons (ev_nmS (ev_var rfl (ea_cons (ev_var rfl (ea_nil (pc_made ⟨hso3, hfw.1, _, rfl, ev_var rfl ?_⟩))))))))))))
          rw [hok]
          cases hd : decide ((k : Int) ∈ as) with
          | true =>
            refine neg_in (by decide) hfw.2 hfw.2 ?_
            rw [decide_eq_true (show (if (!true) = true then Rs.one (.s w) else Rs.lst (.s w)) = (if true = true then Rs.lst (.s w) else Rs.one (.s w)) from rfl)]
            exact ⟨fun h => (nomatch h), fun _ => sx_next ⟨_, _, _, _, _, rfl⟩⟩
          | false =>
            refine neg_in (by decide) hfw.2 hfw.2 ?_
            rw [decide_eq_true (show (if (!false) = true then Rs.one (.s w) else Rs.lst (.s w)) = (if false = true then Rs.lst (.s w) else Rs.one (.s w)) from rfl)]
            exact ⟨fun h => (nomatch h), fun _ => sx_next ⟨_, _, _, _, _, rfl⟩⟩
        · rintro Γ' ⟨o9, o10, o11, o12, o13, rfl⟩
          exact ⟨_, _, _, _, _, _, rfl⟩
      · rintro Γ' ⟨o8, o9, o10, o11, o12, o13, rfl⟩
        exact ⟨_, _, _, _, _, _, _, rfl⟩
    rintro Γ' ⟨o7, o8, o9, o10, o11, o12, o13, rfl⟩
    walk_at "g"
    rfl
end
theorem all_mk {l : PySem.W.OpenLaw} {w : World} {K : PySem.W.Frag} {h : Heap} {mg : Str → Option Value} {fa C_GaugeError C_BadGauge C_DuplicateGauge C_Gauge C_CoarseGauge C_LateGauge C_LateCoarseGauge f1 f2 f3 f4 f5 f6 f7 f8 f9 f10 f11 f12 k_BARRED : Addr} (X : K.In h) (G : h.Ns mainGlobals mg) (hfa : mg "law" = some (.ref fa))
    {od1 an1 : Option Addr} {sl1 : Array (Option Value)} {oc1 kV1 dc1 pm1 cd1 ct1 : Value} {od2 an2 : Option Addr} {sl2 : Array (Option Value)} {oc2 kV2 dc2 pm2 cd2 ct2 : Value} {od3 an3 : Option Addr} {sl3 : Array (Option Value)} {oc3 kV3 dc3 pm3 cd3 ct3 : Value} {od4 an4 : Option Addr} {sl4 : Array (Option Value)} {oc4 kV4 dc4 pm4 cd4 ct4 : Value} {od5 an5 : Option Addr} {sl5 : Array (Option Value)} {oc5 kV5 dc5 pm5 cd5 ct5 : Value} {od6 an6 : Option Addr} {sl6 : Array (Option Value)} {oc6 kV6 dc6 pm6 cd6 ct6 : Value} {od7 an7 : Option Addr} {sl7 : Array (Option Value)} {oc7 kV7 dc7 pm7 cd7 ct7 : Value} {od8 an8 : Option Addr} {sl8 : Array (Option Value)} {oc8 dc8 pm8 cd8 ct8 : Value} {od9 an9 : Option Addr} {sl9 : Array (Option Value)} {oc9 dc9 pm9 cd9 ct9 : Value} {od10 an10 : Option Addr} {sl10 : Array (Option Value)} {oc10 dc10 pm10 cd10 ct10 : Value} {od11 an11 : Option Addr} {sl11 : Array (Option Value)} {oc11 kV11 dc11 pm11 cd11 ct11 : Value} {od12 an12 : Option Addr} {sl12 : Array (Option Value)} {oc12 kV12 dc12 pm12 cd12 ct12 : Value} {nmBadGauge qBadGauge : Str} {NBadGauge : Addr} {bsBadGauge : List Value} {snBadGauge : List Str} {subBadGauge : List Value} {abBadGauge : Bool} {colBadGauge : Option Bool} {ddBadGauge : Option Addr} {m0BadGauge m1BadGauge m2BadGauge m3BadGauge m5BadGauge : Option Value} {nmDuplicateGauge qDuplicateGauge : Str} {NDuplicateGauge : Addr} {bsDuplicateGauge : List Value} {snDuplicateGauge : List Str} {subDuplicateGauge : List Value} {abDuplicateGauge : Bool} {colDuplicateGauge : Option Bool} {ddDuplicateGauge : Option Addr} {m0DuplicateGauge m1DuplicateGauge m2DuplicateGauge m3DuplicateGauge m5DuplicateGauge : Option Value} {okBARRED : Option Addr} {nkBARRED : Nat} {skBARRED : Array (Option Value)} {tkBARRED0 tkBARRED1 tkBARRED2 tkBARRED3 : Tok} {tkLETTERS : Tok} {tk_Gauge_LONGEST : Tok} 
    (aC_GaugeError : PySem.W.nsIn K mainGlobals "GaugeError" = some (some (.ref C_GaugeError)))
    (aC_BadGauge : PySem.W.nsIn K mainGlobals "BadGauge" = some (some (.ref C_BadGauge)))
    (aC_DuplicateGauge : PySem.W.nsIn K mainGlobals "DuplicateGauge" = some (some (.ref C_DuplicateGauge)))
    (aC_Gauge : PySem.W.nsIn K mainGlobals "Gauge" = some (some (.ref C_Gauge)))
    (aC_CoarseGauge : PySem.W.nsIn K mainGlobals "CoarseGauge" = some (some (.ref C_CoarseGauge)))
    (aC_LateGauge : PySem.W.nsIn K mainGlobals "LateGauge" = some (some (.ref C_LateGauge)))
    (aC_LateCoarseGauge : PySem.W.nsIn K mainGlobals "LateCoarseGauge" = some (some (.ref C_LateCoarseGauge)))
    (a1 : PySem.W.nsIn K mainGlobals "_law_take" = some (some (.ref f1)))
    (l1 : K.lookup f1 = some ⟨oc1, od1, .func (PySem.W.fnOf "_law_take" "_law_take" (defArgs s_take) (defBody s_take) (defScope s_take) .none kV1 dc1 pm1 an1 cd1 ct1), sl1⟩)
    (c1 : PySem.W.codeIn K cd1 "_law_take" = true)
    (k1 : PySem.W.keepIn K (.ref f1) = true)
    (a2 : PySem.W.nsIn K mainGlobals "_law_box" = some (some (.ref f2)))
    (l2 : K.lookup f2 = some ⟨oc2, od2, .func (PySem.W.fnOf "_law_box" "_law_box" (defArgs s_box) (defBody s_box) (defScope s_box) .none kV2 dc2 pm2 an2 cd2 ct2), sl2⟩)
    (c2 : PySem.W.codeIn K cd2 "_law_box" = true)
    (k2 : PySem.W.keepIn K (.ref f2) = true)
    (a3 : PySem.W.nsIn K mainGlobals "_law_word" = some (some (.ref f3)))
    (l3 : K.lookup f3 = some ⟨oc3, od3, .func (PySem.W.fnOf "_law_word" "_law_word" (defArgs s_word) (defBody s_word) (defScope s_word) .none kV3 dc3 pm3 an3 cd3 ct3), sl3⟩)
    (c3 : PySem.W.codeIn K cd3 "_law_word" = true)
    (k3 : PySem.W.keepIn K (.ref f3) = true)
    (a4 : PySem.W.nsIn K mainGlobals "_law_words" = some (some (.ref f4)))
    (l4 : K.lookup f4 = some ⟨oc4, od4, .func (PySem.W.fnOf "_law_words" "_law_words" (defArgs s_words) (defBody s_words) (defScope s_words) .none kV4 dc4 pm4 an4 cd4 ct4), sl4⟩)
    (c4 : PySem.W.codeIn K cd4 "_law_words" = true)
    (k4 : PySem.W.keepIn K (.ref f4) = true)
    (a5 : PySem.W.nsIn K mainGlobals "is_gauge_name" = some (some (.ref f5)))
    (l5 : K.lookup f5 = some ⟨oc5, od5, .func (PySem.W.fnOf "is_gauge_name" "is_gauge_name" (defArgs s_m_is_gauge_name) (defBody s_m_is_gauge_name) (defScope s_m_is_gauge_name) .none kV5 dc5 pm5 an5 cd5 ct5), sl5⟩)
    (c5 : PySem.W.codeIn K cd5 "is_gauge_name" = true)
    (k5 : PySem.W.keepIn K (.ref f5) = true)
    (a6 : PySem.W.findIn K (.ref C_BadGauge) "__init__" = some (some (.ref f6)))
    (i6 : PySem.W.isFn K (.ref f6) = true)
    (l6 : K.lookup f6 = some ⟨oc6, od6, .func (PySem.W.fnOf "__init__" "BadGauge.__init__" (defArgs s_BadGauge_init) (defBody s_BadGauge_init) (defScope s_BadGauge_init) .none kV6 dc6 pm6 an6 cd6 ct6), sl6⟩)
    (c6 : PySem.W.codeIn K cd6 "BadGauge.__init__" = true)
    (k6 : PySem.W.keepIn K (.ref f6) = true)
    (ty_BadGauge : PySem.W.typeIn K (.ref f6) = some (.type "function"))
    (a7 : PySem.W.findIn K (.ref C_Gauge) "__init__" = some (some (.ref f7)))
    (i7 : PySem.W.isFn K (.ref f7) = true)
    (l7 : K.lookup f7 = some ⟨oc7, od7, .func (PySem.W.fnOf "__init__" "Gauge.__init__" (defArgs s_Gauge_init) (defBody s_Gauge_init) (defScope s_Gauge_init) .none kV7 dc7 pm7 an7 cd7 ct7), sl7⟩)
    (c7 : PySem.W.codeIn K cd7 "Gauge.__init__" = true)
    (k7 : PySem.W.keepIn K (.ref f7) = true)
    (mk_Gauge : PySem.W.makesIn K C_Gauge = true)
    (kc_Gauge : PySem.W.keepIn K (.ref C_Gauge) = true)
    (a8 : PySem.W.findIn K (.ref C_CoarseGauge) "__init__" = some (some (.ref f8)))
    (i8 : PySem.W.isFn K (.ref f8) = true)
    (l8 : K.lookup f8 = some ⟨oc8, od8, .func (PySem.W.fnOf "__init__" "CoarseGauge.__init__" (defArgs s_CoarseGauge_init) (defBody s_CoarseGauge_init) (defScope s_CoarseGauge_init) .none .none dc8 pm8 an8 cd8 ct8), sl8⟩)
    (c8 : PySem.W.codeIn K cd8 "CoarseGauge.__init__" = true)
    (k8 : PySem.W.keepIn K (.ref f8) = true)
    (mk_CoarseGauge : PySem.W.makesIn K C_CoarseGauge = true)
    (kc_CoarseGauge : PySem.W.keepIn K (.ref C_CoarseGauge) = true)
    (a9 : PySem.W.findIn K (.ref C_LateGauge) "__init__" = some (some (.ref f9)))
    (i9 : PySem.W.isFn K (.ref f9) = true)
    (l9 : K.lookup f9 = some ⟨oc9, od9, .func (PySem.W.fnOf "__init__" "LateGauge.__init__" (defArgs s_LateGauge_init) (defBody s_LateGauge_init) (defScope s_LateGauge_init) .none .none dc9 pm9 an9 cd9 ct9), sl9⟩)
    (c9 : PySem.W.codeIn K cd9 "LateGauge.__init__" = true)
    (k9 : PySem.W.keepIn K (.ref f9) = true)
    (mk_LateGauge : PySem.W.makesIn K C_LateGauge = true)
    (kc_LateGauge : PySem.W.keepIn K (.ref C_LateGauge) = true)
    (a10 : PySem.W.findIn K (.ref C_LateCoarseGauge) "__init__" = some (some (.ref f10)))
    (i10 : PySem.W.isFn K (.ref f10) = true)
    (l10 : K.lookup f10 = some ⟨oc10, od10, .func (PySem.W.fnOf "__init__" "LateCoarseGauge.__init__" (defArgs s_LateCoarseGauge_init) (defBody s_LateCoarseGauge_init) (defScope s_LateCoarseGauge_init) .none .none dc10 pm10 an10 cd10 ct10), sl10⟩)
    (c10 : PySem.W.codeIn K cd10 "LateCoarseGauge.__init__" = true)
    (k10 : PySem.W.keepIn K (.ref f10) = true)
    (mk_LateCoarseGauge : PySem.W.makesIn K C_LateCoarseGauge = true)
    (kc_LateCoarseGauge : PySem.W.keepIn K (.ref C_LateCoarseGauge) = true)
    (a11 : PySem.W.nsIn K mainGlobals "_law_made" = some (some (.ref f11)))
    (l11 : K.lookup f11 = some ⟨oc11, od11, .func (PySem.W.fnOf "_law_made" "_law_made" (defArgs s_made) (defBody s_made) (defScope s_made) .none kV11 dc11 pm11 an11 cd11 ct11), sl11⟩)
    (c11 : PySem.W.codeIn K cd11 "_law_made" = true)
    (k11 : PySem.W.keepIn K (.ref f11) = true)
    (a12 : PySem.W.nsIn K mainGlobals "law" = some (some (.ref f12)))
    (l12 : K.lookup f12 = some ⟨oc12, od12, .func (PySem.W.fnOf "law" "law" (defArgs s_law) (defBody s_law) (defScope s_law) .none kV12 dc12 pm12 an12 cd12 ct12), sl12⟩)
    (c12 : PySem.W.codeIn K cd12 "law" = true)
    (k12 : PySem.W.keepIn K (.ref f12) = true)
    (ge_ga : PySem.W.specialIn K (.ref C_GaugeError) "__getattribute__" = some (some (.builtin "type.__getattribute__")))
    (ge_rd : PySem.W.readsIn K C_GaugeError (.type "type") = true)
    (ge_at : PySem.W.findCls K (.ref C_GaugeError) (.type "type") "__init__" = some (.val (.builtin "ValueError.__init__")))
    (xL_BadGauge : K.lookup C_BadGauge = some (excClassObj nmBadGauge qBadGauge C_BadGauge NBadGauge bsBadGauge [.ref C_GaugeError, .type "ValueError", .type "Exception", .type "BaseException", .type "object"] true snBadGauge subBadGauge abBadGauge colBadGauge ddBadGauge m0BadGauge m1BadGauge m2BadGauge m3BadGauge m5BadGauge "ValueError.__new__"))
    (xsa_BadGauge : PySem.W.findIn K (.ref C_BadGauge) "__setattr__" = some (some (.builtin "object.__setattr__")))
    (xga_BadGauge : PySem.W.findIn K (.ref C_BadGauge) "__getattribute__" = some (some (.builtin "BaseException.__getattribute__")))
    (xgg_BadGauge : PySem.W.findIn K (.ref C_BadGauge) "__getattr__" = some none)
    (xkC_BadGauge : PySem.W.keepIn K (.ref C_BadGauge) = true)
    (xeC_BadGauge : PySem.W.subIn K (.ref C_BadGauge) (.type "BaseException") = some true)
    (xtC_BadGauge : PySem.W.typeIn K (.ref C_BadGauge) = some (.type "type"))
    (xhC_BadGauge : PySem.W.hasDictIn K C_BadGauge = true)
    (xic_BadGauge : PySem.W.isClsIn K C_BadGauge = true)
    (n_BadGauge_name : PySem.W.findIn K (.ref C_BadGauge) "name" = some none)
    (xs_BadGauge_BadGauge : PySem.W.subIn K (.ref C_BadGauge) (.ref C_BadGauge) = some true)
    (xL_DuplicateGauge : K.lookup C_DuplicateGauge = some (excClassObj nmDuplicateGauge qDuplicateGauge C_DuplicateGauge NDuplicateGauge bsDuplicateGauge [.ref C_GaugeError, .type "ValueError", .type "Exception", .type "BaseException", .type "object"] true snDuplicateGauge subDuplicateGauge abDuplicateGauge colDuplicateGauge ddDuplicateGauge m0DuplicateGauge m1DuplicateGauge m2DuplicateGauge m3DuplicateGauge m5DuplicateGauge "ValueError.__new__"))
    (xsa_DuplicateGauge : PySem.W.findIn K (.ref C_DuplicateGauge) "__setattr__" = some (some (.builtin "object.__setattr__")))
    (xga_DuplicateGauge : PySem.W.findIn K (.ref C_DuplicateGauge) "__getattribute__" = some (some (.builtin "BaseException.__getattribute__")))
    (xgg_DuplicateGauge : PySem.W.findIn K (.ref C_DuplicateGauge) "__getattr__" = some none)
    (xkC_DuplicateGauge : PySem.W.keepIn K (.ref C_DuplicateGauge) = true)
    (xeC_DuplicateGauge : PySem.W.subIn K (.ref C_DuplicateGauge) (.type "BaseException") = some true)
    (xtC_DuplicateGauge : PySem.W.typeIn K (.ref C_DuplicateGauge) = some (.type "type"))
    (xhC_DuplicateGauge : PySem.W.hasDictIn K C_DuplicateGauge = true)
    (xic_DuplicateGauge : PySem.W.isClsIn K C_DuplicateGauge = true)
    (n_DuplicateGauge_name : PySem.W.findIn K (.ref C_DuplicateGauge) "name" = some none)
    (pg_Gauge : PySem.W.plainGet K C_Gauge Str.empty = true)
    (hd_Gauge : PySem.W.hasDictIn K C_Gauge = true)
    (po_Gauge : PySem.W.plainOver K C_Gauge = true)
    (sa_Gauge : PySem.W.findIn K (.ref C_Gauge) "__setattr__" = some (some (.builtin "object.__setattr__")))
    (cc_Gauge : PySem.W.findIn K (.ref C_Gauge) "__class__" = some (some (.builtin "object.__class__")))
    (oc_s : PySem.W.specialIn K (.builtin "object.__class__") "__get__" = some (some (.builtin "getset_descriptor.__get__")))
    (oc_t : PySem.W.takesIn K (.builtin "object.__class__") = some true)
    (mo_Gauge : PySem.W.mroIn K C_Gauge (.type "object") = some true)
    (n_Gauge_name : PySem.W.findIn K (.ref C_Gauge) "name" = some none)
    (n_Gauge_radius : PySem.W.findIn K (.ref C_Gauge) "radius" = some none)
    (n_Gauge_step : PySem.W.findIn K (.ref C_Gauge) "step" = some none)
    (n_Gauge_late : PySem.W.findIn K (.ref C_Gauge) "late" = some none)
    (n_Gauge_pace : PySem.W.findIn K (.ref C_Gauge) "pace" = some none)
    (pg_CoarseGauge : PySem.W.plainGet K C_CoarseGauge Str.empty = true)
    (hd_CoarseGauge : PySem.W.hasDictIn K C_CoarseGauge = true)
    (po_CoarseGauge : PySem.W.plainOver K C_CoarseGauge = true)
    (sa_CoarseGauge : PySem.W.findIn K (.ref C_CoarseGauge) "__setattr__" = some (some (.builtin "object.__setattr__")))
    (cc_CoarseGauge : PySem.W.findIn K (.ref C_CoarseGauge) "__class__" = some (some (.builtin "object.__class__")))
    (mo_CoarseGauge : PySem.W.mroIn K C_CoarseGauge (.type "object") = some true)
    (n_CoarseGauge_name : PySem.W.findIn K (.ref C_CoarseGauge) "name" = some none)
    (n_CoarseGauge_radius : PySem.W.findIn K (.ref C_CoarseGauge) "radius" = some none)
    (n_CoarseGauge_step : PySem.W.findIn K (.ref C_CoarseGauge) "step" = some none)
    (n_CoarseGauge_late : PySem.W.findIn K (.ref C_CoarseGauge) "late" = some none)
    (n_CoarseGauge_pace : PySem.W.findIn K (.ref C_CoarseGauge) "pace" = some none)
    (pg_LateGauge : PySem.W.plainGet K C_LateGauge Str.empty = true)
    (hd_LateGauge : PySem.W.hasDictIn K C_LateGauge = true)
    (po_LateGauge : PySem.W.plainOver K C_LateGauge = true)
    (sa_LateGauge : PySem.W.findIn K (.ref C_LateGauge) "__setattr__" = some (some (.builtin "object.__setattr__")))
    (cc_LateGauge : PySem.W.findIn K (.ref C_LateGauge) "__class__" = some (some (.builtin "object.__class__")))
    (mo_LateGauge : PySem.W.mroIn K C_LateGauge (.type "object") = some true)
    (n_LateGauge_name : PySem.W.findIn K (.ref C_LateGauge) "name" = some none)
    (n_LateGauge_radius : PySem.W.findIn K (.ref C_LateGauge) "radius" = some none)
    (n_LateGauge_step : PySem.W.findIn K (.ref C_LateGauge) "step" = some none)
    (n_LateGauge_late : PySem.W.findIn K (.ref C_LateGauge) "late" = some none)
    (n_LateGauge_pace : PySem.W.findIn K (.ref C_LateGauge) "pace" = some none)
    (pg_LateCoarseGauge : PySem.W.plainGet K C_LateCoarseGauge Str.empty = true)
    (hd_LateCoarseGauge : PySem.W.hasDictIn K C_LateCoarseGauge = true)
    (po_LateCoarseGauge : PySem.W.plainOver K C_LateCoarseGauge = true)
    (sa_LateCoarseGauge : PySem.W.findIn K (.ref C_LateCoarseGauge) "__setattr__" = some (some (.builtin "object.__setattr__")))
    (cc_LateCoarseGauge : PySem.W.findIn K (.ref C_LateCoarseGauge) "__class__" = some (some (.builtin "object.__class__")))
    (mo_LateCoarseGauge : PySem.W.mroIn K C_LateCoarseGauge (.type "object") = some true)
    (n_LateCoarseGauge_name : PySem.W.findIn K (.ref C_LateCoarseGauge) "name" = some none)
    (n_LateCoarseGauge_radius : PySem.W.findIn K (.ref C_LateCoarseGauge) "radius" = some none)
    (n_LateCoarseGauge_step : PySem.W.findIn K (.ref C_LateCoarseGauge) "step" = some none)
    (n_LateCoarseGauge_late : PySem.W.findIn K (.ref C_LateCoarseGauge) "late" = some none)
    (n_LateCoarseGauge_pace : PySem.W.findIn K (.ref C_LateCoarseGauge) "pace" = some none)
    (xcc_BadGauge : PySem.W.findIn K (.ref C_BadGauge) "__class__" = some (some (.builtin "object.__class__")))
    (xmo_BadGauge : PySem.W.mroIn K C_BadGauge (.type "object") = some true)
    (xs_BadGauge_DuplicateGauge : PySem.W.subIn K (.ref C_BadGauge) (.ref C_DuplicateGauge) = some false)
    (xn_BadGauge_DuplicateGauge : (Value.ref C_BadGauge == Value.ref C_DuplicateGauge) = false)
    (xic_GaugeError : PySem.W.isClsIn K C_GaugeError = true)
    (xtC_GaugeError : PySem.W.typeIn K (.ref C_GaugeError) = some (.type "type"))
    (xs_BadGauge_GaugeError : PySem.W.subIn K (.ref C_BadGauge) (.ref C_GaugeError) = some true)
    (cg_CoarseGauge : PySem.W.specialIn K (.ref C_CoarseGauge) "__getattribute__" = some (some (.builtin "type.__getattribute__")))
    (cr_CoarseGauge : PySem.W.readsIn K C_CoarseGauge (.type "type") = true)
    (ca_CoarseGauge : PySem.W.findCls K (.ref C_CoarseGauge) (.type "type") "__init__" = some (.val (.ref f8)))
    (cg_Gauge : PySem.W.specialIn K (.ref C_Gauge) "__getattribute__" = some (some (.builtin "type.__getattribute__")))
    (cr_Gauge : PySem.W.readsIn K C_Gauge (.type "type") = true)
    (ca_Gauge : PySem.W.findCls K (.ref C_Gauge) (.type "type") "__init__" = some (.val (.ref f7)))
    (cg_LateGauge : PySem.W.specialIn K (.ref C_LateGauge) "__getattribute__" = some (some (.builtin "type.__getattribute__")))
    (cr_LateGauge : PySem.W.readsIn K C_LateGauge (.type "type") = true)
    (ca_LateGauge : PySem.W.findCls K (.ref C_LateGauge) (.type "type") "__init__" = some (.val (.ref f9)))
    (kg_BARRED : PySem.W.nsIn K mainGlobals "BARRED" = some (some (.ref k_BARRED)))
    (kt_BARRED : K.lookup k_BARRED = some ⟨.type "tuple", okBARRED, .seq #[.str "rank" tkBARRED0, .str "trim" tkBARRED1, .str "weigh" tkBARRED2, .str "together" tkBARRED3] nkBARRED, skBARRED⟩)
    (kg_LETTERS : PySem.W.nsIn K mainGlobals "LETTERS" = some (some (.str "abcdefghijklmnopqrstuvwxyz" tkLETTERS)))
    (kc_Gauge_LONGEST : PySem.W.findCls K (.ref C_Gauge) (.type "type") "LONGEST" = some (.val (.int 12 tk_Gauge_LONGEST)))
    (z_all : PySem.W.nsIn K mainGlobals "all" = some none)
    (z_int : PySem.W.nsIn K mainGlobals "int" = some none)
    (z_isinstance : PySem.W.nsIn K mainGlobals "isinstance" = some none)
    (z_len : PySem.W.nsIn K mainGlobals "len" = some none)
    (z_list : PySem.W.nsIn K mainGlobals "list" = some none)
    (z_range : PySem.W.nsIn K mainGlobals "range" = some none)
    (z_str : PySem.W.nsIn K mainGlobals "str" = some none) :
    ∃ fd : FuncData, (∀ (s : Shared) (v : Value), BindsTo s fd ⟨[v], []⟩ [("_law_script", v)]) ∧ ∀ base : Heap, K.In base → base.Ns mainGlobals mg → FnOk l.prog w K mg base CX0 10 fa fd ["_law_script"] (spLaw K) := by
  have e := hfa.symm.trans (PySem.W.mg_of X G a12)
  cases e
  have tx : Txt K mg ⟨C_GaugeError, C_BadGauge, C_DuplicateGauge, C_Gauge, C_CoarseGauge, C_LateGauge, C_LateCoarseGauge, f1, f2, f3, f4, f5, f6, f7, f8, f9, f10, f11, fa, k_BARRED⟩ := ⟨⟨⟨_, fun_mk (st := s_take) l1 c1 k1, (fun_mk (st := s_take) l1 c1 k1).binds (ps := ["_law_box_here", "_law_many"]) fun _ _ _ _ _ _ us hl => match us, hl with | [_, _], _ => rfl⟩, PySem.W.mg_of X G a1, k1⟩,
    ⟨⟨_, fun_mk (st := s_box) l2 c2 k2, (fun_mk (st := s_box) l2 c2 k2).binds (ps := ["_law_script", "_law_salt"]) fun _ _ _ _ _ _ us hl => match us, hl with | [_, _], _ => rfl⟩, PySem.W.mg_of X G a2, k2⟩,
    ⟨⟨_, fun_mk (st := s_word) l3 c3 k3, (fun_mk (st := s_word) l3 c3 k3).binds (ps := ["_law_number", "_law_many", "_law_back"]) fun _ _ _ _ _ _ us hl => match us, hl with | [_, _, _], _ => rfl⟩, PySem.W.mg_of X G a3, k3⟩,
    ⟨⟨_, fun_mk (st := s_words) l4 c4 k4, (fun_mk (st := s_words) l4 c4 k4).binds (ps := ["_law_box_here", "_law_many"]) fun _ _ _ _ _ _ us hl => match us, hl with | [_, _], _ => rfl⟩, PySem.W.mg_of X G a4, k4⟩,
    ⟨⟨_, fun_mk (st := s_m_is_gauge_name) l5 c5 k5, (fun_mk (st := s_m_is_gauge_name) l5 c5 k5).binds (ps := ["name"]) fun _ _ _ _ _ _ us hl => match us, hl with | [_], _ => rfl⟩, PySem.W.mg_of X G a5, k5⟩,
    ⟨_, fun_mk (st := s_BadGauge_init) l6 c6 k6, (fun_mk (st := s_BadGauge_init) l6 c6 k6).binds (ps := ["self", "name"]) fun _ _ _ _ _ _ us hl => match us, hl with | [_, _], _ => rfl⟩,
    a6,
    ty_BadGauge,
    ⟨_, fun_mk (st := s_Gauge_init) l7 c7 k7, (fun_mk (st := s_Gauge_init) l7 c7 k7).binds (ps := ["self", "name", "radius"]) fun _ _ _ _ _ _ us hl => match us, hl with | [_, _, _], _ => rfl⟩,
    ⟨mk_Gauge, a7, i7, kc_Gauge⟩,
    ⟨_, fun_mk (st := s_CoarseGauge_init) l8 c8 k8, kbn_mk fun s us ws l1 l2 => match us, ws, l1, l2 with | [_, _, _], [_], _, _ => .of_eq rfl⟩,
    ⟨mk_CoarseGauge, a8, i8, kc_CoarseGauge⟩,
    ⟨_, fun_mk (st := s_LateGauge_init) l9 c9 k9, kbn_mk fun s us ws l1 l2 => match us, ws, l1, l2 with | [_, _, _], [_, _], _, _ => .of_eq rfl⟩,
    ⟨mk_LateGauge, a9, i9, kc_LateGauge⟩,
    ⟨_, fun_mk (st := s_LateCoarseGauge_init) l10 c10 k10, kbn_mk fun s us ws l1 l2 => match us, ws, l1, l2 with | [_, _, _], [_, _, _], _, _ => .of_eq rfl⟩,
    ⟨mk_LateCoarseGauge, a10, i10, kc_LateCoarseGauge⟩,
    ⟨⟨_, fun_mk (st := s_made) l11 c11 k11, (fun_mk (st := s_made) l11 c11 k11).binds (ps := ["_law_sort", "_law_word_here", "_law_numbers"]) fun _ _ _ _ _ _ us hl => match us, hl with | [_, _, _], _ => rfl⟩, PySem.W.mg_of X G a11, k11⟩,
    ⟨⟨_, fun_mk (st := s_law) l12 c12 k12, (fun_mk (st := s_law) l12 c12 k12).binds (ps := ["_law_script"]) fun _ _ _ _ _ _ us hl => match us, hl with | [_], _ => rfl⟩, PySem.W.mg_of X G a12, k12⟩,
    PySem.W.mg_of X G aC_GaugeError,
    ⟨PySem.W.mg_of X G aC_GaugeError, ge_ga, ge_rd, ge_at⟩,
    PySem.W.mg_of X G aC_BadGauge,
    ⟨⟨nmBadGauge, qBadGauge, NBadGauge, bsBadGauge, _, snBadGauge, subBadGauge, abBadGauge, colBadGauge, ddBadGauge, m0BadGauge, m1BadGauge, m2BadGauge, m3BadGauge, m5BadGauge, xL_BadGauge, by rfl⟩, xsa_BadGauge, xeC_BadGauge, xtC_BadGauge, xkC_BadGauge⟩,
    ⟨xga_BadGauge, xgg_BadGauge, xeC_BadGauge, xhC_BadGauge⟩,
    n_BadGauge_name,
    exm_of xeC_BadGauge xic_BadGauge xtC_BadGauge xs_BadGauge_BadGauge,
    PySem.W.mg_of X G aC_DuplicateGauge,
    ⟨⟨nmDuplicateGauge, qDuplicateGauge, NDuplicateGauge, bsDuplicateGauge, _, snDuplicateGauge, subDuplicateGauge, abDuplicateGauge, colDuplicateGauge, ddDuplicateGauge, m0DuplicateGauge, m1DuplicateGauge, m2DuplicateGauge, m3DuplicateGauge, m5DuplicateGauge, xL_DuplicateGauge, by rfl⟩, xsa_DuplicateGauge, xeC_DuplicateGauge, xtC_DuplicateGauge, xkC_DuplicateGauge⟩,
    ⟨xga_DuplicateGauge, xgg_DuplicateGauge, xeC_DuplicateGauge, xhC_DuplicateGauge⟩,
    n_DuplicateGauge_name,
    PySem.W.mg_of X G aC_Gauge,
    ⟨pg_Gauge, hd_Gauge, po_Gauge, sa_Gauge⟩,
    ⟨⟨pg_Gauge, hd_Gauge, po_Gauge, sa_Gauge⟩, cc_Gauge, oc_s, oc_t, mo_Gauge⟩,
    n_Gauge_name,
    n_Gauge_radius,
    n_Gauge_step,
    n_Gauge_late,
    n_Gauge_pace,
    PySem.W.mg_of X G aC_CoarseGauge,
    ⟨pg_CoarseGauge, hd_CoarseGauge, po_CoarseGauge, sa_CoarseGauge⟩,
    ⟨⟨pg_CoarseGauge, hd_CoarseGauge, po_CoarseGauge, sa_CoarseGauge⟩, cc_CoarseGauge, oc_s, oc_t, mo_CoarseGauge⟩,
    n_CoarseGauge_name,
    n_CoarseGauge_radius,
    n_CoarseGauge_step,
    n_CoarseGauge_late,
    n_CoarseGauge_pace,
    PySem.W.mg_of X G aC_LateGauge,
    ⟨pg_LateGauge, hd_LateGauge, po_LateGauge, sa_LateGauge⟩,
    ⟨⟨pg_LateGauge, hd_LateGauge, po_LateGauge, sa_LateGauge⟩, cc_LateGauge, oc_s, oc_t, mo_LateGauge⟩,
    n_LateGauge_name,
    n_LateGauge_radius,
    n_LateGauge_step,
    n_LateGauge_late,
    n_LateGauge_pace,
    PySem.W.mg_of X G aC_LateCoarseGauge,
    ⟨pg_LateCoarseGauge, hd_LateCoarseGauge, po_LateCoarseGauge, sa_LateCoarseGauge⟩,
    ⟨⟨pg_LateCoarseGauge, hd_LateCoarseGauge, po_LateCoarseGauge, sa_LateCoarseGauge⟩, cc_LateCoarseGauge, oc_s, oc_t, mo_LateCoarseGauge⟩,
    n_LateCoarseGauge_name,
    n_LateCoarseGauge_radius,
    n_LateCoarseGauge_step,
    n_LateCoarseGauge_late,
    n_LateCoarseGauge_pace,
    ⟨xga_BadGauge, xgg_BadGauge, xeC_BadGauge, xhC_BadGauge, xcc_BadGauge, oc_s, oc_t, xmo_BadGauge⟩,
    kit_own xic_DuplicateGauge xtC_DuplicateGauge xs_BadGauge_DuplicateGauge (.inl xn_BadGauge_DuplicateGauge),
    kit_own xic_GaugeError xtC_GaugeError xs_BadGauge_GaugeError (.inr rfl),
    ⟨cg_CoarseGauge, cr_CoarseGauge, ca_CoarseGauge, k8⟩,
    ⟨cg_Gauge, cr_Gauge, ca_Gauge, k7⟩,
    ⟨cg_LateGauge, cr_LateGauge, ca_LateGauge, k9⟩,
    ⟨_, PySem.W.mg_of X G kg_BARRED, rfl⟩,
    fun H => .inr ⟨_, _, _, kt_BARRED, rfl, rfl, (show (4 : Nat) ≤ sizeLine by decide), (.cons ⟨_, rfl⟩ (.cons ⟨_, rfl⟩ (.cons ⟨_, rfl⟩ (.cons ⟨_, rfl⟩ .nil))))⟩,
    ⟨_, PySem.W.mg_of X G kg_LETTERS, ⟨_, rfl⟩⟩,
    ⟨cr_Gauge, cg_Gauge⟩,
    ⟨_, kc_Gauge_LONGEST, ⟨_, rfl⟩⟩,
    ⟨_, PySem.W.mg_of X G aC_Gauge, rfl⟩,
    PySem.W.mg_none_of X G z_all,
    PySem.W.mg_none_of X G z_int,
    PySem.W.mg_none_of X G z_isinstance,
    PySem.W.mg_none_of X G z_len,
    PySem.W.mg_none_of X G z_list,
    PySem.W.mg_none_of X G z_range,
    PySem.W.mg_none_of X G z_str⟩
  exact ⟨_, fun s v => .of_eq rfl, fun base _ _ => ok_law' tx (fun_mk (st := s_law) l12 c12 k12)⟩
def ac_GaugeError (K : PySem.W.Frag) : Addr := He.ga K "GaugeError"
def ac_BadGauge (K : PySem.W.Frag) : Addr := He.ga K "BadGauge"
def ac_DuplicateGauge (K : PySem.W.Frag) : Addr := He.ga K "DuplicateGauge"
def ac_Gauge (K : PySem.W.Frag) : Addr := He.ga K "Gauge"
def ac_CoarseGauge (K : PySem.W.Frag) : Addr := He.ga K "CoarseGauge"
def ac_LateGauge (K : PySem.W.Frag) : Addr := He.ga K "LateGauge"
def ac_LateCoarseGauge (K : PySem.W.Frag) : Addr := He.ga K "LateCoarseGauge"
def ak_BARRED (K : PySem.W.Frag) : Addr := He.ga K "BARRED"
def af_1 (K : PySem.W.Frag) : Addr := He.ga K "_law_take"
def af_2 (K : PySem.W.Frag) : Addr := He.ga K "_law_box"
def af_3 (K : PySem.W.Frag) : Addr := He.ga K "_law_word"
def af_4 (K : PySem.W.Frag) : Addr := He.ga K "_law_words"
def af_5 (K : PySem.W.Frag) : Addr := He.ga K "is_gauge_name"
def af_6 (K : PySem.W.Frag) : Addr := He.ma K (ac_BadGauge K) "__init__"
def af_7 (K : PySem.W.Frag) : Addr := He.ma K (ac_Gauge K) "__init__"
def af_8 (K : PySem.W.Frag) : Addr := He.ma K (ac_CoarseGauge K) "__init__"
def af_9 (K : PySem.W.Frag) : Addr := He.ma K (ac_LateGauge K) "__init__"
def af_10 (K : PySem.W.Frag) : Addr := He.ma K (ac_LateCoarseGauge K) "__init__"
def af_11 (K : PySem.W.Frag) : Addr := He.ga K "_law_made"
def af_12 (K : PySem.W.Frag) : Addr := He.ga K "law"
def ex_0 : List (PySem.W.Frag → Bool) := [
  fun K => decide (PySem.W.nsIn K mainGlobals "GaugeError" = some (some (.ref (ac_GaugeError K)))),
  fun K => decide (PySem.W.nsIn K mainGlobals "BadGauge" = some (some (.ref (ac_BadGauge K)))),
  fun K => decide (PySem.W.nsIn K mainGlobals "DuplicateGauge" = some (some (.ref (ac_DuplicateGauge K)))),
  fun K => decide (PySem.W.nsIn K mainGlobals "Gauge" = some (some (.ref (ac_Gauge K)))),
  fun K => decide (PySem.W.nsIn K mainGlobals "CoarseGauge" = some (some (.ref (ac_CoarseGauge K)))),
  fun K => decide (PySem.W.nsIn K mainGlobals "LateGauge" = some (some (.ref (ac_LateGauge K)))),
  fun K => decide (PySem.W.nsIn K mainGlobals "LateCoarseGauge" = some (some (.ref (ac_LateCoarseGauge K)))),
  fun K => decide (PySem.W.nsIn K mainGlobals "_law_take" = some (some (.ref (af_1 K)))),
  fun K => decide (fxD K (af_1 K) = Value.none),
  fun K => PySem.W.codeIn K (fxC K (af_1 K)) "_law_take",
  fun K => PySem.W.keepIn K (.ref (af_1 K)),
  fun K => decide (PySem.W.nsIn K mainGlobals "_law_box" = some (some (.ref (af_2 K)))),
  fun K => decide (fxD K (af_2 K) = Value.none),
  fun K => PySem.W.codeIn K (fxC K (af_2 K)) "_law_box",
  fun K => PySem.W.keepIn K (.ref (af_2 K)),
  fun K => decide (PySem.W.nsIn K mainGlobals "_law_word" = some (some (.ref (af_3 K)))),
  fun K => decide (fxD K (af_3 K) = Value.none),
  fun K => PySem.W.codeIn K (fxC K (af_3 K)) "_law_word",
  fun K => PySem.W.keepIn K (.ref (af_3 K)),
  fun K => decide (PySem.W.nsIn K mainGlobals "_law_words" = some (some (.ref (af_4 K)))),
  fun K => decide (fxD K (af_4 K) = Value.none),
  fun K => PySem.W.codeIn K (fxC K (af_4 K)) "_law_words",
  fun K => PySem.W.keepIn K (.ref (af_4 K)),
  fun K => decide (PySem.W.nsIn K mainGlobals "is_gauge_name" = some (some (.ref (af_5 K)))),
  fun K => decide (fxD K (af_5 K) = Value.none),
  fun K => PySem.W.codeIn K (fxC K (af_5 K)) "is_gauge_name",
  fun K => PySem.W.keepIn K (.ref (af_5 K)),
  fun K => decide (PySem.W.findIn K (.ref (ac_BadGauge K)) "__init__" = some (some (.ref (af_6 K)))),
  fun K => PySem.W.isFn K (.ref (af_6 K)),
  fun K => decide (fxD K (af_6 K) = Value.none),
  fun K => PySem.W.codeIn K (fxC K (af_6 K)) "BadGauge.__init__",
  fun K => PySem.W.keepIn K (.ref (af_6 K)),
  fun K => decide (PySem.W.typeIn K (.ref (af_6 K)) = some (.type "function")),
  fun K => decide (PySem.W.findIn K (.ref (ac_Gauge K)) "__init__" = some (some (.ref (af_7 K)))),
  fun K => PySem.W.isFn K (.ref (af_7 K)),
  fun K => decide (fxD K (af_7 K) = Value.none),
  fun K => PySem.W.codeIn K (fxC K (af_7 K)) "Gauge.__init__",
  fun K => PySem.W.keepIn K (.ref (af_7 K)),
  fun K => PySem.W.makesIn K (ac_Gauge K),
  fun K => PySem.W.keepIn K (.ref (ac_Gauge K)),
  fun K => decide (PySem.W.findIn K (.ref (ac_CoarseGauge K)) "__init__" = some (some (.ref (af_8 K)))),
  fun K => PySem.W.isFn K (.ref (af_8 K)),
  fun K => decide (fxD K (af_8 K) = Value.none),
  fun K => decide (fxK K (af_8 K) = Value.none),
  fun K => PySem.W.codeIn K (fxC K (af_8 K)) "CoarseGauge.__init__",
  fun K => PySem.W.keepIn K (.ref (af_8 K)),
  fun K => PySem.W.makesIn K (ac_CoarseGauge K),
  fun K => PySem.W.keepIn K (.ref (ac_CoarseGauge K)),
  fun K => decide (PySem.W.findIn K (.ref (ac_LateGauge K)) "__init__" = some (some (.ref (af_9 K)))),
  fun K => PySem.W.isFn K (.ref (af_9 K)),
  fun K => decide (fxD K (af_9 K) = Value.none),
  fun K => decide (fxK K (af_9 K) = Value.none),
  fun K => PySem.W.codeIn K (fxC K (af_9 K)) "LateGauge.__init__",
  fun K => PySem.W.keepIn K (.ref (af_9 K)),
  fun K => PySem.W.makesIn K (ac_LateGauge K),
  fun K => PySem.W.keepIn K (.ref (ac_LateGauge K)),
  fun K => decide (PySem.W.findIn K (.ref (ac_LateCoarseGauge K)) "__init__" = some (some (.ref (af_10 K)))),
  fun K => PySem.W.isFn K (.ref (af_10 K)),
  fun K => decide (fxD K (af_10 K) = Value.none),
  fun K => decide (fxK K (af_10 K) = Value.none)]
def ex_1 : List (PySem.W.Frag → Bool) := [
  fun K => PySem.W.codeIn K (fxC K (af_10 K)) "LateCoarseGauge.__init__",
  fun K => PySem.W.keepIn K (.ref (af_10 K)),
  fun K => PySem.W.makesIn K (ac_LateCoarseGauge K),
  fun K => PySem.W.keepIn K (.ref (ac_LateCoarseGauge K)),
  fun K => decide (PySem.W.nsIn K mainGlobals "_law_made" = some (some (.ref (af_11 K)))),
  fun K => decide (fxD K (af_11 K) = Value.none),
  fun K => PySem.W.codeIn K (fxC K (af_11 K)) "_law_made",
  fun K => PySem.W.keepIn K (.ref (af_11 K)),
  fun K => decide (PySem.W.nsIn K mainGlobals "law" = some (some (.ref (af_12 K)))),
  fun K => decide (fxD K (af_12 K) = Value.none),
  fun K => PySem.W.codeIn K (fxC K (af_12 K)) "law",
  fun K => PySem.W.keepIn K (.ref (af_12 K)),
  fun K => decide (PySem.W.specialIn K (.ref (ac_GaugeError K)) "__getattribute__" = some (some (.builtin "type.__getattribute__"))),
  fun K => PySem.W.readsIn K (ac_GaugeError K) (.type "type"),
  fun K => cbB K (ac_GaugeError K) "__init__" "ValueError.__init__",
  fun K => exB K (ac_BadGauge K) [.ref (ac_GaugeError K), .type "ValueError", .type "Exception", .type "BaseException", .type "object"],
  fun K => decide (PySem.W.findIn K (.ref (ac_BadGauge K)) "__setattr__" = some (some (.builtin "object.__setattr__"))),
  fun K => decide (PySem.W.findIn K (.ref (ac_BadGauge K)) "__getattribute__" = some (some (.builtin "BaseException.__getattribute__"))),
  fun K => decide (PySem.W.findIn K (.ref (ac_BadGauge K)) "__getattr__" = some none),
  fun K => PySem.W.keepIn K (.ref (ac_BadGauge K)),
  fun K => decide (PySem.W.subIn K (.ref (ac_BadGauge K)) (.type "BaseException") = some true),
  fun K => decide (PySem.W.typeIn K (.ref (ac_BadGauge K)) = some (.type "type")),
  fun K => PySem.W.hasDictIn K (ac_BadGauge K),
  fun K => PySem.W.isClsIn K (ac_BadGauge K),
  fun K => decide (PySem.W.findIn K (.ref (ac_BadGauge K)) "name" = some none),
  fun K => decide (PySem.W.subIn K (.ref (ac_BadGauge K)) (.ref (ac_BadGauge K)) = some true),
  fun K => exB K (ac_DuplicateGauge K) [.ref (ac_GaugeError K), .type "ValueError", .type "Exception", .type "BaseException", .type "object"],
  fun K => decide (PySem.W.findIn K (.ref (ac_DuplicateGauge K)) "__setattr__" = some (some (.builtin "object.__setattr__"))),
  fun K => decide (PySem.W.findIn K (.ref (ac_DuplicateGauge K)) "__getattribute__" = some (some (.builtin "BaseException.__getattribute__"))),
  fun K => decide (PySem.W.findIn K (.ref (ac_DuplicateGauge K)) "__getattr__" = some none),
  fun K => PySem.W.keepIn K (.ref (ac_DuplicateGauge K)),
  fun K => decide (PySem.W.subIn K (.ref (ac_DuplicateGauge K)) (.type "BaseException") = some true),
  fun K => decide (PySem.W.typeIn K (.ref (ac_DuplicateGauge K)) = some (.type "type")),
  fun K => PySem.W.hasDictIn K (ac_DuplicateGauge K),
  fun K => PySem.W.isClsIn K (ac_DuplicateGauge K),
  fun K => decide (PySem.W.findIn K (.ref (ac_DuplicateGauge K)) "name" = some none),
  fun K => PySem.W.plainGet K (ac_Gauge K) Str.empty,
  fun K => PySem.W.hasDictIn K (ac_Gauge K),
  fun K => PySem.W.plainOver K (ac_Gauge K),
  fun K => decide (PySem.W.findIn K (.ref (ac_Gauge K)) "__setattr__" = some (some (.builtin "object.__setattr__"))),
  fun K => decide (PySem.W.findIn K (.ref (ac_Gauge K)) "__class__" = some (some (.builtin "object.__class__"))),
  fun K => decide (PySem.W.specialIn K (.builtin "object.__class__") "__get__" = some (some (.builtin "getset_descriptor.__get__"))),
  fun K => decide (PySem.W.takesIn K (.builtin "object.__class__") = some true),
  fun K => decide (PySem.W.mroIn K (ac_Gauge K) (.type "object") = some true),
  fun K => decide (PySem.W.findIn K (.ref (ac_Gauge K)) "name" = some none),
  fun K => decide (PySem.W.findIn K (.ref (ac_Gauge K)) "radius" = some none),
  fun K => decide (PySem.W.findIn K (.ref (ac_Gauge K)) "step" = some none),
  fun K => decide (PySem.W.findIn K (.ref (ac_Gauge K)) "late" = some none),
  fun K => decide (PySem.W.findIn K (.ref (ac_Gauge K)) "pace" = some none),
  fun K => PySem.W.plainGet K (ac_CoarseGauge K) Str.empty,
  fun K => PySem.W.hasDictIn K (ac_CoarseGauge K),
  fun K => PySem.W.plainOver K (ac_CoarseGauge K),
  fun K => decide (PySem.W.findIn K (.ref (ac_CoarseGauge K)) "__setattr__" = some (some (.builtin "object.__setattr__"))),
  fun K => decide (PySem.W.findIn K (.ref (ac_CoarseGauge K)) "__class__" = some (some (.builtin "object.__class__"))),
  fun K => decide (PySem.W.mroIn K (ac_CoarseGauge K) (.type "object") = some true),
  fun K => decide (PySem.W.findIn K (.ref (ac_CoarseGauge K)) "name" = some none),
  fun K => decide (PySem.W.findIn K (.ref (ac_CoarseGauge K)) "radius" = some none),
  fun K => decide (PySem.W.findIn K (.ref (ac_CoarseGauge K)) "step" = some none),
  fun K => decide (PySem.W.findIn K (.ref (ac_CoarseGauge K)) "late" = some none),
  fun K => decide (PySem.W.findIn K (.ref (ac_CoarseGauge K)) "pace" = some none)]
def ex_2 : List (PySem.W.Frag → Bool) := [
  fun K => PySem.W.plainGet K (ac_LateGauge K) Str.empty,
  fun K => PySem.W.hasDictIn K (ac_LateGauge K),
  fun K => PySem.W.plainOver K (ac_LateGauge K),
  fun K => decide (PySem.W.findIn K (.ref (ac_LateGauge K)) "__setattr__" = some (some (.builtin "object.__setattr__"))),
  fun K => decide (PySem.W.findIn K (.ref (ac_LateGauge K)) "__class__" = some (some (.builtin "object.__class__"))),
  fun K => decide (PySem.W.mroIn K (ac_LateGauge K) (.type "object") = some true),
  fun K => decide (PySem.W.findIn K (.ref (ac_LateGauge K)) "name" = some none),
  fun K => decide (PySem.W.findIn K (.ref (ac_LateGauge K)) "radius" = some none),
  fun K => decide (PySem.W.findIn K (.ref (ac_LateGauge K)) "step" = some none),
  fun K => decide (PySem.W.findIn K (.ref (ac_LateGauge K)) "late" = some none),
  fun K => decide (PySem.W.findIn K (.ref (ac_LateGauge K)) "pace" = some none),
  fun K => PySem.W.plainGet K (ac_LateCoarseGauge K) Str.empty,
  fun K => PySem.W.hasDictIn K (ac_LateCoarseGauge K),
  fun K => PySem.W.plainOver K (ac_LateCoarseGauge K),
  fun K => decide (PySem.W.findIn K (.ref (ac_LateCoarseGauge K)) "__setattr__" = some (some (.builtin "object.__setattr__"))),
  fun K => decide (PySem.W.findIn K (.ref (ac_LateCoarseGauge K)) "__class__" = some (some (.builtin "object.__class__"))),
  fun K => decide (PySem.W.mroIn K (ac_LateCoarseGauge K) (.type "object") = some true),
  fun K => decide (PySem.W.findIn K (.ref (ac_LateCoarseGauge K)) "name" = some none),
  fun K => decide (PySem.W.findIn K (.ref (ac_LateCoarseGauge K)) "radius" = some none),
  fun K => decide (PySem.W.findIn K (.ref (ac_LateCoarseGauge K)) "step" = some none),
  fun K => decide (PySem.W.findIn K (.ref (ac_LateCoarseGauge K)) "late" = some none),
  fun K => decide (PySem.W.findIn K (.ref (ac_LateCoarseGauge K)) "pace" = some none),
  fun K => decide (PySem.W.findIn K (.ref (ac_BadGauge K)) "__class__" = some (some (.builtin "object.__class__"))),
  fun K => decide (PySem.W.mroIn K (ac_BadGauge K) (.type "object") = some true),
  fun K => decide (PySem.W.subIn K (.ref (ac_BadGauge K)) (.ref (ac_DuplicateGauge K)) = some false),
  fun K => decide ((Value.ref (ac_BadGauge K) == Value.ref (ac_DuplicateGauge K)) = false),
  fun K => PySem.W.isClsIn K (ac_GaugeError K),
  fun K => decide (PySem.W.typeIn K (.ref (ac_GaugeError K)) = some (.type "type")),
  fun K => decide (PySem.W.subIn K (.ref (ac_BadGauge K)) (.ref (ac_GaugeError K)) = some true),
  fun K => decide (PySem.W.specialIn K (.ref (ac_CoarseGauge K)) "__getattribute__" = some (some (.builtin "type.__getattribute__"))),
  fun K => PySem.W.readsIn K (ac_CoarseGauge K) (.type "type"),
  fun K => cvB K (ac_CoarseGauge K) "__init__" (af_8 K),
  fun K => decide (PySem.W.specialIn K (.ref (ac_Gauge K)) "__getattribute__" = some (some (.builtin "type.__getattribute__"))),
  fun K => PySem.W.readsIn K (ac_Gauge K) (.type "type"),
  fun K => cvB K (ac_Gauge K) "__init__" (af_7 K),
  fun K => decide (PySem.W.specialIn K (.ref (ac_LateGauge K)) "__getattribute__" = some (some (.builtin "type.__getattribute__"))),
  fun K => PySem.W.readsIn K (ac_LateGauge K) (.type "type"),
  fun K => cvB K (ac_LateGauge K) "__init__" (af_9 K),
  fun K => decide (PySem.W.nsIn K mainGlobals "BARRED" = some (some (.ref (ak_BARRED K)))),
  fun K => tsB K (ak_BARRED K) ["rank", "trim", "weigh", "together"],
  fun K => gsB K "LETTERS" "abcdefghijklmnopqrstuvwxyz",
  fun K => ciB K (ac_Gauge K) "LONGEST" 12,
  fun K => decide (PySem.W.nsIn K mainGlobals "all" = some none),
  fun K => decide (PySem.W.nsIn K mainGlobals "int" = some none),
  fun K => decide (PySem.W.nsIn K mainGlobals "isinstance" = some none),
  fun K => decide (PySem.W.nsIn K mainGlobals "len" = some none),
  fun K => decide (PySem.W.nsIn K mainGlobals "list" = some none),
  fun K => decide (PySem.W.nsIn K mainGlobals "range" = some none),
  fun K => decide (PySem.W.nsIn K mainGlobals "str" = some none)]
def exs : List (PySem.W.Frag → Bool) := ex_0 ++ ex_1 ++ ex_2
def fns : List FxS := [
  ⟨af_1, "_law_take", "_law_take", s_take, []⟩,
  ⟨af_2, "_law_box", "_law_box", s_box, []⟩,
  ⟨af_3, "_law_word", "_law_word", s_word, []⟩,
  ⟨af_4, "_law_words", "_law_words", s_words, []⟩,
  ⟨af_5, "is_gauge_name", "is_gauge_name", s_m_is_gauge_name, []⟩,
  ⟨af_6, "__init__", "BadGauge.__init__", s_BadGauge_init, []⟩,
  ⟨af_7, "__init__", "Gauge.__init__", s_Gauge_init, []⟩,
  ⟨af_8, "__init__", "CoarseGauge.__init__", s_CoarseGauge_init, []⟩,
  ⟨af_9, "__init__", "LateGauge.__init__", s_LateGauge_init, []⟩,
  ⟨af_10, "__init__", "LateCoarseGauge.__init__", s_LateCoarseGauge_init, []⟩,
  ⟨af_11, "_law_made", "_law_made", s_made, []⟩,
  ⟨af_12, "law", "law", s_law, []⟩]
theorem facts {l : PySem.W.OpenLaw} {w : World} {K : PySem.W.Frag} {h : Heap} {mg : Str → Option Value} {fa : Addr} (X : K.In h) (G : h.Ns mainGlobals mg) (hfa : mg "law" = some (.ref fa)) (c : SaysB exs fns K) :
    ∃ fd : FuncData, (∀ (s : Shared) (v : Value), BindsTo s fd ⟨[v], []⟩ [("_law_script", v)]) ∧ ∀ base : Heap, K.In base → base.Ns mainGlobals mg → FnOk l.prog w K mg base CX0 10 fa fd ["_law_script"] (spLaw K) := by
  obtain ⟨oc1, od1, sl1, dc1, pm1, an1, ct1, l1⟩ := fx_ok (c.fnc 0)
  rw [show fxD K (af_1 K) = Value.none from of_decide_eq_true (c.fact 8)] at l1
  obtain ⟨oc2, od2, sl2, dc2, pm2, an2, ct2, l2⟩ := fx_ok (c.fnc 1)
  rw [show fxD K (af_2 K) = Value.none from of_decide_eq_true (c.fact 12)] at l2
  obtain ⟨oc3, od3, sl3, dc3, pm3, an3, ct3, l3⟩ := fx_ok (c.fnc 2)
  rw [show fxD K (af_3 K) = Value.none from of_decide_eq_true (c.fact 16)] at l3
  obtain ⟨oc4, od4, sl4, dc4, pm4, an4, ct4, l4⟩ := fx_ok (c.fnc 3)
  rw [show fxD K (af_4 K) = Value.none from of_decide_eq_true (c.fact 20)] at l4
  obtain ⟨oc5, od5, sl5, dc5, pm5, an5, ct5, l5⟩ := fx_ok (c.fnc 4)
  rw [show fxD K (af_5 K) = Value.none from of_decide_eq_true (c.fact 24)] at l5
  obtain ⟨oc6, od6, sl6, dc6, pm6, an6, ct6, l6⟩ := fx_ok (c.fnc 5)
  rw [show fxD K (af_6 K) = Value.none from of_decide_eq_true (c.fact 29)] at l6
  obtain ⟨oc7, od7, sl7, dc7, pm7, an7, ct7, l7⟩ := fx_ok (c.fnc 6)
  rw [show fxD K (af_7 K) = Value.none from of_decide_eq_true (c.fact 35)] at l7
  obtain ⟨oc8, od8, sl8, dc8, pm8, an8, ct8, l8⟩ := fx_ok (c.fnc 7)
  rw [show fxD K (af_8 K) = Value.none from of_decide_eq_true (c.fact 42)] at l8
  rw [show fxK K (af_8 K) = Value.none from of_decide_eq_true (c.fact 43)] at l8
  obtain ⟨oc9, od9, sl9, dc9, pm9, an9, ct9, l9⟩ := fx_ok (c.fnc 8)
  rw [show fxD K (af_9 K) = Value.none from of_decide_eq_true (c.fact 50)] at l9
  rw [show fxK K (af_9 K) = Value.none from of_decide_eq_true (c.fact 51)] at l9
  obtain ⟨oc10, od10, sl10, dc10, pm10, an10, ct10, l10⟩ := fx_ok (c.fnc 9)
  rw [show fxD K (af_10 K) = Value.none from of_decide_eq_true (c.fact 58)] at l10
  rw [show fxK K (af_10 K) = Value.none from of_decide_eq_true (c.fact 59)] at l10
  obtain ⟨oc11, od11, sl11, dc11, pm11, an11, ct11, l11⟩ := fx_ok (c.fnc 10)
  rw [show fxD K (af_11 K) = Value.none from of_decide_eq_true (c.fact 65)] at l11
  obtain ⟨oc12, od12, sl12, dc12, pm12, an12, ct12, l12⟩ := fx_ok (c.fnc 11)
  rw [show fxD K (af_12 K) = Value.none from of_decide_eq_true (c.fact 69)] at l12
  obtain ⟨_, _, _, _, _, _, _, _, _, _, _, _, _, _, xL_BadGauge⟩ := exB_ok (c.fact 75)
  obtain ⟨_, _, _, _, _, _, _, _, _, _, _, _, _, _, xL_DuplicateGauge⟩ := exB_ok (c.fact 86)
  obtain ⟨_, _, _, ts_BARRED, hts_BARRED, kt_BARRED⟩ := tsB_ok (c.fact 159)
  obtain ⟨t0_BARRED, t1_BARRED, t2_BARRED, t3_BARRED, rfl⟩ : ∃ t0 t1 t2 t3, ts_BARRED = [t0, t1, t2, t3] := match ts_BARRED, hts_BARRED with | [t0, t1, t2, t3], _ => ⟨t0, t1, t2, t3, rfl⟩
  obtain ⟨_, kg_LETTERS⟩ := gsB_ok (c.fact 160)
  obtain ⟨_, h_kc_Gauge_LONGEST⟩ := ciB_ok (c.fact 161)
  exact all_mk X G hfa (of_decide_eq_true (c.fact 0))
    (of_decide_eq_true (c.fact 1))
    (of_decide_eq_true (c.fact 2))
    (of_decide_eq_true (c.fact 3))
    (of_decide_eq_true (c.fact 4))
    (of_decide_eq_true (c.fact 5))
    (of_decide_eq_true (c.fact 6))
    (of_decide_eq_true (c.fact 7))
    l1
    (c.fact 9)
    (c.fact 10)
    (of_decide_eq_true (c.fact 11))
    l2
    (c.fact 13)
    (c.fact 14)
    (of_decide_eq_true (c.fact 15))
    l3
    (c.fact 17)
    (c.fact 18)
    (of_decide_eq_true (c.fact 19))
    l4
    (c.fact 21)
    (c.fact 22)
    (of_decide_eq_true (c.fact 23))
    l5
    (c.fact 25)
    (c.fact 26)
    (of_decide_eq_true (c.fact 27))
    (c.fact 28)
    l6
    (c.fact 30)
    (c.fact 31)
    (of_decide_eq_true (c.fact 32))
    (of_decide_eq_true (c.fact 33))
    (c.fact 34)
    l7
    (c.fact 36)
    (c.fact 37)
    (c.fact 38)
    (c.fact 39)
    (of_decide_eq_true (c.fact 40))
    (c.fact 41)
    l8
    (c.fact 44)
    (c.fact 45)
    (c.fact 46)
    (c.fact 47)
    (of_decide_eq_true (c.fact 48))
    (c.fact 49)
    l9
    (c.fact 52)
    (c.fact 53)
    (c.fact 54)
    (c.fact 55)
    (of_decide_eq_true (c.fact 56))
    (c.fact 57)
    l10
    (c.fact 60)
    (c.fact 61)
    (c.fact 62)
    (c.fact 63)
    (of_decide_eq_true (c.fact 64))
    l11
    (c.fact 66)
    (c.fact 67)
    (of_decide_eq_true (c.fact 68))
    l12
    (c.fact 70)
    (c.fact 71)
    (of_decide_eq_true (c.fact 72))
    (c.fact 73)
    (cbB_ok (c.fact 74))
    xL_BadGauge
    (of_decide_eq_true (c.fact 76))
    (of_decide_eq_true (c.fact 77))
    (of_decide_eq_true (c.fact 78))
    (c.fact 79)
    (of_decide_eq_true (c.fact 80))
    (of_decide_eq_true (c.fact 81))
    (c.fact 82)
    (c.fact 83)
    (of_decide_eq_true (c.fact 84))
    (of_decide_eq_true (c.fact 85))
    xL_DuplicateGauge
    (of_decide_eq_true (c.fact 87))
    (of_decide_eq_true (c.fact 88))
    (of_decide_eq_true (c.fact 89))
    (c.fact 90)
    (of_decide_eq_true (c.fact 91))
    (of_decide_eq_true (c.fact 92))
    (c.fact 93)
    (c.fact 94)
    (of_decide_eq_true (c.fact 95))
    (c.fact 96)
    (c.fact 97)
    (c.fact 98)
    (of_decide_eq_true (c.fact 99))
    (of_decide_eq_true (c.fact 100))
    (of_decide_eq_true (c.fact 101))
    (of_decide_eq_true (c.fact 102))
    (of_decide_eq_true (c.fact 103))
    (of_decide_eq_true (c.fact 104))
    (of_decide_eq_true (c.fact 105))
    (of_decide_eq_true (c.fact 106))
    (of_decide_eq_true (c.fact 107))
    (of_decide_eq_true (c.fact 108))
    (c.fact 109)
    (c.fact 110)
    (c.fact 111)
    (of_decide_eq_true (c.fact 112))
    (of_decide_eq_true (c.fact 113))
    (of_decide_eq_true (c.fact 114))
    (of_decide_eq_true (c.fact 115))
    (of_decide_eq_true (c.fact 116))
    (of_decide_eq_true (c.fact 117))
    (of_decide_eq_true (c.fact 118))
    (of_decide_eq_true (c.fact 119))
    (c.fact 120)
    (c.fact 121)
    (c.fact 122)
    (of_decide_eq_true (c.fact 123))
    (of_decide_eq_true (c.fact 124))
    (of_decide_eq_true (c.fact 125))
    (of_decide_eq_true (c.fact 126))
    (of_decide_eq_true (c.fact 127))
    (of_decide_eq_true (c.fact 128))
    (of_decide_eq_true (c.fact 129))
    (of_decide_eq_true (c.fact 130))
    (c.fact 131)
    (c.fact 132)
    (c.fact 133)
    (of_decide_eq_true (c.fact 134))
    (of_decide_eq_true (c.fact 135))
    (of_decide_eq_true (c.fact 136))
    (of_decide_eq_true (c.fact 137))
    (of_decide_eq_true (c.fact 138))
    (of_decide_eq_true (c.fact 139))
    (of_decide_eq_true (c.fact 140))
    (of_decide_eq_true (c.fact 141))
    (of_decide_eq_true (c.fact 142))
    (of_decide_eq_true (c.fact 143))
    (of_decide_eq_true (c.fact 144))
    (of_decide_eq_true (c.fact 145))
    (c.fact 146)
    (of_decide_eq_true (c.fact 147))
    (of_decide_eq_true (c.fact 148))
    (of_decide_eq_true (c.fact 149))
    (c.fact 150)
    (cvB_ok (c.fact 151))
    (of_decide_eq_true (c.fact 152))
    (c.fact 153)
    (cvB_ok (c.fact 154))
    (of_decide_eq_true (c.fact 155))
    (c.fact 156)
    (cvB_ok (c.fact 157))
    (of_decide_eq_true (c.fact 158))
    kt_BARRED
    kg_LETTERS
    h_kc_Gauge_LONGEST
    (of_decide_eq_true (c.fact 162))
    (of_decide_eq_true (c.fact 163))
    (of_decide_eq_true (c.fact 164))
    (of_decide_eq_true (c.fact 165))
    (of_decide_eq_true (c.fact 166))
    (of_decide_eq_true (c.fact 167))
    (of_decide_eq_true (c.fact 168))
def loose_0 : List PySem.Str := ["_wall", "__name__", "GaugeError", "BadStretch", "NoLevel", "Apart", "BadGauge", "DuplicateGauge", "Stretch", "LETTERS", "BARRED", "is_gauge_name", "Gauge", "CoarseGauge", "LateGauge", "LateCoarseGauge", "_law_box", "_law_take", "_law_word", "_law_words", "_law_made"]
def looseN : List PySem.Str := loose_0
abbrev RR : PySem.W.OpenRow := PySem.W.OpenLaw.row PySem.Challenge.rw_gaugemiss_k14_gauge_refusals
abbrev hkB : PySem.W.Hook := hookB 6 exs fns
def obR (s : PySem.W.SharedT) : Bool × List FxV := obsBG 6 exs fns (HandSHeadRun.getT s)
theorem obR_eq (s : PySem.W.SharedT) : obR s = hkB.obs s.abs := obsBG_eq (HandSHeadRun.getT_eq s)
set_option maxHeartbeats 0 in
theorem runA (w : World) (os : OsState) : (HandSHeadRun.endF (HandSHeadRun.stepQ (HandSHeadRun.denQ HandSHeadRun.tabQ) RR.prog w) 40000 RR.prog w os).map (fun s => (HandSHeadRun.looksF RR.prog (PySem.W.boot_heap w.params) s.abs, HandSHeadRun.seenQ (PySem.W.view RR.prog [24]) looseN (importedModules RR.prog.main.body) (fun s => PySem.W.xlAt (PySem.W.view RR.prog [24]) [] s && PySem.W.recOk RR.toRowW.records s) s.abs)) = some (true, PySem.W.openGood (PySem.W.view RR.prog [24]) looseN) := by
  kernel_rfl
set_option maxHeartbeats 0 in
theorem runB (w : World) (os : OsState) : (HandSHeadRun.endF (HandSHeadRun.stepQ (HandSHeadRun.denQ HandSHeadRun.tabQ) RR.prog w) 40000 RR.prog w os).map obR = some (valB fns) := by
  kernel_rfl
theorem runR (w : World) : HandSHeadRun.RunEq RR (PySem.W.view RR.prog [24]) hkB obR 40000 looseN w := by
  intro os
  obtain ⟨s, hs, ha⟩ := Option.map_eq_some_iff.mp (runA w os)
  obtain ⟨s2, hs2, hb⟩ := Option.map_eq_some_iff.mp (runB w os)
  rw [hs] at hs2
  cases hs2
  rw [hs]
  exact some3 (Prod.mk.inj ha).1 (Prod.mk.inj ha).2 hb
end Lw
open PySem PySem.W PyProof.Rows
set_option maxRecDepth 100000 in
set_option maxHeartbeats 0 in
theorem PySem.Challenge.cw_gaugemiss_k14_gauge_refusals_holds : PySem.Challenge.rw_gaugemiss_k14_gauge_refusals.Holds := by
  w_on; o_law
  refine HandSHeadRun.head_any (r := OpenLaw.row PySem.Challenge.rw_gaugemiss_k14_gauge_refusals) (q := view (OpenLaw.row PySem.Challenge.rw_gaugemiss_k14_gauge_refusals).prog [24]) (H := Lw.hkB) (ob := Lw.obR) (M := 40000) (loose := Lw.looseN) (d := HandSHeadRun.topDef (OpenLaw.row PySem.Challenge.rw_gaugemiss_k14_gauge_refusals).prog 24) (kwd := []) Lw.obR_eq
    (by kernel_rfl) (fun s => by kernel_rfl) Lw.runR (by kernel_rfl) (by kernel_rfl) (by kernel_rfl) (by rfl) (by first | assumption | decide +kernel) (by decide +kernel) ⟨rfl, rfl, rfl, rfl, rfl, by decide +kernel⟩ ?hw ?hc
  case hw => w_witness2
  case hc =>
    refine L2.walk_ofE (l := PySem.Challenge.rw_gaugemiss_k14_gauge_refusals) (n := 63) (k := 10) (x := "_law_script") (CX := L2.CX0) rfl (by decide) (by kernel_rfl) ⟨rfl, by decide, by decide⟩ ?F (fun _ _ _ _ z => z)
    intro w mg fa h Y G hmg0
    obtain ⟨K, KX, c⟩ := Y
    have hmg : mg ("law" : PySem.Str) = some (.ref fa) := by
      have e : (HandSHeadRun.topDef (OpenLaw.row PySem.Challenge.rw_gaugemiss_k14_gauge_refusals).prog 24).name = ("law" : PySem.Str) := by kernel_rfl
      rw [← e]
      exact hmg0
    obtain ⟨fd, hb, hF⟩ := Lw.facts (l := PySem.Challenge.rw_gaugemiss_k14_gauge_refusals) (w := w) KX G hmg c
    exact ⟨K, fd, Lw.spLaw K, KX, hb, fun H a ns hl _ hS => ⟨a, ns, rfl, hS, hl, fun _ => rfl⟩, hF⟩

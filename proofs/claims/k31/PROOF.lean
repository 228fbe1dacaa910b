import PyProof.Rows.All
import Wide.All
import OpenK.AllK
import Wide.FinOn
import HandS.ForMost
import HandS.ForExc
import HandS.More
import HandS.IsInst
import HandS.Star
import HandS.ExcInit
import HandS.ExcField
import HandS.FStr
import HandS.ExcCtx
import HandS.SortInts
import KE.KOpsOwn
import HandS.ExcIs
import HandS.ClsMeth
import HandS.Property
import HandS.SortRule
import HandS.Strs
import HandS.SetBool
import HandS.Zip
import HandS.OwnEq
import HandS.TryMany
import HandS.Small
import HandS.Style
import KE.KRevSl
import KE.KSuper
import HandS.Defaults
import HandS.MakeKwOnly
import HandS.Flow
import HandS.Dict
import HandS.Conv
import KE.GoesZip
import KE.GoesMore
import HandS.DictComp
import KE.SortData
import HandS.Deep
import HandS.IterVal
import HandS.Head0
import HandS.Head1
import HandS.Head2
import HandS.HeadEnd
import HandS.HeadHook1
import HandS.HeadHook2
import HandS.HeadNt
import HandS.WordsDict
import KE.GoesRaise
import HandS.TupAny
import HandS.FStrTup
import HandS.Text
import HandS.SortKw
import KE.DatumOrd
import KE.KIndexOf
import PyProof.ReprHeads
import PyProof.Rows.EqNone
import KE.KUnpackStar
import HandS.GenBody
import HandS.GenYield
import HandS.GenCall
import HandS.GenList
import PySem.Challenge.RW_gaugemiss_k31_liar_lots
set_option Elab.async false
set_option linter.all false
set_option maxRecDepth 100000
set_option maxHeartbeats 2000000
namespace G
open PySem L2
/-- the classes of the program -/
inductive Cn where
  | GaugeError | BadStretch | NoLevel | Apart | BadNeed | BadLiars | BadGauge | DuplicateGauge | UnknownGauge | MissingReading | BadRule | BadText | BadLine | SharedFault | BadPaper | NoBound
  | BadLimit | NoCase | NoTruth | NoTick | NotPossible | NothingToUndo | NothingToRedo | NotRanked | NoRule
  | Stretch | Levels | Gauge | CoarseGauge | LateGauge | LateCoarseGauge | Rack | Rule | Leaf | Rank | Trim | Weigh | Miss | Case | Twins | Keeper | Desk | SteadyDesk | Finder
  | other (n : Nat)
structure Bs where
  K : PySem.W.Frag
  cl : Cn → Addr
structure Wc where
  B : Bs
  mu : Addr → Prop
  box : Addr → Prop
def Wc.plus (W : Wc) (D : Addr) : Wc := ⟨W.B, fun a => W.mu a ∨ a = D, W.box⟩
def Kp (W : Wc) (H H' : Hp) : Prop := ∀ a o, ¬ W.mu a → H a = some o → H' a = some o
/-- the box of draws at b: its cells, the place, what is pending, the salt -/
def BoxAt (b : Addr) (H : Hp) : Prop := ∃ (c : Addr) (ns : List Int) (i p s : Int), b ≠ c ∧ H b = some (.lst [.ref c, .int i, .int p, .int s]) ∧ H c = some (.lst (ns.map V.int)) ∧ 0 ≤ i ∧ 0 ≤ p
/-- the core, what the changing objects are, and what is wished of errors that leave -/
structure Wd extends Wc where
  ok : Hp → Prop
  live : ∀ H a, ok H → mu a → ∃ o, H a = some o
  st : ∀ H p o, ok H → ¬ mu p → ok (upd H p o)
  wish : Hp → Prop
  wst : ∀ H H', (∀ a o, ¬ mu a → H a = some o → H' a = some o) → ok H' → wish H → wish H'
  hasbox : ∀ H b, ok H → box b → BoxAt b H
  boxset : ∀ H b c i p s i' p' s', ok H → box b → H b = some (.lst [.ref c, .int i, .int p, .int s]) → 0 ≤ i' → 0 ≤ p' → ok (upd H b (.lst [.ref c, .int i', .int p', .int s']))
  boxmu : ∀ b, box b → mu b
  oke : ∀ H H', ok H → (∀ a o, H a = some o → H' a = some o) → ok H'
instance : Coe Wd Wc := ⟨Wd.toWc⟩
structure Ext (W : Wd) (H H' : Hp) : Prop where
  keep : Kp W H H'
  ok : W.ok H'
theorem Ext.refl {W : Wd} {H : Hp} (h : W.ok H) : Ext W H H := ⟨fun _ _ _ e => e, h⟩
theorem Ext.trans {W : Wd} {H H1 H2 : Hp} (a : Ext W H H1) (b : Ext W H1 H2) : Ext W H H2 := ⟨fun c o n e => b.keep c o n (a.keep c o n e), b.ok⟩
theorem fresh_mu {W : Wd} {H : Hp} {p : Addr} (h : W.ok H) (n : H p = none) : ¬ W.mu p := fun m => by
  obtain ⟨o, e⟩ := W.live H p h m
  rw [n] at e
  cases e
theorem Ext.new {W : Wd} {H : Hp} {p : Addr} {o : HO} (h : W.ok H) (n : H p = none) : Ext W H (upd H p o) :=
  ⟨fun a u _ e => by rw [upd_ne (ne_of_none e n)]; exact e, W.st H p o h (fresh_mu h n)⟩
/-- the world where a new list at D, not there in H1, is kept apart: it holds xs -/
def Wd.plus (W : Wd) (D : Addr) (xs : List V) (H1 : Hp) (n : H1 D = none) (o1 : W.ok H1) (w1 : W.wish H1) : Wd where
  toWc := W.toWc.plus D
  ok := fun H => W.ok H ∧ H D = some (.lst xs)
  live := fun H a ⟨h, e⟩ m => by
    rcases m with m | m
    · exact W.live H a h m
    · subst m; exact ⟨_, e⟩
  st := fun H p o ⟨h, e⟩ m => ⟨W.st H p o h (fun z => m (.inl z)), by rw [upd_ne (fun z => m (.inr z.symm))]; exact e⟩
  wish := fun H => (∀ a o, ¬ W.mu a → H1 a = some o → H a = some o)
  wst := fun H H' k _ w a o m e => k a o (fun z => z.elim m fun z => by subst z; rw [n] at e; cases e) (w a o m e)
  hasbox := fun H b ⟨h, _⟩ hb => W.hasbox H b h hb
  boxset := fun H b c i p s i' p' s' ⟨h, e⟩ hb q h1 h2 => ⟨W.boxset H b c i p s i' p' s' h hb q h1 h2, by
    have z : D ≠ b := fun z => by
      subst z
      exact fresh_mu o1 n (W.boxmu _ hb)
    rw [upd_ne z]; exact e⟩
  boxmu := fun b hb => .inl (W.boxmu b hb)
  oke := fun H H' ⟨h, e⟩ k => ⟨W.oke H H' h k, k _ _ e⟩
/-- W' is W with more objects that change -/
structure Sub (W W' : Wd) : Prop where
  B : W'.B = W.B
  ok : ∀ H, W'.ok H → W.ok H
  wish : ∀ H, W'.ok H → W'.wish H → W.wish H
theorem Sub.refl (W : Wd) : Sub W W := ⟨rfl, fun _ h => h, fun _ _ h => h⟩
theorem Sub.trans {W W1 W2 : Wd} (a : Sub W W1) (b : Sub W1 W2) : Sub W W2 := ⟨b.B.trans a.B, fun H h => a.ok H (b.ok H h), fun H o h => a.wish H (b.ok H o) (b.wish H o h)⟩
theorem Sub.plus {W : Wd} {D : Addr} {xs : List V} {H1 : Hp} {n : H1 D = none} {o1 : W.ok H1} {w1 : W.wish H1} : Sub W (W.plus D xs H1 n o1 w1) :=
  ⟨rfl, fun _ h => h.1, fun H h w => W.wst H1 H w h.1 w1⟩
class Rep (α : Type) where
  dn : Wc → Hp → V → α → Prop
  mono : ∀ {W : Wc} {H H' : Hp} {v : V} {a : α}, Kp W H H' → dn W H v a → dn W H' v a
  grow : ∀ {W : Wc} {H : Hp} {v : V} {a : α} (D : Addr), H D = none → dn W H v a → dn (W.plus D) H v a
  shrink : ∀ {W : Wc} {H : Hp} {v : V} {a : α} (D : Addr), dn (W.plus D) H v a → dn W H v a
abbrev den {α : Type} [r : Rep α] (W : Wc) (H : Hp) (v : V) (a : α) : Prop := r.dn W H v a
inductive Dl {α : Type} (f : V → α → Prop) : List V → List α → Prop
  | nil : Dl f [] []
  | cons {v : V} {a : α} {vs : List V} {as : List α} : f v a → Dl f vs as → Dl f (v :: vs) (a :: as)
theorem Dl.imp {α : Type} {f g : V → α → Prop} (h : ∀ v a, f v a → g v a) : ∀ {vs : List V} {as : List α}, Dl f vs as → Dl g vs as
  | _, _, .nil => .nil
  | _, _, .cons x y => .cons (h _ _ x) (y.imp h)
theorem Dl.length {α : Type} {f : V → α → Prop} : ∀ {vs : List V} {as : List α}, Dl f vs as → vs.length = as.length
  | _, _, .nil => rfl
  | _, _, .cons _ y => congrArg (· + 1) y.length
theorem Dl.append {α : Type} {f : V → α → Prop} : ∀ {vs ws : List V} {as bs : List α}, Dl f vs as → Dl f ws bs → Dl f (vs ++ ws) (as ++ bs)
  | _, _, _, _, .nil, h => h
  | _, _, _, _, .cons x y, h => .cons x (y.append h)
theorem Dl.at {α : Type} {f : V → α → Prop} : ∀ {vs : List V} {as : List α} {i : Nat} {v : V}, Dl f vs as → vs[i]? = some v → ∃ a, as[i]? = some a ∧ f v a
  | _, _, _, _, .nil, h => by simp at h
  | _, _, 0, _, .cons x y, h => ⟨_, rfl, by simp at h; subst h; exact x⟩
  | _, _, i + 1, _, .cons x y, h => by
    obtain ⟨a, h1, h2⟩ := Dl.at (i := i) y (by simpa using h)
    exact ⟨a, by simpa using h1, h2⟩
theorem Dl.at' {α : Type} {f : V → α → Prop} : ∀ {vs : List V} {as : List α} {i : Nat} {a : α}, Dl f vs as → as[i]? = some a → ∃ v, vs[i]? = some v ∧ f v a
  | _, _, _, _, .nil, h => by simp at h
  | _, _, 0, _, .cons x y, h => ⟨_, rfl, by simp at h; subst h; exact x⟩
  | _, _, i + 1, _, .cons x y, h => by
    obtain ⟨a, h1, h2⟩ := Dl.at' (i := i) y (by simpa using h)
    exact ⟨a, by simpa using h1, h2⟩
theorem Dl.ints {vs : List V} {as : List Int} (h : Dl (fun v (a : Int) => v = .int a) vs as) : vs = as.map V.int := by
  induction h with
  | nil => rfl
  | cons x _ ih => rw [x, ih]; rfl
theorem Dl.of_ints : ∀ as : List Int, Dl (fun v (a : Int) => v = .int a) (as.map V.int) as
  | [] => .nil
  | _ :: r => .cons rfl (Dl.of_ints r)
/-- a list that does not change now; a tuple: tracked, or of the written part -/
def Lq (W : Wc) (H : Hp) (p : Addr) (vs : List V) : Prop := ¬ W.mu p ∧ H p = some (.lst vs)
def Tq (W : Wc) (H : Hp) (p : Addr) (vs : List V) : Prop := ¬ W.mu p ∧ H p = some (.tup vs)
theorem Lq.sq {W : Wc} {H : Hp} {p : Addr} {vs : List V} (h : Lq W H p vs) : SqL W.B.K H p vs := .inl (.inl h.2)
theorem Tq.sq {W : Wc} {H : Hp} {p : Addr} {vs : List V} (h : Tq W H p vs) : SqT W.B.K H p vs := .inl (.inl h.2)
theorem Lq.mono {W : Wc} {H H' : Hp} {p : Addr} {vs : List V} (e : Kp W H H') (h : Lq W H p vs) : Lq W H' p vs := ⟨h.1, e _ _ h.1 h.2⟩
theorem Tq.mono {W : Wc} {H H' : Hp} {p : Addr} {vs : List V} (e : Kp W H H') (h : Tq W H p vs) : Tq W H' p vs := ⟨h.1, e _ _ h.1 h.2⟩
theorem mu_grow {W : Wc} {H : Hp} {p D : Addr} {o : HO} (n : H D = none) (m : ¬ W.mu p) (h : H p = some o) : ¬ (W.plus D).mu p := fun z => z.elim m fun z => by
  subst z
  rw [n] at h
  cases h
theorem Lq.grow {W : Wc} {H : Hp} {p : Addr} {vs : List V} (D : Addr) (n : H D = none) (h : Lq W H p vs) : Lq (W.plus D) H p vs := ⟨mu_grow n h.1 h.2, h.2⟩
theorem Tq.grow {W : Wc} {H : Hp} {p : Addr} {vs : List V} (D : Addr) (n : H D = none) (h : Tq W H p vs) : Tq (W.plus D) H p vs := ⟨mu_grow n h.1 h.2, h.2⟩
theorem Lq.shrink {W : Wc} {H : Hp} {p : Addr} {vs : List V} (D : Addr) (h : Lq (W.plus D) H p vs) : Lq W H p vs := ⟨fun z => h.1 (.inl z), h.2⟩
theorem Tq.shrink {W : Wc} {H : Hp} {p : Addr} {vs : List V} (D : Addr) (h : Tq (W.plus D) H p vs) : Tq W H p vs := ⟨fun z => h.1 (.inl z), h.2⟩
theorem Lq.new {W : Wc} {H : Hp} {p : Addr} {vs : List V} (m : ¬ W.mu p) (h : H p = some (.lst vs)) : Lq W H p vs := ⟨m, h⟩
theorem Tq.new {W : Wc} {H : Hp} {p : Addr} {vs : List V} (m : ¬ W.mu p) (h : H p = some (.tup vs)) : Tq W H p vs := ⟨m, h⟩
instance : Rep Int := ⟨fun _ _ v a => v = .int a, fun _ h => h, fun _ _ h => h, fun _ h => h⟩
instance : Rep Bool := ⟨fun _ _ v a => v = .bl a, fun _ h => h, fun _ _ h => h, fun _ h => h⟩
instance : Rep Str := ⟨fun _ _ v a => v = .str a, fun _ h => h, fun _ _ h => h, fun _ h => h⟩
instance : Rep Unit := ⟨fun _ _ v _ => v = .non, fun _ h => h, fun _ _ h => h, fun _ h => h⟩
instance {α β : Type} [Rep α] [Rep β] : Rep (α × β) :=
  ⟨fun W H v a => ∃ p x y, v = .ref p ∧ Tq W H p [x, y] ∧ den W H x a.1 ∧ den W H y a.2,
   fun e ⟨p, x, y, hv, s, h1, h2⟩ => ⟨p, x, y, hv, s.mono e, Rep.mono e h1, Rep.mono e h2⟩,
   fun D n ⟨p, x, y, hv, s, h1, h2⟩ => ⟨p, x, y, hv, s.grow D n, Rep.grow D n h1, Rep.grow D n h2⟩,
   fun D ⟨p, x, y, hv, s, h1, h2⟩ => ⟨p, x, y, hv, s.shrink D, Rep.shrink D h1, Rep.shrink D h2⟩⟩
/-- a tuple of three -/
structure T3 (α β γ : Type) where
  a : α
  b : β
  c : γ
instance {α β γ : Type} [Rep α] [Rep β] [Rep γ] : Rep (T3 α β γ) :=
  ⟨fun W H v t => ∃ p x y z, v = .ref p ∧ Tq W H p [x, y, z] ∧ den W H x t.a ∧ den W H y t.b ∧ den W H z t.c,
   fun e ⟨p, x, y, z, hv, s, h1, h2, h3⟩ => ⟨p, x, y, z, hv, s.mono e, Rep.mono e h1, Rep.mono e h2, Rep.mono e h3⟩,
   fun D n ⟨p, x, y, z, hv, s, h1, h2, h3⟩ => ⟨p, x, y, z, hv, s.grow D n, Rep.grow D n h1, Rep.grow D n h2, Rep.grow D n h3⟩,
   fun D ⟨p, x, y, z, hv, s, h1, h2, h3⟩ => ⟨p, x, y, z, hv, s.shrink D, Rep.shrink D h1, Rep.shrink D h2, Rep.shrink D h3⟩⟩
instance {α : Type} [Rep α] : Rep (List α) :=
  ⟨fun W H v as => ∃ p vs, v = .ref p ∧ Lq W H p vs ∧ Dl (den W H) vs as,
   fun e ⟨p, vs, hv, s, h⟩ => ⟨p, vs, hv, s.mono e, h.imp fun _ _ x => Rep.mono e x⟩,
   fun D n ⟨p, vs, hv, s, h⟩ => ⟨p, vs, hv, s.grow D n, h.imp fun _ _ x => Rep.grow D n x⟩,
   fun D ⟨p, vs, hv, s, h⟩ => ⟨p, vs, hv, s.shrink D, h.imp fun _ _ x => Rep.shrink D x⟩⟩
/-- the box of draws: an object that changes -/
structure Bx where
instance : Rep Bx := ⟨fun W _ v _ => ∃ b, v = .ref b ∧ W.box b, fun _ h => h, fun _ _ h => h, fun _ h => h⟩
structure Ty where
  α : Type
  r : Rep α
  a : α
abbrev T {α : Type} [r : Rep α] (a : α) : Ty := ⟨α, r, a⟩
def Ty.den (W : Wc) (H : Hp) (v : V) (t : Ty) : Prop := t.r.dn W H v t.a
theorem Ty.mono {W : Wc} {H H' : Hp} {v : V} {t : Ty} (e : Kp W H H') (h : t.den W H v) : t.den W H' v := t.r.mono e h
abbrev Gam := List (Option Ty)
structure GOk (W : Wd) (H : Hp) (σ : St) (Γ : Gam) : Prop where
  ok : W.ok H
  wish : W.wish H
  at_ : ∀ (i : Nat) (t : Ty), Γ[i]? = some (some t) → ∃ v, σ[i]? = some (some v) ∧ t.den W H v
  len : σ.length = Γ.length
theorem GOk.ext {W : Wd} {H H' : Hp} {σ : St} {Γ : Gam} (E : GOk W H σ Γ) (e : Ext W H H') : GOk W H' σ Γ :=
  ⟨e.ok, W.wst _ _ e.keep e.ok E.wish, fun i t h => let ⟨v, h1, h2⟩ := E.at_ i t h; ⟨v, h1, Ty.mono e.keep h2⟩, E.len⟩
theorem GOk.set {W : Wd} {H : Hp} {σ : St} {Γ : Gam} (E : GOk W H σ Γ) (i : Nat) {v : V} {t : Ty} (h : t.den W H v) : GOk W H (σ.set i (some v)) (Γ.set i (some t)) := by
  refine ⟨E.ok, E.wish, fun j u hj => ?_, by rw [List.length_set, List.length_set]; exact E.len⟩
  by_cases e : i = j
  · subst e
    have hl : i < Γ.length := by
      have := (List.getElem?_eq_some_iff.mp hj).1
      rwa [List.length_set] at this
    rw [List.getElem?_set_self hl] at hj
    cases hj
    exact ⟨v, List.getElem?_set_self (by rw [E.len]; exact hl), h⟩
  · rw [List.getElem?_set_ne e] at hj
    rw [List.getElem?_set_ne e]
    exact E.at_ j u hj
theorem GOk.unset {W : Wd} {H : Hp} {σ : St} {Γ : Gam} (E : GOk W H σ Γ) (i : Nat) : GOk W H (σ.set i none) (Γ.set i none) := by
  refine ⟨E.ok, E.wish, fun j u hj => ?_, by rw [List.length_set, List.length_set]; exact E.len⟩
  by_cases e : i = j
  · subst e
    have hl : i < Γ.length := by
      have := (List.getElem?_eq_some_iff.mp hj).1
      rwa [List.length_set] at this
    rw [List.getElem?_set_self hl] at hj
    cases hj
  · rw [List.getElem?_set_ne e] at hj
    rw [List.getElem?_set_ne e]
    exact E.at_ j u hj
def wipeE (Γ : Gam) : List Nat → Gam
  | [] => Γ
  | i :: r => (wipeE Γ r).set i none
theorem GOk.wipe {W : Wd} {H : Hp} {σ : St} {Γ : Gam} (E : GOk W H σ Γ) : ∀ vs : List Nat, GOk W H (wipe σ vs) (wipeE Γ vs)
  | [] => E
  | i :: r => (E.wipe r).unset i
def EvK {α : Type} [Rep α] (W : Wd) (te : TE) (Γ : Gam) (k : α → Prop) : Prop :=
  ∀ σ H (Q : VK), GOk W H σ Γ → (∀ v H' (a : α), Ext W H H' → den W H' v a → k a → Q v H') → te σ H Q
def EvT (W : Wd) (tt : TT) (Γ : Gam) (k : Bool → Prop) : Prop :=
  ∀ σ H (Q : Bool → Hp → Prop), GOk W H σ Γ → (∀ H' b, Ext W H H' → k b → Q b H') → tt σ H Q
/-- arguments: a list of typed data -/
inductive DT (W : Wc) (H : Hp) : List V → List Ty → Prop
  | nil : DT W H [] []
  | cons {v : V} {t : Ty} {vs : List V} {ts : List Ty} : t.den W H v → DT W H vs ts → DT W H (v :: vs) (t :: ts)
theorem DT.mono {W : Wc} {H H' : Hp} (e : Kp W H H') : ∀ {vs : List V} {ts : List Ty}, DT W H vs ts → DT W H' vs ts
  | _, _, .nil => .nil
  | _, _, .cons x y => .cons (Ty.mono e x) (y.mono e)
theorem DT.length {W : Wc} {H : Hp} : ∀ {vs : List V} {ts : List Ty}, DT W H vs ts → vs.length = ts.length
  | _, _, .nil => rfl
  | _, _, .cons _ y => congrArg (· + 1) y.length
def EvA (W : Wd) (ta : TA) (Γ : Gam) (k : List Ty → Prop) : Prop :=
  ∀ σ H (Q : List V → Hp → Prop), GOk W H σ Γ → (∀ vs H' ts, Ext W H H' → DT W H' vs ts → k ts → Q vs H') → ta σ H Q
section
variable {W : Wd} {Γ : Gam} {ta tb tc te : TE} {tt tu : TT}
theorem EvK.imp {α : Type} {rα : Rep α} {k k' : α → Prop} (h : EvK W te Γ k) (i : ∀ a, k a → k' a) : EvK W te Γ k' :=
  fun σ H Q E q => h σ H Q E fun v H' a e d z => q v H' a e d (i a z)
theorem ev_var {α : Type} {r : Rep α} {i : Nat} {a : α} {k : α → Prop} (h : Γ[i]? = some (some (T a))) (q : k a) : EvK W (tVar i) Γ k := fun σ H Q E c => by
  obtain ⟨v, h1, h2⟩ := E.at_ i _ h
  exact ⟨v, h1, c v H a (Ext.refl E.ok) h2 q⟩
theorem ev_int {i : Int} {k : Int → Prop} (q : k i) : EvK W (tC (.int i)) Γ k := fun σ H Q E c => c _ H i (Ext.refl E.ok) rfl q
theorem ev_bl {i : Bool} {k : Bool → Prop} (q : k i) : EvK W (tC (.bl i)) Γ k := fun σ H Q E c => c _ H i (Ext.refl E.ok) rfl q
theorem ev_str {i : Str} {k : Str → Prop} (q : k i) : EvK W (tC (.str i)) Γ k := fun σ H Q E c => c _ H i (Ext.refl E.ok) rfl q
theorem ev_non {k : Unit → Prop} (q : k ()) : EvK W (tC .non) Γ k := fun σ H Q E c => c _ H () (Ext.refl E.ok) rfl q
/-- two parts, one behind the other -/
theorem ev_two {α β γ : Type} {rα : Rep α} {rβ : Rep β} {rγ : Rep γ} {r : R2} {k : γ → Prop}
    (h : EvK W ta Γ fun a : α => EvK W tb Γ fun b : β => ∀ x y H (Q : VK), W.ok H → den W H x a → den W H y b → (∀ v H' (c : γ), Ext W H H' → den W H' v c → k c → Q v H') → r x y H Q) : EvK W (tOp r ta tb) Γ k := fun σ H Q E c =>
  h σ H _ E fun x H1 a e1 d1 h1 => h1 σ H1 _ (E.ext e1) fun y H2 b e2 d2 h2 => h2 x y H2 Q e2.ok (Rep.mono e2.keep d1) d2 fun v H3 a3 e3 d3 z => c v H3 a3 ((e1.trans e2).trans e3) d3 z
theorem ev_opI {f : Int → Int → Int} {k : Int → Prop} (h : EvK W ta Γ fun i : Int => EvK W tb Γ fun j : Int => k (f i j)) : EvK W (tOp (rI0 fun i j => .int (f i j)) ta tb) Γ k :=
  ev_two (h.imp fun i hi => hi.imp fun j hj x y H Q o dx dy c => ⟨i, j, dx, dy, c _ H _ (Ext.refl o) rfl hj⟩)
theorem ev_opB {f : Int → Int → Bool} {k : Bool → Prop} (h : EvK W ta Γ fun i : Int => EvK W tb Γ fun j : Int => k (f i j)) : EvK W (tOp (rI0 fun i j => .bl (f i j)) ta tb) Γ k :=
  ev_two (h.imp fun i hi => hi.imp fun j hj x y H Q o dx dy c => ⟨i, j, dx, dy, c _ H _ (Ext.refl o) rfl hj⟩)
theorem ev_opC {C : Int → Int → Prop} {f : Int → Int → Int} {k : Int → Prop} (h : EvK W ta Γ fun i : Int => EvK W tb Γ fun j : Int => C i j ∧ k (f i j)) : EvK W (tOp (rI C fun i j => .int (f i j)) ta tb) Γ k :=
  ev_two (h.imp fun i hi => hi.imp fun j hj x y H Q o dx dy c => ⟨i, j, dx, dy, hj.1, c _ H _ (Ext.refl o) rfl hj.2⟩)
theorem ev_unI {f : Int → Int} {k : Int → Prop} (h : EvK W ta Γ fun i : Int => k (f i)) : EvK W (tUn (rU fun i => .int (f i)) ta) Γ k := fun σ H Q E c =>
  h σ H _ E fun x H1 i e1 d1 h1 => ⟨i, d1, c _ H1 _ e1 rfl h1⟩
theorem ev_if {α : Type} {rα : Rep α} {k : α → Prop} (h : EvT W tt Γ fun b => (b = true → EvK W ta Γ k) ∧ (b = false → EvK W tb Γ k)) : EvK W (tIf tt ta tb) Γ k := fun σ H Q E c =>
  h σ H _ E fun H1 b e1 ⟨h1, h2⟩ => by
    cases b with
    | true => exact h1 rfl σ H1 Q (E.ext e1) fun v H2 a e2 d z => c v H2 a (e1.trans e2) d z
    | false => exact h2 rfl σ H1 Q (E.ext e1) fun v H2 a e2 d z => c v H2 a (e1.trans e2) d z
theorem ev_andV {k : Bool → Prop} (h : EvK W ta Γ fun a : Bool => (a = true → EvK W tb Γ k) ∧ (a = false → k false)) : EvK W (tAndV ta tb) Γ k := fun σ H Q E c =>
  h σ H _ E fun x H1 a e1 d1 ⟨h1, h2⟩ => ⟨a, d1, by
    cases a with
    | true => exact h1 rfl σ H1 Q (E.ext e1) fun v H2 a e2 d z => c v H2 a (e1.trans e2) d z
    | false => exact c _ H1 false e1 rfl (h2 rfl)⟩
theorem ev_orV {k : Bool → Prop} (h : EvK W ta Γ fun a : Bool => (a = true → k true) ∧ (a = false → EvK W tb Γ k)) : EvK W (tOrV ta tb) Γ k := fun σ H Q E c =>
  h σ H _ E fun x H1 a e1 d1 ⟨h1, h2⟩ => ⟨a, d1, by
    cases a with
    | true => exact c _ H1 true e1 rfl (h1 rfl)
    | false => exact h2 rfl σ H1 Q (E.ext e1) fun v H2 a e2 d z => c v H2 a (e1.trans e2) d z⟩
theorem ev_notV {k : Bool → Prop} (h : EvK W ta Γ fun a : Bool => k (!a)) : EvK W (tNotV ta) Γ k := fun σ H Q E c =>
  h σ H _ E fun x H1 a e1 d1 h1 => ⟨a, d1, c _ H1 _ e1 rfl h1⟩
theorem et_test {k : Bool → Prop} (h : EvK W te Γ k) : EvT W (tTest te) Γ k := fun σ H Q E c => h σ H _ E fun v H1 b e1 d z => ⟨b, d, c H1 b e1 z⟩
theorem et_B {k : Bool → Prop} (h : EvK W te Γ k) : EvT W (tB te) Γ k := fun σ H Q E c => h σ H _ E fun v H1 b e1 d z => ⟨b, d, c H1 b e1 z⟩
theorem et_not {k : Bool → Prop} (h : EvT W tt Γ fun b => k (!b)) : EvT W (tNot tt) Γ k := fun σ H Q E c => h σ H _ E fun H1 b e1 z => c H1 _ e1 z
theorem et_and {k : Bool → Prop} (h : EvT W tt Γ fun a => (a = true → EvT W tu Γ k) ∧ (a = false → k false)) : EvT W (tAnd tt tu) Γ k := fun σ H Q E c =>
  h σ H _ E fun H1 a e1 ⟨h1, h2⟩ => by
    cases a with
    | true => exact h1 rfl σ H1 Q (E.ext e1) fun H2 b e2 z => c H2 b (e1.trans e2) z
    | false => exact c H1 false e1 (h2 rfl)
theorem et_or {k : Bool → Prop} (h : EvT W tt Γ fun a => (a = true → k true) ∧ (a = false → EvT W tu Γ k)) : EvT W (tOr tt tu) Γ k := fun σ H Q E c =>
  h σ H _ E fun H1 a e1 ⟨h1, h2⟩ => by
    cases a with
    | true => exact c H1 true e1 (h1 rfl)
    | false => exact h2 rfl σ H1 Q (E.ext e1) fun H2 b e2 z => c H2 b (e1.trans e2) z
theorem et_yes {k : Bool → Prop} (q : k true) : EvT W tYes Γ k := fun σ H Q E c => c H true (Ext.refl E.ok) q
theorem ea_nil {k : List Ty → Prop} (q : k []) : EvA W tNil Γ k := fun σ H Q E c => c [] H [] (Ext.refl E.ok) .nil q
theorem ea_cons {α : Type} {rα : Rep α} {tr : TA} {k : List Ty → Prop} (h : EvK W te Γ fun a : α => EvA W tr Γ fun ts => k (T a :: ts)) : EvA W (tCons te tr) Γ k := fun σ H Q E c =>
  h σ H _ E fun v H1 a e1 d h1 => h1 σ H1 _ (E.ext e1) fun vs H2 ts e2 ds z => c (v :: vs) H2 _ (e1.trans e2) (.cons (Ty.mono (t := T a) e2.keep d) ds) z
theorem ev_tup2 {α β : Type} {rα : Rep α} {rβ : Rep β} {k : α × β → Prop} (h : EvK W ta Γ fun a : α => EvK W tb Γ fun b : β => k (a, b)) : EvK W (tTup (tCons ta (tCons tb tNil))) Γ k := fun σ H Q E c =>
  h σ H _ E fun x H1 a e1 d1 h1 => h1 σ H1 _ (E.ext e1) fun y H2 b e2 d2 z => ⟨by show 2 ≤ sizeLine; decide, fun p hp =>
    have e3 := Ext.new (o := .tup [x, y]) e2.ok hp
    c _ _ (a, b) ((e1.trans e2).trans e3) ⟨p, x, y, rfl, Tq.new (fresh_mu e2.ok hp) upd_same, Rep.mono (e2.trans e3).keep d1, Rep.mono e3.keep d2⟩ z⟩
theorem ev_tup3 {α β γ : Type} {rα : Rep α} {rβ : Rep β} {rγ : Rep γ} {k : T3 α β γ → Prop} (h : EvK W ta Γ fun a : α => EvK W tb Γ fun b : β => EvK W tc Γ fun c : γ => k ⟨a, b, c⟩) : EvK W (tTup (tCons ta (tCons tb (tCons tc tNil)))) Γ k := fun σ H Q E c =>
  h σ H _ E fun x H1 a e1 d1 h1 => h1 σ H1 _ (E.ext e1) fun y H2 b e2 d2 h2 => h2 σ H2 _ ((E.ext e1).ext e2) fun u H3 b3 e3 d3 z => ⟨by show 3 ≤ sizeLine; decide, fun p hp =>
    have e4 := Ext.new (o := .tup [x, y, u]) e3.ok hp
    c _ _ ⟨a, b, b3⟩ (((e1.trans e2).trans e3).trans e4) ⟨p, x, y, u, rfl, Tq.new (fresh_mu e3.ok hp) upd_same, Rep.mono ((e2.trans e3).trans e4).keep d1, Rep.mono (e3.trans e4).keep d2, Rep.mono e4.keep d3⟩ z⟩
/-- items of a display, all of one kind -/
def EvL {α : Type} [Rep α] (W : Wd) (ta : TA) (Γ : Gam) (k : List α → Prop) : Prop :=
  ∀ σ H (Q : List V → Hp → Prop), GOk W H σ Γ → (∀ vs H' as, Ext W H H' → Dl (den W H') vs as → k as → Q vs H') → ta σ H Q
theorem el_nil {α : Type} {rα : Rep α} {k : List α → Prop} (q : k []) : EvL W tNil Γ k := fun σ H Q E c => c [] H [] (Ext.refl E.ok) .nil q
theorem el_cons {α : Type} {rα : Rep α} {tr : TA} {k : List α → Prop} (h : EvK W te Γ fun a : α => EvL W tr Γ fun as => k (a :: as)) : EvL W (tCons te tr) Γ k := fun σ H Q E c =>
  h σ H _ E fun v H1 a e1 d h1 => h1 σ H1 _ (E.ext e1) fun vs H2 as e2 ds z => c (v :: vs) H2 _ (e1.trans e2) (.cons (Rep.mono e2.keep d) ds) z
theorem ev_lst {α : Type} {rα : Rep α} {t : TA} {k : List α → Prop} (h : EvL W t Γ fun as => as.length ≤ 100000 ∧ k as) : EvK W (tLst t) Γ k := fun σ H Q E c =>
  h σ H _ E fun vs H1 as e1 ds ⟨hl, z⟩ => ⟨Nat.le_trans (by rw [ds.length]; exact hl) (by decide : 100000 ≤ sizeLine), fun p hp =>
    have e2 := Ext.new (o := .lst vs) e1.ok hp
    c _ _ as (e1.trans e2) ⟨p, vs, rfl, Lq.new (fresh_mu e1.ok hp) upd_same, ds.imp fun _ _ d => Rep.mono e2.keep d⟩ z⟩
end
class Dat (α : Type) [Rep α] where
  toD : α → PyData
  dp : ∀ {W : Wc} {H : Hp} {v : V} {a : α}, den W H v a → Dp W.B.K H v (toD a)
  dep : Nat
  ddep : ∀ a : α, (toD a).depth ≤ dep
  inj : ∀ a b : α, PyData.eqv (toD a) (toD b) = true ↔ a = b
  good : α → Prop
  gshp : ∀ a : α, good a → (toD a).canLay0 = true
instance : Dat Int := ⟨fun i => .int i, fun h => by cases h; exact .int _, 0, fun _ => Nat.le_refl 0, fun a b => by show (a == b) = true ↔ a = b; exact beq_iff_eq, fun _ => True, fun _ _ => rfl⟩
instance : Dat Bool := ⟨fun i => .bool i, fun h => by cases h; exact .bl _, 0, fun _ => Nat.le_refl 0, fun a b => by show (a == b) = true ↔ a = b; exact beq_iff_eq, fun _ => True, fun _ _ => rfl⟩
instance : Dat Str := ⟨fun i => .str i, fun h => by cases h; exact .str _, 0, fun _ => Nat.le_refl 0, fun a b => by show (a == b) = true ↔ a = b; exact beq_iff_eq, fun x => (PyData.str x).canLay0 = true, fun _ h => h⟩
instance : Dat Unit := ⟨fun _ => .none, fun h => by cases h; exact .non, 0, fun _ => Nat.le_refl 0, fun a b => ⟨fun _ => rfl, fun _ => rfl⟩, fun _ => True, fun _ _ => rfl⟩
theorem eqv2 (a b c d : PyData) : PyData.eqv (.tuple [a, b]) (.tuple [c, d]) = (PyData.eqv a c && PyData.eqv b d) := by
  show (PyData.eqv a c && (PyData.eqv b d && true)) = _
  rw [Bool.and_true]
theorem eqv3 (a b c d e f : PyData) : PyData.eqv (.tuple [a, b, e]) (.tuple [c, d, f]) = (PyData.eqv a c && (PyData.eqv b d && PyData.eqv e f)) := by
  show (PyData.eqv a c && (PyData.eqv b d && (PyData.eqv e f && true))) = _
  rw [Bool.and_true]
instance {α β : Type} [Rep α] [Rep β] [Dat α] [Dat β] : Dat (α × β) where
  toD := fun x => .tuple [Dat.toD x.1, Dat.toD x.2]
  dp := fun ⟨p, x, y, hv, s, h1, h2⟩ => by
    subst hv
    exact .tup s.sq (.cons (Dat.dp h1) (.cons (Dat.dp h2) .nil))
  dep := max (Dat.dep α) (Dat.dep β) + 1
  ddep := fun x => by
    have h1 := Dat.ddep x.1
    have h2 := Dat.ddep x.2
    show max (Dat.toD x.1).depth (max (Dat.toD x.2).depth 0) + 1 ≤ _
    omega
  inj := fun x y => by
    rw [eqv2, Bool.and_eq_true, Dat.inj, Dat.inj]
    exact ⟨fun h => Prod.ext h.1 h.2, fun h => by rw [h]; exact ⟨rfl, rfl⟩⟩
  good := fun x => Dat.good x.1 ∧ Dat.good x.2
  gshp := fun x h => by
    have h1 := Dat.gshp _ h.1
    have h2 := Dat.gshp _ h.2
    show ((Dat.toD x.1).canLay0 && ((Dat.toD x.2).canLay0 && true)) = true
    rw [h1, h2]
    rfl
instance {α β γ : Type} [Rep α] [Rep β] [Rep γ] [Dat α] [Dat β] [Dat γ] : Dat (T3 α β γ) where
  toD := fun x => .tuple [Dat.toD x.a, Dat.toD x.b, Dat.toD x.c]
  dp := fun ⟨p, x, y, z, hv, s, h1, h2, h3⟩ => by
    subst hv
    exact .tup s.sq (.cons (Dat.dp h1) (.cons (Dat.dp h2) (.cons (Dat.dp h3) .nil)))
  dep := max (Dat.dep α) (max (Dat.dep β) (Dat.dep γ)) + 1
  ddep := fun x => by
    have h1 := Dat.ddep x.a
    have h2 := Dat.ddep x.b
    have h3 := Dat.ddep x.c
    show max (Dat.toD x.a).depth (max (Dat.toD x.b).depth (max (Dat.toD x.c).depth 0)) + 1 ≤ _
    omega
  inj := fun x y => by
    rw [eqv3, Bool.and_eq_true, Bool.and_eq_true, Dat.inj, Dat.inj, Dat.inj]
    cases x; cases y
    exact ⟨fun h => by obtain ⟨h1, h2, h3⟩ := h; cases h1; cases h2; cases h3; rfl, fun h => by cases h; exact ⟨rfl, rfl, rfl⟩⟩
  good := fun x => Dat.good x.a ∧ Dat.good x.b ∧ Dat.good x.c
  gshp := fun x h => by
    have h1 := Dat.gshp _ h.1
    have h2 := Dat.gshp _ h.2.1
    have h3 := Dat.gshp _ h.2.2
    show ((Dat.toD x.a).canLay0 && ((Dat.toD x.b).canLay0 && ((Dat.toD x.c).canLay0 && true))) = true
    rw [h1, h2, h3]
    rfl
theorem dpAll {α : Type} [Rep α] [Dat α] {W : Wc} {H : Hp} : ∀ {vs : List V} {as : List α}, Dl (den W H) vs as → DpAll W.B.K H vs (as.map Dat.toD)
  | _, _, .nil => .nil
  | _, _, .cons x y => .cons (Dat.dp x) (dpAll y)
theorem depAll {α : Type} [Rep α] [Dat α] : ∀ as : List α, PyData.depthAll (as.map Dat.toD) ≤ Dat.dep α
  | [] => Nat.zero_le _
  | a :: r => by
    have h1 := Dat.ddep a
    have h2 := depAll r
    show max (Dat.toD a).depth (PyData.depthAll (r.map Dat.toD)) ≤ _
    omega
theorem injAll {α : Type} [Rep α] [Dat α] : ∀ as bs : List α, PyData.eqvAll (as.map Dat.toD) (bs.map Dat.toD) = true ↔ as = bs
  | [], [] => ⟨fun _ => rfl, fun _ => rfl⟩
  | [], _ :: _ => ⟨fun h => Bool.noConfusion h, fun h => nomatch h⟩
  | _ :: _, [] => ⟨fun h => Bool.noConfusion h, fun h => nomatch h⟩
  | a :: r, b :: s => by
    show (PyData.eqv (Dat.toD a) (Dat.toD b) && PyData.eqvAll (r.map Dat.toD) (s.map Dat.toD)) = true ↔ _
    rw [Bool.and_eq_true, Dat.inj, injAll r s]
    exact ⟨fun h => by rw [h.1, h.2], fun h => by injection h with h1 h2; exact ⟨h1, h2⟩⟩
theorem shpAll {α : Type} [Rep α] [Dat α] : ∀ as : List α, (∀ a ∈ as, Dat.good a) → PyData.canLayAll0 (as.map Dat.toD) = true
  | [], _ => rfl
  | a :: r, h => by
    show ((Dat.toD a).canLay0 && PyData.canLayAll0 (r.map Dat.toD)) = true
    rw [Dat.gshp _ (h a List.mem_cons_self), shpAll r fun x hx => h x (List.mem_cons_of_mem _ hx)]
    rfl
instance {α : Type} [Rep α] [Dat α] : Dat (List α) where
  toD := fun x => .list (x.map Dat.toD)
  dp := fun ⟨p, vs, hv, s, h⟩ => by
    subst hv
    exact .lst s.sq (dpAll h)
  dep := Dat.dep α + 1
  ddep := fun x => Nat.succ_le_succ (depAll x)
  inj := fun x y => injAll x y
  good := fun x => ∀ a ∈ x, Dat.good a
  gshp := fun x h => shpAll x h
section
variable {W : Wd} {Γ : Gam} {ta tb tc te : TE} {tt tu : TT}
theorem shaped_of {α : Type} [Rep α] [Dat α] {a : α} (g : Dat.good a) (h : Dat.dep α ≤ 64) : SeqAt.shaped (Dat.toD a) = true := by
  unfold SeqAt.shaped
  rw [Dat.gshp a g, decide_eq_true (Nat.le_trans (Dat.ddep a) h)]
  rfl
theorem eqv_dec {α : Type} [Rep α] [Dat α] [DecidableEq α] (a b : α) : PyData.eqv (Dat.toD a) (Dat.toD b) = decide (a = b) := by
  by_cases e : a = b
  · rw [decide_eq_true e]; exact (Dat.inj a b).mpr e
  · rw [decide_eq_false e]
    cases q : PyData.eqv (Dat.toD a) (Dat.toD b) with
    | false => rfl
    | true => exact absurd ((Dat.inj a b).mp q) e
theorem ev_ixL {α : Type} {rα : Rep α} {K : PySem.W.Frag} {k : α → Prop} (hK : W.B.K = K) (h : EvK W ta Γ fun as : List α => EvK W tb Γ fun i : Int => ∃ a, atI as i = some a ∧ k a) : EvK W (tOp (rIxL K) ta tb) Γ k := by
  subst hK
  refine ev_two (h.imp fun as ha => ha.imp fun i ⟨a, hi, z⟩ x y H Q o dx dy c => ?_)
  obtain ⟨p, vs, rfl, hp, hd⟩ := dx
  have e : ∃ v, atI vs i = some v ∧ den W H v a := by
    unfold atI at hi ⊢
    rw [hd.length]
    cases q : ixN as.length i with
    | none => rw [q] at hi; cases hi
    | some j =>
      rw [q, Option.bind_some] at hi
      rw [Option.bind_some]
      exact hd.at' hi
  obtain ⟨v, hv, dv⟩ := e
  exact ⟨p, vs, i, v, rfl, dy, hp.sq, hv, c _ H a (Ext.refl o) dv z⟩
theorem ev_ixT0 {α β : Type} {rα : Rep α} {rβ : Rep β} {K : PySem.W.Frag} {k : α → Prop} (hK : W.B.K = K) (h : EvK W ta Γ fun p : α × β => k p.1) : EvK W (tOp (rIxT K) ta (tC (.int 0))) Γ k := by
  subst hK
  refine fun σ H Q E c => h σ H _ E fun v H1 a e1 ⟨p, x, y, hv, s, d1, d2⟩ z => ?_
  exact ⟨p, _, 0, x, hv, rfl, s.sq, rfl, c _ H1 _ e1 d1 z⟩
theorem ev_ixT1 {α β : Type} {rα : Rep α} {rβ : Rep β} {K : PySem.W.Frag} {k : β → Prop} (hK : W.B.K = K) (h : EvK W ta Γ fun p : α × β => k p.2) : EvK W (tOp (rIxT K) ta (tC (.int 1))) Γ k := by
  subst hK
  refine fun σ H Q E c => h σ H _ E fun v H1 a e1 ⟨p, x, y, hv, s, d1, d2⟩ z => ?_
  exact ⟨p, _, 1, y, hv, rfl, s.sq, rfl, c _ H1 _ e1 d2 z⟩
theorem ev_cat {α : Type} {rα : Rep α} {k : List α → Prop} (h : EvK W ta Γ fun as : List α => EvK W tb Γ fun bs : List α => as.length + bs.length ≤ 100000 ∧ k (as ++ bs)) : EvK W (tOp rCat ta tb) Γ k := by
  refine ev_two (h.imp fun as ha => ha.imp fun bs ⟨hl, z⟩ x y H Q o dx dy c => ?_)
  obtain ⟨p, vs, rfl, hp, hd⟩ := dx
  obtain ⟨q, ws, rfl, hq, hd2⟩ := dy
  refine ⟨p, q, vs, ws, rfl, rfl, hp.2, hq.2, Nat.le_trans (by rw [hd.length, hd2.length]; exact hl) (by decide : 100000 ≤ sizeLine), fun l hl => ?_⟩
  have e := Ext.new (o := .lst (vs ++ ws)) o hl
  exact c _ _ _ e ⟨l, _, rfl, Lq.new (fresh_mu o hl) upd_same, (hd.append hd2).imp fun _ _ d => Rep.mono e.keep d⟩ z
theorem ev_len {α : Type} {rα : Rep α} {K : PySem.W.Frag} {k : Int → Prop} (hK : W.B.K = K) (h : EvK W te Γ fun as : List α => k (as.length : Int)) : EvK W (tCB (fun xs H Q => ∃ p ys, xs = [.ref p] ∧ (SqL K H p ys ∨ SqT K H p ys) ∧ Q (.int ys.length) H) (tCons te tNil)) Γ k := by
  subst hK
  refine fun σ H Q E c => h σ H _ E fun v H1 as e1 ⟨p, vs, hv, hp, hd⟩ z => ?_
  exact ⟨p, vs, by rw [hv], .inl hp.sq, c _ H1 _ e1 (congrArg (fun n : Nat => V.int n) hd.length) z⟩
/-- int(x) of an int -/
theorem ev_intI {k : Int → Prop} (h : EvK W te Γ fun i : Int => k i) : EvK W (tCB (fun xs H Q => (∃ i, xs = [.int i] ∧ Q (.int i) H) ∨ ∃ k, xs = [.bl k] ∧ Q (.int (if k then 1 else 0)) H) (tCons te tNil)) Γ k :=
  fun σ H Q E c => h σ H _ E fun v H1 i e1 d z => .inl ⟨i, congrArg (fun x => [x]) d, c _ H1 i e1 rfl z⟩
/-- a chain of two comparisons of ints -/
theorem ev_chain {f g : Int → Int → Bool} {k : Bool → Prop} (h : EvK W ta Γ fun i : Int => EvK W tb Γ fun j : Int => (f i j = true → EvK W tc Γ fun l : Int => k (g j l)) ∧ (f i j = false → k false)) :
    EvK W (tChain (rI0 fun i j => .bl (f i j)) (rI0 fun i j => .bl (g i j)) ta tb tc) Γ k := by
  refine fun σ H Q E c => h σ H _ E fun x H1 i e1 d1 h1 => h1 σ H1 _ (E.ext e1) fun y H2 j e2 d2 h2 => ?_
  refine ⟨i, j, d1, d2, f i j, rfl, ?_⟩
  by_cases q : f i j = true
  · rw [if_pos q]
    exact h2.1 q σ H2 _ ((E.ext e1).ext e2) fun z H3 l e3 d3 h3 => ⟨j, l, d2, d3, c _ H3 _ ((e1.trans e2).trans e3) rfl h3⟩
  · rw [if_neg q]
    exact c _ H2 _ (e1.trans e2) rfl (h2.2 (by simpa using q))
end
/-- js: the slots that the target sets -/
def Sm (js : List Nat) (σ σ' : St) : Prop := σ'.length = σ.length ∧ ∀ i : Nat, i ∉ js → σ'[i]? = σ[i]?
def Tj {α : Type} [Rep α] (W : Wd) (js : List Nat) (g : TG) (Γ : Gam) (a : α) (k : Gam → Prop) : Prop :=
  ∀ σ H v (Q : St → Hp → Prop), GOk W H σ Γ → den W H v a → (∀ σ' Γ', GOk W H σ' Γ' → Sm js σ σ' → k Γ' → Q σ' H) → g v σ H Q
abbrev Tg {α : Type} [Rep α] (W : Wd) (g : TG) (Γ : Gam) (a : α) (k : Gam → Prop) : Prop := ∃ js, Tj W js g Γ a k
structure Po where
  nx : Gam → Prop
  rt : Ty → Prop
  bk : Gam → Prop := fun _ => False
  ct : Gam → Prop := fun _ => False
structure EOk (W : Wd) (H : Hp) (D : Ends) (R : Po) : Prop where
  nx : ∀ σ' H' Γ', Ext W H H' → GOk W H' σ' Γ' → R.nx Γ' → D.nx σ' H'
  rt : ∀ v H' (t : Ty), Ext W H H' → t.den W H' v → R.rt t → D.rt v H'
  bk : ∀ σ' H' Γ', Ext W H H' → GOk W H' σ' Γ' → R.bk Γ' → D.bk σ' H'
  ct : ∀ σ' H' Γ', Ext W H H' → GOk W H' σ' Γ' → R.ct Γ' → D.ct σ' H'
theorem EOk.ext {W : Wd} {H H1 : Hp} {D : Ends} {R : Po} (h : EOk W H D R) (e : Ext W H H1) : EOk W H1 D R :=
  ⟨fun a b c d => h.nx a b c (e.trans d), fun a b c d => h.rt a b c (e.trans d), fun a b c d => h.bk a b c (e.trans d), fun a b c d => h.ct a b c (e.trans d)⟩
def Sx (W : Wd) (t : TS) (Γ : Gam) (R : Po) : Prop := ∀ D σ H, GOk W H σ Γ → EOk W H D R → t D σ H
section
variable {W : Wd} {Γ : Gam} {ta tb tc te : TE} {tt : TT} {t u : TS} {R : Po} {g : TG}
theorem tj_name {α : Type} {rα : Rep α} {i : Nat} {a : α} {k : Gam → Prop} (q : k (Γ.set i (some (T a)))) : Tj W [i] (gName i) Γ a k := fun σ H v Q E d c =>
  c _ _ (E.set i (t := T a) d) ⟨List.length_set, fun j hj => List.getElem?_set_ne (fun z => hj (by rw [z]; exact List.mem_singleton.mpr rfl))⟩ q
theorem tj_tup2 {α β : Type} {rα : Rep α} {rβ : Rep β} {K : PySem.W.Frag} {g1 g2 : TG} {j1 j2 : List Nat} {a : α × β} {k : Gam → Prop} (hK : W.B.K = K) (q : Tj W j1 g1 Γ a.1 fun Γ1 => Tj W j2 g2 Γ1 a.2 k) : Tj W (j1 ++ j2) (gTup K 2 (gCons g1 (gCons g2 gNil))) Γ a k := by
  subst hK
  refine fun σ H v Q E ⟨p, x, y, hv, s, d1, d2⟩ c => ⟨p, [x, y], hv, s.sq, rfl, ?_⟩
  refine ⟨x, [y], rfl, ?_⟩
  refine q σ H x _ E d1 fun σ1 Γ1 E1 m1 q1 => ?_
  exact ⟨y, [], rfl, q1 σ1 H y _ E1 d2 fun σ2 Γ2 E2 m2 q2 => ⟨rfl, c σ2 Γ2 E2 ⟨m2.1.trans m1.1, fun i hi => (m2.2 i fun z => hi (List.mem_append_right _ z)).trans (m1.2 i fun z => hi (List.mem_append_left _ z))⟩ q2⟩⟩
theorem tj_tup3 {α β γ : Type} {rα : Rep α} {rβ : Rep β} {rγ : Rep γ} {K : PySem.W.Frag} {g1 g2 g3 : TG} {j1 j2 j3 : List Nat} {a : T3 α β γ} {k : Gam → Prop} (hK : W.B.K = K) (q : Tj W j1 g1 Γ a.a fun Γ1 => Tj W j2 g2 Γ1 a.b fun Γ2 => Tj W j3 g3 Γ2 a.c k) : Tj W (j1 ++ (j2 ++ j3)) (gTup K 3 (gCons g1 (gCons g2 (gCons g3 gNil)))) Γ a k := by
  subst hK
  refine fun σ H v Q E ⟨p, x, y, z, hv, s, d1, d2, d3⟩ c => ⟨p, [x, y, z], hv, s.sq, rfl, ?_⟩
  refine ⟨x, [y, z], rfl, ?_⟩
  refine q σ H x _ E d1 fun σ1 Γ1 E1 m1 q1 => ⟨y, [z], rfl, ?_⟩
  refine q1 σ1 H y _ E1 d2 fun σ2 Γ2 E2 m2 q2 => ⟨z, [], rfl, ?_⟩
  exact q2 σ2 H z _ E2 d3 fun σ3 Γ3 E3 m3 q3 => ⟨rfl, c σ3 Γ3 E3 ⟨(m3.1.trans m2.1).trans m1.1, fun i hi => ((m3.2 i fun z => hi (List.mem_append_right _ (List.mem_append_right _ z))).trans (m2.2 i fun z => hi (List.mem_append_right _ (List.mem_append_left _ z)))).trans (m1.2 i fun z => hi (List.mem_append_left _ z))⟩ q3⟩
theorem tg_name {α : Type} {rα : Rep α} {i : Nat} {a : α} {k : Gam → Prop} (q : k (Γ.set i (some (T a)))) : Tg W (gName i) Γ a k := ⟨_, tj_name q⟩
theorem tg_of {α : Type} {rα : Rep α} {js : List Nat} {a : α} {k : Gam → Prop} (q : Tj W js g Γ a k) : Tg W g Γ a k := ⟨_, q⟩
theorem sx_seq (h : Sx W t Γ { R with nx := fun Γ' => Sx W u Γ' R }) : Sx W (tSeq t u) Γ R := fun D σ H E O =>
  h _ σ H E ⟨fun σ' H' Γ' e G q => q D σ' H' G (O.ext e), O.rt, O.bk, O.ct⟩
theorem sx_next (q : R.nx Γ) : Sx W tNext Γ R := fun D σ H E O => O.nx σ H Γ (Ext.refl E.ok) E q
theorem sx_asg {α : Type} {rα : Rep α} (h : EvK W te Γ fun a : α => Tg W g Γ a R.nx) : Sx W (tAsg te g) Γ R := fun D σ H E O =>
  h σ H _ E fun v H1 a e1 d ⟨_, h1⟩ => h1 σ H1 v _ (E.ext e1) d fun σ' Γ' G _ q => O.nx σ' H1 Γ' e1 G q
theorem sx_set {α : Type} {rα : Rep α} {i : Nat} (h : EvK W te Γ fun a : α => R.nx (Γ.set i (some (T a)))) : Sx W (tAsg te (gName i)) Γ R := sx_asg (h.imp fun a q => tg_name q)
theorem sx_drop {α : Type} {rα : Rep α} (h : EvK W te Γ fun _ : α => R.nx Γ) : Sx W (tDrop te) Γ R := fun D σ H E O =>
  h σ H _ E fun v H1 a e1 d q => O.nx σ H1 Γ e1 (E.ext e1) q
theorem sx_ret {α : Type} {rα : Rep α} (h : EvK W te Γ fun a : α => R.rt (T a)) : Sx W (tRet te) Γ R := fun D σ H E O =>
  h σ H _ E fun v H1 a e1 d q => O.rt v H1 (T a) e1 d q
theorem sx_retN (q : R.rt (T ())) : Sx W tRetN Γ R := fun D σ H E O => O.rt .non H (T ()) (Ext.refl E.ok) rfl q
theorem sx_if (h : EvT W tt Γ fun b => (b = true → Sx W t Γ R) ∧ (b = false → Sx W u Γ R)) : Sx W (tIfS tt t u) Γ R := fun D σ H E O =>
  h σ H _ E fun H1 b e1 ⟨h1, h2⟩ => by
    cases b with
    | true => exact h1 rfl D σ H1 (E.ext e1) (O.ext e1)
    | false => exact h2 rfl D σ H1 (E.ext e1) (O.ext e1)
/-- for x in a list -/
theorem sx_forL {α : Type} {rα : Rep α} {K : PySem.W.Frag} (hK : W.B.K = K) (h : EvK W te Γ fun as : List α => ∃ I : Nat → Gam → Prop, I 0 Γ ∧
      (∀ (i : Nat) (a : α) Γ', as[i]? = some a → I i Γ' → Tg W g Γ' a fun Γ1 => Sx W t Γ1 { R with nx := I (i + 1), ct := I (i + 1), bk := R.nx }) ∧ ∀ Γ', I as.length Γ' → R.nx Γ') : Sx W (tFor (iList K te) g t) Γ R := by
  subst hK
  refine fun D σ H E O => h σ H _ E fun v H1 as e1 ⟨p, vs, hv, hp, hd⟩ ⟨I, h0, hs, hl⟩ => ?_
  refine ⟨p, hv, ⟨vs, hp.sq⟩, for_list (K := W.B.K) (a := p) (xs := vs) (fun i σ' H' => Ext W H1 H' ∧ ∃ Γ', GOk W H' σ' Γ' ∧ I i Γ') ⟨Ext.refl e1.ok, Γ, E.ext e1, h0⟩ (fun i σ' H' _ ⟨e, _⟩ => (hp.mono e.keep).sq) ?_ ?_⟩
  · rintro i x σ' H' hx ⟨e, Γ', G, q⟩
    obtain ⟨a, ha, da⟩ := (hd.imp fun _ _ d => Rep.mono e.keep d).at hx
    obtain ⟨js, hj⟩ := hs i a Γ' ha q
    refine hj σ' H' x _ G da fun σ2 Γ2 G2 _ q2 => ?_
    exact q2 _ σ2 H' G2 ⟨fun σ3 H3 Γ3 e3 G3 q3 => ⟨e.trans e3, Γ3, G3, q3⟩, fun v3 H3 t3 e3 d3 q3 => O.rt v3 H3 t3 ((e1.trans e).trans e3) d3 q3,
      fun σ3 H3 Γ3 e3 G3 q3 => O.nx σ3 H3 Γ3 ((e1.trans e).trans e3) G3 q3, fun σ3 H3 Γ3 e3 G3 q3 => ⟨e.trans e3, Γ3, G3, q3⟩⟩
  · rintro σ' H' ⟨e, Γ', G, q⟩
    rw [hd.length] at q
    exact O.nx σ' H' Γ' (e1.trans e) G (hl Γ' q)
/-- for x in range(n) -/
theorem sx_forR {R : Po} (h : EvK W te Γ fun n : Int => (-(2 ^ 62) ≤ n ∧ n < 2 ^ 62) ∧ ∃ I : Nat → Gam → Prop, I 0 Γ ∧
      (∀ (i : Nat) Γ', i < n.toNat → I i Γ' → Tg W g Γ' (i : Int) fun Γ1 => Sx W t Γ1 { R with nx := I (i + 1), ct := I (i + 1), bk := R.nx }) ∧ ∀ Γ', I n.toNat Γ' → R.nx Γ') : Sx W (tFor (iRng1 (tCons te tNil)) g t) Γ R := by
  refine fun D σ H E O => h σ H _ E fun v H1 n e1 hv ⟨⟨b1, b2⟩, I, h0, hs, hl⟩ => ?_
  refine ⟨n, congrArg (fun x => [x]) hv, b1, b2, for_range (lo := 0) (n := n.toNat) (fun i σ' H' => Ext W H1 H' ∧ ∃ Γ', GOk W H' σ' Γ' ∧ I i Γ') ⟨Ext.refl e1.ok, Γ, E.ext e1, h0⟩ ?_ ?_⟩
  · rintro i σ' H' hi ⟨e, Γ', G, q⟩
    obtain ⟨js, hj⟩ := hs i Γ' hi q
    refine hj σ' H' _ _ G (by show V.int ((0 : Int) + i) = .int i; rw [Int.zero_add]) fun σ2 Γ2 G2 _ q2 => ?_
    exact q2 _ σ2 H' G2 ⟨fun σ3 H3 Γ3 e3 G3 q3 => ⟨e.trans e3, Γ3, G3, q3⟩, fun v3 H3 t3 e3 d3 q3 => O.rt v3 H3 t3 ((e1.trans e).trans e3) d3 q3,
      fun σ3 H3 Γ3 e3 G3 q3 => O.nx σ3 H3 Γ3 ((e1.trans e).trans e3) G3 q3, fun σ3 H3 Γ3 e3 G3 q3 => ⟨e.trans e3, Γ3, G3, q3⟩⟩
  · rintro σ' H' ⟨e, Γ', G, q⟩
    exact O.nx σ' H' Γ' (e1.trans e) G (hl Γ' q)
end
theorem wipe_in {σ : St} {i : Nat} : ∀ {vs : List Nat}, i ∈ vs → i < σ.length → (wipe σ vs)[i]? = some none
  | j :: r, h, hl => by
    show ((wipe σ r).set j none)[i]? = some none
    by_cases e : j = i
    · subst e
      exact List.getElem?_set_self (by rw [wipe_length]; exact hl)
    · rw [List.getElem?_set_ne e]
      exact wipe_in ((List.mem_cons.mp h).resolve_left fun z => e z.symm) hl
theorem wipe_same {σ σ' : St} {vs js : List Nat} (h : Sm js (wipe σ vs) σ') (hs : ∀ j ∈ js, j ∈ vs) : wipe σ' vs = wipe σ vs := by
  have hl : σ'.length = σ.length := h.1.trans (wipe_length _ _)
  refine List.ext_getElem? fun i => ?_
  by_cases hi : i ∈ vs
  · by_cases hn : i < σ.length
    · rw [wipe_in hi hn, wipe_in hi (by rw [hl]; exact hn)]
    · rw [List.getElem?_eq_none (by rw [wipe_length, hl]; omega), List.getElem?_eq_none (by rw [wipe_length]; omega)]
  · rw [wipe_out hi, h.2 i fun z => hi (hs i z)]
section
variable {W : Wd} {Γ : Gam} {tl te : TE} {tt : TT} {g : TG}
/-- a turn of a comprehension: the item a; I holds of what is made so far -/
def LcTurn {α β : Type} [Rep α] [Rep β] (W : Wd) (g : TG) (tt : TT) (te : TE) (vs : List Nat) (Γ : Gam) (a : α) (no : Prop) (yes : β → Prop) : Prop :=
  ∃ js : List Nat, (js.all fun j => vs.contains j) = true ∧ Tj W js g (wipeE Γ vs) a fun Γ1 => EvT W tt Γ1 fun b => (b = true → EvK W te Γ1 yes) ∧ (b = false → no)
theorem lc_turn {α β : Type} {rα : Rep α} {rβ : Rep β} {vs : List Nat} {D : Addr} {H1 : Hp} {n : H1 D = none} {o1 : W.ok H1} {w1 : W.wish H1} {σ : St} {H' : Hp} {x : V} {a : α} {acc : List V} {bs : List β} {I : List β → Prop} {P : Hp → Prop}
    (t : LcTurn (W.plus D acc H1 n o1 w1) g tt te vs Γ a (I bs) fun y : β => I (bs ++ [y])) (G : GOk W H1 σ Γ) (e : Ext W H1 H') (hD : H' D = some (.lst acc)) (hb : Dl (den (W.toWc.plus D) H') acc bs) (da : den W H1 x a) (hz : acc.length < 100000)
    (fin : ∀ H2 acc2 bs2, Ext W H1 H2 → H2 D = some (.lst acc2) → Dl (den (W.toWc.plus D) H2) acc2 bs2 → acc2.length ≤ acc.length + 1 → I bs2 → P H2) :
    g x (wipe σ vs) H' fun σ2 H2 => wipe σ2 vs = wipe σ vs ∧ tt σ2 H2 fun b H3 => if b = true then te σ2 H3 fun y H4 => ∃ acc, H4 D = some (.lst acc) ∧ acc.length < sizeLine ∧ P (upd H4 D (.lst (acc ++ [y]))) else P H3 := by
  obtain ⟨js, hjs, t⟩ := t
  have nm : ¬ W.mu D := fresh_mu o1 n
  have kp : Kp (W.toWc.plus D) H1 H' := fun b o m z => e.keep b o (fun z => m (.inl z)) z
  have ok' : (W.plus D acc H1 n o1 w1).ok H' := ⟨e.ok, hD⟩
  have G' : GOk (W.plus D acc H1 n o1 w1) H' σ Γ := ⟨ok', fun b o m z => e.keep b o m z, fun i t h => by
    obtain ⟨v, h1, h2⟩ := G.at_ i t h
    exact ⟨v, h1, Ty.mono kp (t.r.grow D n h2)⟩, G.len⟩
  have back : ∀ H2, Ext (W.plus D acc H1 n o1 w1) H' H2 → Ext W H1 H2 := fun H2 e2 => ⟨fun b o m z => by
    have hb : b ≠ D := fun q => by subst q; rw [n] at z; cases z
    exact e2.keep b o (fun q => q.elim m hb) (e.keep b o m z), e2.ok.1⟩
  refine t (wipe σ vs) H' x _ (G'.wipe vs) (Rep.mono kp (Rep.grow D n da)) fun σ2 Γ2 G2 m2 q2 => ⟨?_, ?_⟩
  · exact wipe_same m2 fun j hj => by
      have := List.all_eq_true.mp hjs j hj
      simpa using this
  · refine q2 σ2 H' _ G2 fun H3 b e3 ⟨hy, hn⟩ => ?_
    have hD3 : H3 D = some (.lst acc) := e3.ok.2
    cases b with
    | false =>
      show P H3
      exact fin H3 acc bs (back H3 e3) hD3 (hb.imp fun _ _ d => Rep.mono e3.keep d) (Nat.le_succ _) (hn rfl)
    | true =>
      show te σ2 H3 _
      refine hy rfl σ2 H3 _ (G2.ext e3) fun y H4 b4 e4 d4 q4 => ?_
      have hD4 : H4 D = some (.lst acc) := e4.ok.2
      refine ⟨acc, hD4, Nat.lt_of_lt_of_le hz (by decide : 100000 ≤ sizeLine), ?_⟩
      have e5 := back H4 (e3.trans e4)
      have k5 : Kp (W.toWc.plus D) H4 (upd H4 D (.lst (acc ++ [y]))) := fun b o m z => by
        rw [upd_ne (fun q => m (.inr q))]
        exact z
      refine fin _ (acc ++ [y]) (bs ++ [b4]) ⟨fun b o m z => ?_, W.st _ _ _ e5.ok nm⟩ upd_same ?_ (by rw [List.length_append]; exact Nat.le_refl _) q4
      · rw [upd_ne (fun q => by subst q; rw [n] at z; cases z)]
        exact e5.keep b o m z
      · refine Dl.append (hb.imp fun _ _ d => Rep.mono k5 (Rep.mono (e3.trans e4).keep d)) (.cons (Rep.mono k5 d4) .nil)
/-- a new list: at p, not there before; its items do not lean on p -/
def EvF {β : Type} [Rep β] (W : Wd) (te : TE) (Γ : Gam) (k : List β → Prop) : Prop :=
  ∀ σ H (Q : VK), GOk W H σ Γ → (∀ p H' vs (bs : List β), H p = none → Ext W H H' → H' p = some (.lst vs) → Dl (den (W.toWc.plus p) H') vs bs → k bs → Q (.ref p) H') → te σ H Q
theorem fresh_back {W : Wd} {H H' : Hp} {p : Addr} (o : W.ok H') (e : Ext W H H') (h : H' p = none) : H p = none := by
  cases q : H p with
  | none => rfl
  | some u =>
    rw [e.keep p u (fresh_mu o h) q] at h
    cases h
theorem EvF.k {β : Type} {rβ : Rep β} {k : List β → Prop} (h : EvF W te Γ k) : EvK W te Γ k := fun σ H Q E c =>
  h σ H Q E fun p H' vs bs n e hp hb q => c (.ref p) H' bs e ⟨p, vs, rfl, Lq.new (fun m => by
    obtain ⟨o, z⟩ := W.live H p E.ok m
    rw [n] at z
    cases z) hp, hb.imp fun _ _ d => Rep.shrink p d⟩ q
/-- [te for g in a list if tt] -/
theorem evF_lc {α β : Type} {rα : Rep α} {rβ : Rep β} {K : PySem.W.Frag} {vs : List Nat} {k : List β → Prop} (hK : W.B.K = K)
    (h : EvK W tl Γ fun as : List α => as.length ≤ 100000 ∧ ∃ I : Nat → List β → Prop, I 0 [] ∧ (∀ W', Sub W W' → ∀ (i : Nat) (a : α) (bs : List β), as[i]? = some a → I i bs → LcTurn W' g tt te vs Γ a (I (i + 1) bs) fun y : β => I (i + 1) (bs ++ [y])) ∧ ∀ bs, I as.length bs → k bs) :
    EvF W (tLc (iList K tl) g tt te vs) Γ k := by
  subst hK
  refine fun σ H Q E c => h σ H _ E fun v H1 as e1 ⟨p, xs, hv, hp, hd⟩ ⟨hl, I, h0, hs, hf⟩ => ⟨p, hv, ⟨xs, hp.sq⟩, fun D n => ?_⟩
  have G1 := E.ext e1
  have eD : Ext W H1 (upd H1 D (.lst [])) := Ext.new e1.ok n
  refine lc_list (xs := xs) (fun i H' => Ext W H1 H' ∧ ∃ acc bs, H' D = some (.lst acc) ∧ Dl (den (W.toWc.plus D) H') acc bs ∧ acc.length ≤ i ∧ I i bs) ⟨eD, [], [], upd_same, .nil, Nat.le_refl _, h0⟩ (fun i H' _ ⟨e, _⟩ => (hp.mono e.keep).sq) ?_ ?_
  · rintro i x H' hx ⟨e, acc, bs, hD, hb, ha, q⟩
    obtain ⟨a, ea, da⟩ := hd.at hx
    have hil : i < as.length := (List.getElem?_eq_some_iff.mp ea).1
    exact lc_turn (I := I (i + 1)) (P := fun H' => Ext W H1 H' ∧ ∃ acc bs, H' D = some (.lst acc) ∧ Dl (den (W.toWc.plus D) H') acc bs ∧ acc.length ≤ i + 1 ∧ I (i + 1) bs) (hs _ (Sub.plus (n := n) (o1 := e1.ok) (w1 := G1.wish)) i a bs ea q) G1 e hD hb da (by omega) fun H2 acc2 bs2 e2 hD2 hb2 hl2 q2 => ⟨e2, acc2, bs2, hD2, hb2, by omega, q2⟩
  · rintro H' ⟨e, acc, bs, hD, hb, ha, q⟩
    rw [hd.length] at q
    exact c D H' acc bs (fresh_back e1.ok e1 n) (e1.trans e) hD hb (hf bs q)
theorem ev_lc {α β : Type} {rα : Rep α} {rβ : Rep β} {K : PySem.W.Frag} {vs : List Nat} {k : List β → Prop} (hK : W.B.K = K)
    (h : EvK W tl Γ fun as : List α => as.length ≤ 100000 ∧ ∃ I : Nat → List β → Prop, I 0 [] ∧ (∀ W', Sub W W' → ∀ (i : Nat) (a : α) (bs : List β), as[i]? = some a → I i bs → LcTurn W' g tt te vs Γ a (I (i + 1) bs) fun y : β => I (i + 1) (bs ++ [y])) ∧ ∀ bs, I as.length bs → k bs) :
    EvK W (tLc (iList K tl) g tt te vs) Γ k := (evF_lc hK h).k
/-- [te for g in range(n) if tt] -/
theorem evF_lcR {β : Type} {rβ : Rep β} {vs : List Nat} {k : List β → Prop}
    (h : EvK W tl Γ fun m : Int => m ≤ 100000 ∧ -100000 ≤ m ∧ ∃ I : Nat → List β → Prop, I 0 [] ∧ (∀ W', Sub W W' → ∀ (i : Nat) (bs : List β), i < m.toNat → I i bs → LcTurn W' g tt te vs Γ (i : Int) (I (i + 1) bs) fun y : β => I (i + 1) (bs ++ [y])) ∧ ∀ bs, I m.toNat bs → k bs) :
    EvF W (tLc (iRng1 (tCons tl tNil)) g tt te vs) Γ k := by
  refine fun σ H Q E c => h σ H _ E fun v H1 m e1 hv ⟨hl, hl2, I, h0, hs, hf⟩ => ⟨m, congrArg (fun x => [x]) hv, by omega, by omega, fun D n => ?_⟩
  have G1 := E.ext e1
  have eD : Ext W H1 (upd H1 D (.lst [])) := Ext.new e1.ok n
  refine lc_range (lo := 0) (n := m.toNat) (fun i H' => Ext W H1 H' ∧ ∃ acc bs, H' D = some (.lst acc) ∧ Dl (den (W.toWc.plus D) H') acc bs ∧ acc.length ≤ i ∧ I i bs) ⟨eD, [], [], upd_same, .nil, Nat.le_refl _, h0⟩ ?_ ?_
  · rintro i H' hi ⟨e, acc, bs, hD, hb, ha, q⟩
    exact lc_turn (I := I (i + 1)) (P := fun H' => Ext W H1 H' ∧ ∃ acc bs, H' D = some (.lst acc) ∧ Dl (den (W.toWc.plus D) H') acc bs ∧ acc.length ≤ i + 1 ∧ I (i + 1) bs) (hs _ (Sub.plus (n := n) (o1 := e1.ok) (w1 := G1.wish)) i bs hi q) G1 e hD hb (by show V.int ((0 : Int) + i) = .int i; rw [Int.zero_add]) (by omega) fun H2 acc2 bs2 e2 hD2 hb2 hl2 q2 => ⟨e2, acc2, bs2, hD2, hb2, by omega, q2⟩
  · rintro H' ⟨e, acc, bs, hD, hb, ha, q⟩
    exact c D H' acc bs (fresh_back e1.ok e1 n) (e1.trans e) hD hb (hf bs q)
/-- a pure one -/
theorem ev_lcF {α β : Type} [rα : Rep α] [rβ : Rep β] {K : PySem.W.Frag} {vs : List Nat} {k : List β → Prop} (p : α → Bool) (f : α → β) (hK : W.B.K = K)
    (h : EvK W tl Γ fun as : List α => as.length ≤ 100000 ∧ (∀ W', Sub W W' → ∀ a ∈ as, LcTurn W' g tt te vs Γ a (p a = false) fun y : β => p a = true ∧ y = f a) ∧ k ((as.filter p).map f)) :
    EvK W (tLc (iList K tl) g tt te vs) Γ k := ev_lc hK (h.imp fun as ⟨hl, hs, q⟩ => ⟨hl, fun i bs => bs = ((as.take i).filter p).map f, by simp, fun W' s i a bs ha e => by
  have ht : as.take (i + 1) = as.take i ++ [a] := by
    rw [List.take_succ, ha]; rfl
  obtain ⟨js, h1, h2⟩ := hs W' s a (List.mem_of_getElem? ha)
  refine ⟨js, h1, fun σ H v Q E d c => h2 σ H v Q E d fun σ' Γ' G m q2 => c σ' Γ' G m ?_⟩
  intro σ2 H2 Q2 E2 c2
  refine q2 σ2 H2 Q2 E2 fun H3 b e3 ⟨hy, hn⟩ => c2 H3 b e3 ⟨fun hb => (hy hb).imp fun y ⟨hp, hyf⟩ => ?_, fun hb => ?_⟩
  · have e' : bs = ((as.take i).filter p).map f := e
    show bs ++ [y] = ((as.take (i + 1)).filter p).map f
    rw [ht, List.filter_append, List.map_append, ← e', List.filter_cons_of_pos hp, hyf]; rfl
  · have e' : bs = ((as.take i).filter p).map f := e
    show bs = ((as.take (i + 1)).filter p).map f
    rw [ht, List.filter_append, List.map_append, ← e', List.filter_cons_of_neg (by rw [hn hb]; exact Bool.false_ne_true)]; simp, fun bs e => by rw [e, List.take_length]; exact q⟩)
end
/-- what a field of an error may hold -/
inductive Fv where
  | i (n : Int) | s (x : Str) | p (a b : Int) | l (xs : List Str) | no | t1 (x : Str)
def Fv.den (W : Wc) (H : Hp) (v : V) : Fv → Prop
  | .i n => Rep.dn W H v n
  | .s x => Rep.dn W H v x
  | .p a b => Rep.dn W H v (a, b)
  | .l xs => Rep.dn W H v xs
  | .no => v = .non
  | .t1 x => ∃ p, v = .ref p ∧ Tq W H p [.str x]
theorem Fv.mono {W : Wc} {H H' : Hp} {v : V} (e : Kp W H H') : ∀ {f : Fv}, f.den W H v → f.den W H' v
  | .i _, h => h
  | .s _, h => h
  | .p a b, h => Rep.mono (a := (a, b)) e h
  | .l xs, h => Rep.mono (a := xs) e h
  | .no, h => h
  | .t1 _, ⟨q, h1, h2⟩ => ⟨q, h1, h2.mono e⟩
theorem Fv.grow {W : Wc} {H : Hp} {v : V} (D : Addr) (n : H D = none) : ∀ {f : Fv}, f.den W H v → f.den (W.plus D) H v
  | .i _, h => h
  | .s _, h => h
  | .p a b, h => Rep.grow (a := (a, b)) D n h
  | .l xs, h => Rep.grow (a := xs) D n h
  | .no, h => h
  | .t1 _, ⟨q, h1, h2⟩ => ⟨q, h1, h2.grow D n⟩
theorem Fv.shrink {W : Wc} {H : Hp} {v : V} (D : Addr) : ∀ {f : Fv}, f.den (W.plus D) H v → f.den W H v
  | .i _, h => h
  | .s _, h => h
  | .p a b, h => Rep.shrink (a := (a, b)) D h
  | .l xs, h => Rep.shrink (a := xs) D h
  | .no, h => h
  | .t1 _, ⟨q, h1, h2⟩ => ⟨q, h1, h2.shrink D⟩
/-- an error that leaves: its class by name, its fields -/
structure Xn where
  c : Cn
  fs : List (Str × Fv)
inductive DF (W : Wc) (H : Hp) : List (Str × V) → List (Str × Fv) → Prop
  | nil : DF W H [] []
  | cons {x : Str} {v : V} {t : Fv} {vs : List (Str × V)} {ts : List (Str × Fv)} : t.den W H v → DF W H vs ts → DF W H ((x, v) :: vs) ((x, t) :: ts)
theorem DF.imp {W W' : Wc} {H H' : Hp} (h : ∀ (v : V) (f : Fv), f.den W H v → f.den W' H' v) : ∀ {vs : List (Str × V)} {ts : List (Str × Fv)}, DF W H vs ts → DF W' H' vs ts
  | _, _, .nil => .nil
  | _, _, .cons x y => .cons (h _ _ x) (y.imp h)
theorem DF.at {W : Wc} {H : Hp} {f : Str} {t : Fv} : ∀ {vs : List (Str × V)} {ts : List (Str × Fv)}, DF W H vs ts → ts.lookup f = some t → ∃ v, vs.lookup f = some v ∧ t.den W H v
  | _, _, .nil, h => by cases h
  | _, _, .cons (x := x) (v := v) d r, h => by
    rw [List.lookup_cons] at h ⊢
    cases q : (f == x) with
    | true =>
      rw [q] at h
      cases h
      exact ⟨v, rfl, d⟩
    | false =>
      rw [q] at h
      exact DF.at r h
def xden (W : Wc) (H : Hp) (d : Option Addr) (fs : List (Str × Fv)) : Prop := (fs = [] ∧ d = none) ∨ ∃ dd vs, d = some dd ∧ ¬ W.mu dd ∧ H dd = some (.xd vs) ∧ DF W H vs fs
/-- an error in hand -/
structure Er where
  a : Addr
  d : Option Addr
  n : Xn
instance : Rep Er where
  dn := fun W H v e => v = .ref e.a ∧ xden W H e.d e.n.fs
  mono := fun k h => ⟨h.1, h.2.imp (fun h => h) fun ⟨dd, vs, h1, h2, h3, h4⟩ => ⟨dd, vs, h1, h2, k _ _ h2 h3, h4.imp fun _ _ z => Fv.mono k z⟩⟩
  grow := fun D n h => ⟨h.1, h.2.imp (fun h => h) fun ⟨dd, vs, h1, h2, h3, h4⟩ => ⟨dd, vs, h1, mu_grow n h2 h3, h3, h4.imp fun _ _ z => Fv.grow D n z⟩⟩
  shrink := fun D h => ⟨h.1, h.2.imp (fun h => h) fun ⟨dd, vs, h1, h2, h3, h4⟩ => ⟨dd, vs, h1, fun z => h2 (.inl z), h3, h4.imp fun _ _ z => Fv.shrink D z⟩⟩
def XOk (W : Wd) (H : Hp) (E : XK) (x : Xn → Prop) : Prop := ∀ n d H', Ext W H H' → xden W H' d n.fs → x n → E (.ref (W.B.cl n.c)) d H'
/-- P rt x ts: from the arguments ts to what is wished of the answer and of an error -/
abbrev PT := (Ty → Prop) → (Xn → Prop) → List Ty → Prop
def spG (B : Bs) (P : PT) : Sp := fun vs H Q E => ∃ (W : Wd) (ts : List Ty) (rt : Ty → Prop) (x : Xn → Prop), W.B = B ∧ W.ok H ∧ DT W H vs ts ∧ P rt x ts ∧ (∀ v H' (t : Ty), Ext W H H' → t.den W H' v → rt t → Q v H') ∧ XOk W H E x
def Wd.wth (W : Wd) (E : XK) (x : Xn → Prop) : Wd where
  toWc := W.toWc
  ok := W.ok
  live := W.live
  st := W.st
  wish := fun H => XOk W H E x
  wst := fun H H' k o w n d H2 e => w n d H2 ⟨fun a u m z => e.keep a u m (k a u m z), e.ok⟩
  hasbox := W.hasbox
  boxset := W.boxset
  boxmu := W.boxmu
  oke := W.oke
theorem Ext.wth {W : Wd} {E : XK} {x : Xn → Prop} {H H' : Hp} (e : Ext (W.wth E x) H H') : Ext W H H' := ⟨e.keep, e.ok⟩
theorem start_ok {W : Wd} {H : Hp} {vs : List V} {ts : List Ty} {N : List Str} (h : W.ok H) (w : W.wish H) (d : DT W H vs ts) : GOk W H (L2.start N vs) (ts.map some ++ List.replicate (N.length - ts.length) none) := by
  refine ⟨h, w, fun i t e => ?_, by unfold L2.start; rw [List.length_append, List.length_append, List.length_map, List.length_map, List.length_replicate, List.length_replicate, d.length]⟩
  have aux : ∀ {vs : List V} {ts : List Ty} {i : Nat} {m : Nat}, DT W H vs ts → (ts.map some ++ List.replicate m none)[i]? = some (some t) → ∃ v, vs[i]? = some v ∧ t.den W H v := by
    intro vs ts i m d
    induction d generalizing i with
    | nil =>
      intro e
      rw [List.map_nil, List.nil_append] at e
      have := List.mem_of_getElem? e
      rw [List.mem_replicate] at this
      cases this.2
    | cons x _ ih =>
      intro e
      cases i with
      | zero =>
        have : some _ = some (some t) := e
        cases this
        exact ⟨_, rfl, x⟩
      | succ i =>
        obtain ⟨v, h1, h2⟩ := ih (i := i) (by simpa using e)
        exact ⟨v, by simpa using h1, h2⟩
  obtain ⟨v, h1, h2⟩ := aux d e
  refine ⟨v, ?_, h2⟩
  unfold L2.start
  have hl : i < vs.length := (List.getElem?_eq_some_iff.mp h1).1
  rw [List.getElem?_append_left (by rw [List.length_map]; exact hl), List.getElem?_map, h1]
  rfl
/-- the body of a def keeps its promise -/
theorem body_ok {B : Bs} {P : PT} {t : TS} {N : List Str} {vs : List V} {H : Hp} {Q : VK} {E : XK}
    (hb : ∀ (W : Wd) ts rt x, W.B = B → W.ok H → (∀ H', W.ok H' → W.wish H' → XOk W H' E x) → P rt x ts → Sx W t (ts.map some ++ List.replicate (N.length - ts.length) none) { nx := fun _ => rt (T ()), rt := rt })
    (h : spG B P vs H Q E) : t { nx := fun _ H' => Q .non H', rt := Q } (L2.start N vs) H := by
  obtain ⟨W, ts, rt, x, hB, ho, d, hp, hq, hx⟩ := h
  refine hb (W.wth E x) ts rt x hB ho (fun H' _ w n d2 H2 e z q => w n d2 H2 e.wth z q) hp _ _ H (start_ok ho hx d) ⟨fun σ' H' Γ' e G q => hq .non H' (T ()) e.wth rfl q, fun v H' t e z q => hq v H' t e.wth z q, fun _ _ _ _ _ q => q.elim, fun _ _ _ _ _ q => q.elim⟩
theorem len_ok {B : Bs} {P : PT} {n : Nat} (hn : ∀ rt x ts, P rt x ts → ts.length = n) : ∀ vs H Q E, spG B P vs H Q E → vs.length = n := fun vs H Q E ⟨W, ts, rt, x, _, _, d, hp, _⟩ => d.length.trans (hn rt x ts hp)
end G
set_option Elab.async false
set_option linter.all false
set_option maxRecDepth 100000
set_option maxHeartbeats 2000000
namespace G
open PySem PySem.Spec PyProof.Rows L2 StX
section
variable {X : Cx} {CX : CXT} {k n : Nat} {f g C : Addr} {sp : Sp} {E : XK} {x : Str} {e : Expr} {es : List Expr} {t : TA} {p pos : Pos}
def tCallR (sp : Sp) (E : XK) (t : TA) : TE := fun σ H Q => t σ H fun vs H1 => sp vs H1 Q E
/-- f(e, ..) by a promise of values -/
theorem pe_callR (F : FnR X.prog X.w X.K X.mg X.base CX k f sp) (hr : Room k X.A) (hg : Gl X x) (hm : X.mg x = some (.ref f)) (hk : PySem.W.keepIn X.K (.ref f) = true) (hx : Passes CX X E)
    (ha : PA X (e :: es) t) (hdb : (x == ("__debug__" : Str)) = false := by decide) (he : starEach (e :: es) X.env = (false, eval e X.env) :: starEach es X.env := by rfl) (hpl : (backTo pos (starEach es X.env)).any (·.1) = false := by rfl) :
    PE X (.Call (.Name x p) (e :: es) [] pos) (tCallR sp E t) := by
  refine ⟨fun pins s σ H Q I h => ?_⟩
  refine wpAny_Call_Name_kw (ld_glob I hg hm ?_ hdb)
  refine PySem.W.callWith_K (h₀ := X.base) I.ok.mod.kin hk (thn (ha.run pos pins s σ H _ I h) fun us s1 ⟨vs, H1, I1, r, q⟩ => ⟨I1.kIn, ?_⟩) he hpl
  exact wpAny_call (run_fnR F hr hx I1 r q)
theorem ix_listK (K : PySem.W.Frag) (h : X.K = K := by rfl) : IxR X (rIxL K) := by subst h; exact ix_list
theorem ix_tupK (K : PySem.W.Frag) (h : X.K = K := by rfl) : IxR X (rIxT K) := by subst h; exact ix_tup
theorem op_eqDK (K : PySem.W.Frag) (hu : X.A.units + 64 < cLine) (h : X.K = K := by rfl) : OpR X (compareOp .Eq) (rEqD K) := by subst h; exact op_eqD hu
theorem op_neDK (K : PySem.W.Frag) (hu : X.A.units + 64 < cLine) (h : X.K = K := by rfl) : OpR X (compareOp .NotEq) (rNeD K) := by subst h; exact op_neD hu
theorem op_inSeqK (K : PySem.W.Frag) (h : X.K = K := by rfl) : OpR X (compareOp .In) (rIn K false) := by subst h; exact op_in_seq
theorem call_lenK (K : PySem.W.Frag) (h : X.K = K := by rfl) : CallR X (.builtin "len") (fun xs H Q => ∃ p ys, xs = [.ref p] ∧ (SqL K H p ys ∨ SqT K H p ys) ∧ Q (.int ys.length) H) := by subst h; exact call_len_seq
theorem call_isiKK (K : PySem.W.Frag) (h : X.K = K := by rfl) : CallR X (.builtin "isinstance") (rIsi K) := by subst h; exact call_isi
theorem sl_listK (K : PySem.W.Frag) (h : X.K = K := by rfl) : SlR X (rSlL K) := by subst h; exact sl_list
theorem pe_fldK (K : PySem.W.Frag) {o : Expr} {fl : Str} {ta : TE} (he : PE X o ta) (hb : attributeBase o fl X.env (eval o X.env) = eval o X.env) (h : X.K = K := by rfl) : PE X (.Attribute o fl pos) (tFld K ta fl) := by subst h; exact pe_fld he hb
theorem pi_listK (K : PySem.W.Frag) {tg l : Expr} {tl : TE} (he : PE X l tl) (h : X.K = K := by rfl) : PI X tg l (iList K tl) := by subst h; exact pi_list he
theorem pi_tupK (K : PySem.W.Frag) {tg l : Expr} {tl : TE} (he : PE X l tl) (h : X.K = K := by rfl) : PI X tg l (iTup K tl) := by subst h; exact pi_tup he
theorem pt_truthK (K : PySem.W.Frag) {a : Expr} {ta : TE} (ha : PE X a ta) (he : ∀ whole, isTrue a X.env whole = (do let v ← whole; standAt a.pos; holding [v] (truthy v))) (h : X.K = K := by rfl) :
    L2.PT X a (fun σ H Q => ta σ H fun x H' => ∃ k, TruV K x H' k ∧ Q k H') := by subst h; exact pt_truth ha he
theorem inst_of {pins : List (Addr × Obj)} {σ : L2.St} {H : Hp} {s : Shared} {a dx : Addr} {fs : List (Str × V)} (I : Inv X pins σ H s) (ea : H a = some (.ins C dx fs)) : ∃ od, PySem.W.InstAt s.heap a (PySem.W.instObj C dx) C (some od) := by
  obtain ⟨mA, O, _⟩ := ins_get I.hok ea
  obtain ⟨od, J, _⟩ := O.look
  exact ⟨od, J⟩
/-- x in o, o of a class with its own __contains__ -/
def rInOwn (C : Addr) (sp : Sp) (E : XK) : R2 := fun x y H Q => ∃ a dx fs, y = .ref a ∧ H a = some (.ins C dx fs) ∧ sp [y, x] H (fun v H' => ∃ b, v = .bl b ∧ Q (.bl b) H') E
def rNotInOwn (C : Addr) (sp : Sp) (E : XK) : R2 := fun x y H Q => ∃ a dx fs, y = .ref a ∧ H a = some (.ins C dx fs) ∧ sp [y, x] H (fun v H' => ∃ b, v = .bl b ∧ Q (.bl (!b)) H') E
theorem op_inOwn (m : Meth X.K C "__contains__" g) (F : FnR X.prog X.w X.K X.mg X.base CX n g sp) (hr : Room n X.A) (hx : Passes CX X E) : OpR X (compareOp .In) (rInOwn C sp E) := by
  intro pins s σ H x y v u Q I rx ry h
  obtain ⟨a, dx, fs, rfl, ea, q⟩ := h
  cases (show u = Value.ref a from ry)
  obtain ⟨od, J⟩ := inst_of I ea
  obtain ⟨m', hF⟩ := I.fr
  refine PySem.W.in_K hF I.ok.mod.kin J m.at_ m.fn ?_
  refine wpAny_mono (wpAny_call (run_fnR (us := [.ref a, v]) (vs := [.ref a, x]) F hr hx I (.cons rfl (.cons rx .nil)) q)) (fun w s' z => ?_) fun _ _ x => x
  obtain ⟨z', H', I', rz, b, eb, qz⟩ := z
  subst eb
  cases rz
  exact wpAny_truthy_bool ⟨.bl b, H', I', rfl, qz⟩
theorem op_notInOwn (m : Meth X.K C "__contains__" g) (F : FnR X.prog X.w X.K X.mg X.base CX n g sp) (hr : Room n X.A) (hx : Passes CX X E) : OpR X (compareOp .NotIn) (rNotInOwn C sp E) := by
  intro pins s σ H x y v u Q I rx ry h
  obtain ⟨a, dx, fs, rfl, ea, q⟩ := h
  cases (show u = Value.ref a from ry)
  obtain ⟨od, J⟩ := inst_of I ea
  obtain ⟨m', hF⟩ := I.fr
  refine PySem.W.notIn_K hF I.ok.mod.kin J m.at_ m.fn ?_
  refine wpAny_mono (wpAny_call (run_fnR (us := [.ref a, v]) (vs := [.ref a, x]) F hr hx I (.cons rfl (.cons rx .nil)) q)) (fun w s' z => ?_) fun _ _ x => x
  obtain ⟨z', H', I', rz, b, eb, qz⟩ := z
  subst eb
  cases rz
  exact wpAny_truthy_bool ⟨.bl (!b), H', I', rfl, qz⟩
end
section
variable {W : Wd} {Γ : Gam} {ta : TA} {te tb to : TE}
theorem ev_callR {α : Type} {rα : Rep α} {B : Bs} {P : PT} {E : XK} {k : α → Prop} (hB : W.B = B) (h : EvA W ta Γ fun ts => P (fun t => ∃ a : α, t = T a ∧ k a) (fun _ => False) ts) : EvK W (tCallR (spG B P) E ta) Γ k := fun σ H Q G c =>
  h σ H _ G fun vs H1 ts e1 d z => ⟨W, ts, _, _, hB, e1.ok, d, z, fun v H2 t e2 dt ⟨a, ea, q⟩ => by
    subst ea
    exact c v H2 a (e1.trans e2) dt q, fun n d2 H2 _ _ q => q.elim⟩
/-- data that is an instance of the class named c -/
class Ins (β : Type) [Rep β] (c : outParam Cn) (fl : outParam (List Str)) : Prop where
  at_ : ∀ {W : Wc} {H : Hp} {v : V} {b : β}, den W H v b → ∃ a dx fs, v = .ref a ∧ ¬ W.mu a ∧ H a = some (.ins (W.B.cl c) dx fs) ∧ fs.map (·.1) = fl
/-- the class of such data is at C -/
def OwnG (β : Type) [Rep β] (B : Bs) (C : Addr) (G : Prop) : Prop := ∃ c fl, Ins β c fl ∧ B.cl c = C ∧ G
theorem own_in {β : Type} [Rep β] {c : Cn} {fl : List Str} [i : Ins β c fl] {B : Bs} {C : Addr} {G : Prop} (hC : B.cl c = C) (h : G) : OwnG β B C G := ⟨c, fl, i, hC, h⟩
theorem ev_inOwn {α β : Type} {rα : Rep α} {rβ : Rep β} {C : Addr} {B : Bs} {P : PT} {E : XK} {k : Bool → Prop} (hB : W.B = B)
    (h : EvK W te Γ fun a : α => EvK W tb Γ fun s : β => OwnG β B C (P (fun t => ∃ b : Bool, t = T b ∧ k b) (fun _ => False) [T s, T a])) : EvK W (tOp (rInOwn C (spG B P) E) te tb) Γ k := by
  subst hB
  refine ev_two (h.imp fun a ha => ha.imp fun s ⟨c, fl, iβ, hC, hp⟩ x y H Q o dx dy q => ?_)
  subst hC
  obtain ⟨p, dp, fs, hv, _, hH, _⟩ := iβ.at_ dy
  exact ⟨p, dp, fs, hv, hH, W, _, _, _, rfl, o, .cons (t := T s) dy (.cons (t := T a) dx .nil), hp, fun v H2 t e2 dt ⟨b, eb, kb⟩ => by
    subst eb
    exact ⟨b, dt, q _ H2 b e2 rfl kb⟩, fun n d2 H2 _ _ z => z.elim⟩
/-- what == of plain data asks: that it is data -/
def EqG {α : Type} [Rep α] (a b : α) (k : Bool → Prop) : Prop := ∃ (d : Dat α) (_ : DecidableEq α), Dat.dep α ≤ 64 ∧ (Dat.good a ∧ Dat.good b) ∧ k (decide (a = b))
theorem eqg_in {α : Type} [Rep α] [Dat α] [DecidableEq α] {a b : α} {k : Bool → Prop} (h1 : Dat.dep α ≤ 64) (h2 : Dat.good a) (h3 : Dat.good b) (h : k (decide (a = b))) : EqG a b k := ⟨inferInstance, inferInstance, h1, ⟨h2, h3⟩, h⟩
def NeG {α : Type} [Rep α] (a b : α) (k : Bool → Prop) : Prop := EqG a b fun x => k (!x)
theorem neg_in {α : Type} [Rep α] [Dat α] [DecidableEq α] {a b : α} {k : Bool → Prop} (h1 : Dat.dep α ≤ 64) (h2 : Dat.good a) (h3 : Dat.good b) (h : k (!decide (a = b))) : NeG a b k := eqg_in h1 h2 h3 h
theorem ev_eqG {α : Type} {rα : Rep α} {K : PySem.W.Frag} {k : Bool → Prop} (hK : W.B.K = K) (h : EvK W te Γ fun a : α => EvK W tb Γ fun b : α => EqG a b k) : EvK W (tOp (rEqD K) te tb) Γ k := by
  subst hK
  exact ev_two (h.imp fun a ha => ha.imp fun b ⟨d, q, h1, h2, h3⟩ x y H Q o dx dy c => ⟨_, _, Dat.dp dx, Dat.dp dy, shaped_of h2.1 h1, shaped_of h2.2 h1, c _ H _ (Ext.refl o) rfl (by rw [eqv_dec]; exact h3)⟩)
theorem ev_neG {α : Type} {rα : Rep α} {K : PySem.W.Frag} {k : Bool → Prop} (hK : W.B.K = K) (h : EvK W te Γ fun a : α => EvK W tb Γ fun b : α => NeG a b k) : EvK W (tOp (rNeD K) te tb) Γ k := by
  subst hK
  exact ev_two (h.imp fun a ha => ha.imp fun b ⟨d, q, h1, h2, h3⟩ x y H Q o dx dy c => ⟨_, _, Dat.dp dx, Dat.dp dy, shaped_of h2.1 h1, shaped_of h2.2 h1, c _ H _ (Ext.refl o) rfl (by rw [eqv_dec]; exact h3)⟩)
theorem ev_pow {n m : Int} {k : Int → Prop} (hc : CPow n m) (h : k (n ^ m.toNat)) : EvK W (tOp (rI CPow fun i j => .int (i ^ j.toNat)) (tC (.int n)) (tC (.int m))) Γ k :=
  ev_opC (ev_int (ev_int ⟨hc, h⟩))
/-- isinstance of plain data -/
class PyTy (α : Type) [Rep α] (ty : String) : Prop where
  at_ : ∀ {W : Wc} {H : Hp} {v : V} {a : α}, den W H v a → TyX W.B.K H v (.type ty)
instance : PyTy Int "int" := ⟨fun h => by cases h; exact .base (.int _)⟩
instance : PyTy Bool "bool" := ⟨fun h => by cases h; exact .base (.bl _)⟩
instance : PyTy Str "str" := ⟨fun h => by cases h; exact .base (.str _)⟩
theorem ev_isi {α : Type} {rα : Rep α} {K : PySem.W.Frag} {ty n : String} {b : Bool} {k : Bool → Prop} (hK : W.B.K = K) (i : PyTy α ty) (hb : PySem.W.kitOne K (.type ty) (.type n) = some b) (h : EvK W te Γ fun _ : α => k b) :
    EvK W (tCB (rIsi K) (tCons te (tCons (tC (.ty n)) tNil))) Γ k := by
  subst hK
  exact fun σ H Q E c => h σ H _ E fun v H1 a e1 d z => ⟨v, .ty n, _, _, b, rfl, .ty n, i.at_ d, hb, c _ H1 b e1 rfl z⟩
structure Stc where
  lo : Int
  hi : Int
  deriving DecidableEq
def stcF (lo hi : Int) : List (Str × V) := [("low", .int lo), ("high", .int hi)]
instance : Rep Stc :=
  ⟨fun W H v s => ∃ a dx, v = .ref a ∧ ¬ W.mu a ∧ H a = some (.ins (W.B.cl .Stretch) dx (stcF s.lo s.hi)),
   fun e ⟨a, dx, hv, m, h⟩ => ⟨a, dx, hv, m, e _ _ m h⟩,
   fun D n ⟨a, dx, hv, m, h⟩ => ⟨a, dx, hv, mu_grow n m h, h⟩,
   fun D ⟨a, dx, hv, m, h⟩ => ⟨a, dx, hv, fun z => m (.inl z), h⟩⟩
instance : Ins Stc .Stretch ["low", "high"] := ⟨fun ⟨a, dx, hv, m, h⟩ => ⟨a, dx, _, hv, m, h, rfl⟩⟩
theorem stc_low (lo hi : Int) : (stcF lo hi).lookup ("low" : Str) = some (V.int lo) := by simp [stcF, List.lookup]
theorem stc_high (lo hi : Int) : (stcF lo hi).lookup ("high" : Str) = some (V.int hi) := by
  have h : (("high" : Str) == ("low" : Str)) = false := by decide +kernel
  simp [stcF, List.lookup, h]
/-- what the text says of the class -/
structure StcT (B : Bs) : Prop where
  cl : Cls B.K (B.cl .Stretch)
  nlow : NoAttr B.K (B.cl .Stretch) "low"
  nhigh : NoAttr B.K (B.cl .Stretch) "high"
theorem stc_of {W : Wd} {B : Bs} (h : W.B = B) (s : StcT B) : StcT W.B := h ▸ s
theorem ev_low {K : PySem.W.Frag} {k : Int → Prop} (hK : W.B.K = K) (hS : StcT W.B) (h : EvK W te Γ fun s : Stc => k s.lo) : EvK W (tFld K te "low") Γ k := by
  subst hK
  refine fun σ H Q E c => h σ H _ E fun v H1 s e1 ⟨a, dx, hv, m, hH⟩ z => ?_
  exact ⟨a, _, dx, _, _, hv, hH, hS.cl, hS.nlow, stc_low _ _, c _ H1 _ e1 rfl z⟩
theorem ev_high {K : PySem.W.Frag} {k : Int → Prop} (hK : W.B.K = K) (hS : StcT W.B) (h : EvK W te Γ fun s : Stc => k s.hi) : EvK W (tFld K te "high") Γ k := by
  subst hK
  refine fun σ H Q E c => h σ H _ E fun v H1 s e1 ⟨a, dx, hv, m, hH⟩ z => ?_
  exact ⟨a, _, dx, _, _, hv, hH, hS.cl, hS.nhigh, stc_high _ _, c _ H1 _ e1 rfl z⟩
/-- __init__: the fields are set; or the error is made -/
def spSI (B : Bs) : Sp := fun vs H Q E => ∃ (p dx : Addr) (lo hi : Int), vs = [.ref p, .int lo, .int hi] ∧ H p = some (.ins (B.cl .Stretch) dx []) ∧
  lo ≤ hi ∧ Q .non (upd (upd H p (.ins (B.cl .Stretch) dx [("low", .int lo)])) p (.ins (B.cl .Stretch) dx (stcF lo hi)))
/-- Stretch(lo, hi), in order -/
theorem ev_stretch {B : Bs} {C : Addr} {E : XK} {ta tb : TE} {k : Stc → Prop} (hB : W.B = B) (hC : B.cl .Stretch = C) (h : EvK W ta Γ fun lo : Int => EvK W tb Γ fun hi : Int => lo ≤ hi ∧ k ⟨lo, hi⟩) : EvK W (tMakeR C (spSI B) E (tCons ta (tCons tb tNil))) Γ k := by
  subst hB
  subst hC
  refine fun σ H Q G c => h σ H _ G fun v H1 lo e1 d1 h1 => h1 σ H1 _ (G.ext e1) fun u H2 hi e2 d2 ⟨hle, z⟩ => ?_
  intro x dx nx ndx nex
  refine ⟨x, dx, lo, hi, by cases d1; cases d2; rfl, upd_same, hle, rfl, ?_⟩
  have o := e2.ok
  have m1 := fresh_mu o ndx
  have m2 := fresh_mu o nx
  have okx : W.ok (upd (upd (upd (upd H2 dx (.own x)) x (.ins (W.B.cl .Stretch) dx [])) x (.ins (W.B.cl .Stretch) dx [("low", .int lo)])) x (.ins (W.B.cl .Stretch) dx (stcF lo hi))) :=
    W.st _ _ _ (W.st _ _ _ (W.st _ _ _ (W.st _ _ _ o m1) m2) m2) m2
  refine c (.ref x) _ ⟨lo, hi⟩ ((e1.trans e2).trans ⟨fun a u _ q => ?_, okx⟩) ⟨x, dx, rfl, m2, upd_same⟩ z
  have n1 : a ≠ x := ne_of_none q nx
  have n2 : a ≠ dx := ne_of_none q ndx
  rw [upd_ne n1, upd_ne n1, upd_ne n1, upd_ne n2]
  exact q
end
theorem raw_seq {t u : TS} {D : Ends} {σ : L2.St} {H : Hp} (h : t { D with nx := u D } σ H) : tSeq t u D σ H := h
theorem raw_asg {te : TE} {g : TG} {D : Ends} {σ : L2.St} {H : Hp} (h : te σ H fun x H1 => g x σ H1 D.nx) : tAsg te g D σ H := h
theorem yes_then {σ : L2.St} {H : Hp} {A B : Hp → Prop} (h : A H) : tYes σ H fun b H3 => if b = true then A H3 else B H3 := by
  show if true = true then A H else B H
  rw [if_pos rfl]
  exact h
theorem itT {c : Bool} {A B : Prop} (hc : c = true) (h : A) : if c = true then A else B := by
  rw [if_pos hc]
  exact h
theorem itF {c : Bool} {A B : Prop} (hc : c = false) (h : B) : if c = true then A else B := by
  rw [hc, if_neg Bool.false_ne_true]
  exact h
structure Ow where
  p : Addr
instance : Rep Ow := ⟨fun _ _ v a => v = .ref a.p, fun _ h => h, fun _ _ h => h, fun _ h => h⟩
theorem GOk.plus {W : Wd} {F H1 : Hp} {σ : L2.St} {Γ : Gam} {p : Addr} {vs : List V} (G : GOk W F σ Γ) (n : F p = none) (e : Ext W F H1) (hp : H1 p = some (.lst vs)) : GOk (W.plus p vs F n G.ok G.wish) H1 σ Γ :=
  ⟨⟨e.ok, hp⟩, fun b o m z => e.keep b o m z, fun i t h => by
    obtain ⟨v, h1, h2⟩ := G.at_ i t h
    exact ⟨v, h1, Ty.mono (fun b o m z => e.keep b o (fun z => m (.inl z)) z) (t.r.grow p n h2)⟩, G.len⟩
theorem kp_upd {W : Wc} {H : Hp} {p : Addr} {o' : HO} : Kp (W.plus p) H (upd H p o') := fun b o m z => by rw [upd_ne (fun q => m (.inr q))]; exact z
def boxW (B : Bs) (b c : Addr) (hbc : b ≠ c) (cells : List V) (ns : List Int) (hc : cells = ns.map V.int) : Wd where
  B := B
  mu := fun a => a = b ∨ a = c
  box := fun a => a = b
  ok := fun H => (∃ i p s : Int, H b = some (.lst [.ref c, .int i, .int p, .int s]) ∧ 0 ≤ i ∧ 0 ≤ p) ∧ H c = some (.lst cells)
  live := fun H a ⟨⟨i, p, s, h, _⟩, h2⟩ m => by
    rcases m with m | m
    · subst m; exact ⟨_, h⟩
    · subst m; exact ⟨_, h2⟩
  st := fun H p o ⟨⟨i, q, s, h, z⟩, h2⟩ m => ⟨⟨i, q, s, by rw [upd_ne (fun e => m (.inl e.symm))]; exact h, z⟩, by rw [upd_ne (fun e => m (.inr e.symm))]; exact h2⟩
  wish := fun _ => True
  wst := fun _ _ _ _ _ => trivial
  hasbox := fun H a ⟨⟨i, q, s, h, z⟩, h2⟩ e => by
    subst e
    exact ⟨c, ns, i, q, s, hbc, h, by rw [h2, hc], z⟩
  boxset := fun H a c1 i1 p1 s1 i' p' s' ⟨⟨i, q, s, h, z⟩, h2⟩ e h1 z1 z2 => by
    subst e
    rw [h] at h1
    obtain rfl : c = c1 := by injection h1 with h1; injection h1 with h1; injection h1 with h1 _; injection h1
    exact ⟨⟨i', p', s', upd_same, z1, z2⟩, by rw [upd_ne (Ne.symm hbc)]; exact h2⟩
  boxmu := fun a e => .inl e
  oke := fun H H' ⟨⟨i, p, s, h, z⟩, h2⟩ k => ⟨⟨i, p, s, k _ _ h, z⟩, k _ _ h2⟩
/-- the rest of the law, behind its box -/
theorem law_run {B : Bs} {t : TS} {σ : L2.St} {H : Hp} {Q : VK} {b c : Addr} {ns : List Int} {s : Int} {j : Nat} (hbc : b ≠ c) (hb : H b = some (.lst [.ref c, .int 0, .int 0, .int s])) (hc : H c = some (.lst (ns.map V.int)))
    (hj : σ[j]? = some (some (.ref b))) (hQ : ∀ H', Q (.bl true) H')
    (hs : ∀ W : Wd, W.B = B → Sx W t ((List.replicate σ.length none).set j (some (T Bx.mk))) { nx := fun _ => False, rt := fun t => t = T true }) : t { nx := fun _ H' => Q .non H', rt := Q } σ H := by
  refine hs (boxW B b c hbc _ ns rfl) rfl _ σ H ⟨⟨⟨0, 0, s, hb, Int.le_refl _, Int.le_refl _⟩, hc⟩, trivial, fun i t h => ?_, by rw [List.length_set, List.length_replicate]⟩ ⟨fun _ _ _ _ _ q => q.elim, fun v H' t _ d q => ?_, fun _ _ _ _ _ q => q.elim, fun _ _ _ _ _ q => q.elim⟩
  · by_cases e : j = i
    · subst e
      have hl : j < (List.replicate σ.length (none : Option Ty)).length := by rw [List.length_replicate]; exact (List.getElem?_eq_some_iff.mp hj).1
      rw [List.getElem?_set_self hl] at h
      cases h
      exact ⟨_, hj, b, rfl, rfl⟩
    · rw [List.getElem?_set_ne e] at h
      have := List.mem_of_getElem? h
      rw [List.mem_replicate] at this
      cases this.2
  · subst q
    obtain rfl : v = .bl true := d
    exact hQ H'
theorem room {j k : Nat} {A : Around} (h : Room k A) (hjk : j ≤ k := by decide) : Room j A := h.mono hjk
theorem huD {k : Nat} {A : Around} (h : Room k A) : A.units + 64 < cLine := h.units
def DefM (K : PySem.W.Frag) (name qual : Str) (st : Stmt) (ps : List Str) (f : Addr) : Prop := ∃ fd, Fun K name qual st f fd ∧ Binds K fd ps []
structure DefAt (K : PySem.W.Frag) (mg : Str → Option Value) (name : Str) (st : Stmt) (ps : List Str) (f : Addr) : Prop where
  d : DefM K name name st ps f
  g : mg name = some (.ref f)
  kp : PySem.W.keepIn K (.ref f) = true
section
variable {P : Program} {w : World} {K : PySem.W.Frag} {mg : Str → Option Value} {base : Heap}
theorem fnR_of {st : Stmt} {N ps : List Str} {k : Nat} {sp : Sp} {f : Addr} {name qual : Str} (D : DefM K name qual st ps f) (S : FnScope N ps (defScope st)) (len : ∀ vs H Q E, sp vs H Q E → vs.length = ps.length)
    (hbody : ∀ (cdv : Value) (A : Around) (outer : List Env) (s : Shared) (H : Hp) (vs : List V) (Q : VK) (E : XK), Room k (A.deeper (envOfC qual (defScope st) s.heap.objs.size f cdv)) → sp vs H Q E →
      ∃ t, PSs (cxOf CX0 P w K mg base N qual (defScope st) f cdv A outer s H E).nox (defBody st) t ∧ t { nx := fun _ H' => Q .non H', rt := Q } (L2.start N vs) H) : FnR P w K mg base CX0 (k + 1) f sp := by
  obtain ⟨fd, F, b⟩ := D
  exact ((F.ok S len hbody).raw b .nil).imp fun vs H Q E h => by rw [List.append_nil]; exact h
end
end G
set_option Elab.async false
set_option linter.all false
set_option maxRecDepth 100000
set_option maxHeartbeats 2000000
namespace G
open PySem PySem.Spec PyProof.Rows L2 StX
section
variable {X : Cx} {e : Expr} {es : List Expr} {ta : TA} {p1 p2 pos : Pos}
/-- what the text says of GaugeError, at CG -/
structure GeT (K : PySem.W.Frag) (mg : Str → Option Value) (CG : Addr) : Prop where
  g : mg "GaugeError" = some (.ref CG)
  ga : PySem.W.specialIn K (.ref CG) "__getattribute__" = some (some (.builtin "type.__getattribute__"))
  rd : PySem.W.readsIn K CG (.type "type") = true
  at_ : PySem.W.findCls K (.ref CG) (.type "type") "__init__" = some (.val (.builtin "ValueError.__init__"))
theorem pe_geinit {pl : Sem Bool} {CG : Addr} (T : GeT X.K X.mg CG) (ha : PA X (e :: es) ta) (hg : Gl X "GaugeError" := by rfl)
    (hc : eval (.Call (.Attribute (.Name "GaugeError" p1) "__init__" p2) (e :: es) [] pos) X.env = (do
      let ov ← eval (.Name "GaugeError" p1) X.env
      standAt p2.atName
      let (f, first) ← holding [ov] (getMethod ov "__init__" pl)
      callWith pos f first (backTo pos (starEach (e :: es) X.env)) (backToKw pos (keywordEach [] X.env))) := by rfl)
    (he : starEach (e :: es) X.env = (false, eval e X.env) :: starEach es X.env := by rfl) (hpl : (backTo pos (starEach es X.env)).any (·.1) = false := by rfl) :
    PE X (.Call (.Attribute (.Name "GaugeError" p1) "__init__" p2) (e :: es) [] pos) (tVeI X.K ta) := by
  refine ⟨fun pins s σ H Q I h => ?_⟩
  refine PySem.W.methodCall_KW (ld_glob I hg T.g ?_) hc
  refine PySem.W.method_cls I.kIn T.ga (PySem.W.cls_value I.kIn T.rd T.at_ (by decide +kernel) ?_)
  show wpAny _ _ (callWith pos (Value.builtin "ValueError.__init__") [] (backTo pos (starEach (e :: es) X.env)) []) _ _ _
  refine PyProof.Rows.callWith_method1 (thn (ha.run pos pins _ σ H _ (I.tok _) h) fun us s1 ⟨vs, H1, I1, r1, a, C, ws, ev, hl, T, ea, q⟩ => ?_) he hpl
  subst ev
  cases r1 with
  | @cons _ u0 _ ur ra rw' =>
    obtain rfl : u0 = Value.ref a := ra
    have hlen : ur.length ≤ sizeLine := by
      rw [← Paired.length rw', sizeLine_eq]
      omega
    exact oinit_ok T I1 ea hlen fun s' J => ⟨.non, H1, J, rfl, q⟩
end
/-- numbers that can be written into a text -/
def Small (i : Int) : Prop := i.natAbs.log2 < 1920
theorem small_of {i : Int} (h : i.natAbs < 2 ^ 1000) : Small i := by
  unfold Small
  rcases Nat.eq_zero_or_pos i.natAbs with h0 | h0
  · rw [h0]; decide
  · have := (Nat.log2_lt (by omega)).mpr h
    omega
/-- __init__ of Stretch, all of it -/
def spSIX (B : Bs) : Sp := fun vs H Q E => ∃ (p dx : Addr) (lo hi : Int), vs = [.ref p, .int lo, .int hi] ∧ H p = some (.ins (B.cl .Stretch) dx []) ∧
  (lo ≤ hi → Q .non (upd (upd H p (.ins (B.cl .Stretch) dx [("low", .int lo)])) p (.ins (B.cl .Stretch) dx (stcF lo hi)))) ∧
  (hi < lo → Small lo ∧ Small hi ∧ ∀ d, H d = none → E (.ref (B.cl .BadStretch)) (some d) (upd H d (.xd [("high", .int hi), ("low", .int lo)])))
theorem XOk.ext {W : Wd} {H H' : Hp} {E : XK} {x : Xn → Prop} (w : XOk W H E x) (e : Ext W H H') : XOk W H' E x := fun n d H2 e2 => w n d H2 (e.trans e2)
section
variable {X : Cx} {CX : CXT} {k n : Nat} {f g C : Addr} {sp : Sp} {E : XK} {o e : Expr} {es : List Expr} {to te ta : TE} {t : TA} {p p' pos apos : Pos} {m : Str}
theorem pe_geinitK (K : PySem.W.Frag) {p1 p2 : Pos} {pl : Sem Bool} {CG : Addr} (T : GeT X.K X.mg CG) (ha : PA X (e :: es) t) (hK : X.K = K := by rfl) (hg : Gl X "GaugeError" := by rfl)
    (hc : eval (.Call (.Attribute (.Name "GaugeError" p1) "__init__" p2) (e :: es) [] pos) X.env = (do
      let ov ← eval (.Name "GaugeError" p1) X.env
      standAt p2.atName
      let (f, first) ← holding [ov] (getMethod ov "__init__" pl)
      callWith pos f first (backTo pos (starEach (e :: es) X.env)) (backToKw pos (keywordEach [] X.env))) := by rfl)
    (he : starEach (e :: es) X.env = (false, eval e X.env) :: starEach es X.env := by rfl) (hpl : (backTo pos (starEach es X.env)).any (·.1) = false := by rfl) :
    PE X (.Call (.Attribute (.Name "GaugeError" p1) "__init__" p2) (e :: es) [] pos) (tVeI K t) := by subst hK; exact pe_geinit T ha hg hc he hpl
theorem ps_ostK (K : PySem.W.Frag) (ho : PE X o to) (he : PE X e te) (hs : swapsWith e (some (.Attribute o m p')) pos.line X.env = pure false := by rfl) (hK : X.K = K := by rfl) : PS X (.Assign [.Attribute o m p'] e pos) (tOst K m to te) := by subst hK; exact ps_ost ho he hs
/-- C(e, ..), an error with its own __init__ -/
theorem pmk_oexR {x : Str} {C fI : Addr} (T : OexC X.K C) (iC : PySem.W.findIn X.K (.ref C) "__init__" = some (some (.ref fI))) (tI : PySem.W.typeIn X.K (.ref fI) = some (.type "function"))
    (F : FnR X.prog X.w X.K X.mg X.base CX k fI sp) (hr : Room (k + 1) X.A) (hx : Passes CX X (fun _ _ _ => False)) (hg : Gl X x) (hm : X.mg x = some (.ref C)) (ha : PA X (e :: es) t)
    (hdb : (x == ("__debug__" : Str)) = false := by decide) (he : starEach (e :: es) X.env = (false, eval e X.env) :: starEach es X.env := by rfl) (hpl : (backTo pos (starEach es X.env)).any (·.1) = false := by rfl) :
    PMk X (.Call (.Name x p) (e :: es) [] pos) (tMkO C sp [] t) := by
  intro pins s σ H Q I h
  obtain ⟨nm, q, N, bs, bm, sn, sub, ab, col, dd, k0, k1, k2, k3, k5, hC, hbm⟩ := T.cls
  refine wpAny_Call_Name_kw (ld_glob I hg hm ?_ hdb)
  refine PySem.W.callWith_K (h₀ := X.base) I.ok.mod.kin T.kC (thn (ha.run pos pins s σ H _ I h) fun us s1 ⟨vs, H1, I1, r1, hz, q1⟩ => ⟨I1.kIn, ?_⟩) he hpl
  show wpAny _ _ (call (.ref C) us) _ _ _
  obtain ⟨hp, g, dr, tk, os⟩ := s1
  have hsz : hp.objs.size ≤ hp.objs.size + 1 := Nat.le_succ _
  have hn : H1 (hp.objs.size + 1) = none := I1.hok.fresh hsz
  have hq := q1 (hp.objs.size + 1) hn
  have kk : ∀ b o, hp.get? b = some o → ((hp.push (PySem.W.kdv_tup us)).push (PySem.HandSPX.excO C hp.objs.size)).get? b = some o := fun b o e => Heap.get?_push_of_some _ (Heap.get?_push_of_some _ e)
  have hget : ((hp.push (PySem.W.kdv_tup us)).push (PySem.HandSPX.excO C hp.objs.size)).get? (hp.objs.size + 1) = some (PySem.HandSPX.excO C hp.objs.size) := by heap_get
  have I2 : Inv X pins σ (upd H1 (hp.objs.size + 1) (exo (hp.objs.size + 1) C none)) ⟨(hp.push (PySem.W.kdv_tup us)).push (PySem.HandSPX.excO C hp.objs.size), g, dr, tk, os⟩ :=
    I1.laid (t' := tk) (a := hp.objs.size + 1) (o := exo (hp.objs.size + 1) C none) (h' := (hp.push (PySem.W.kdv_tup us)).push (PySem.HandSPX.excO C hp.objs.size)) kk hsz (exo_ok hget)
  have r2 : Vals (V.ref (hp.objs.size + 1) :: (vs ++ [])) (Value.ref (hp.objs.size + 1) :: us) := .cons rfl (by rw [List.append_nil]; exact r1)
  have hus : us.length ≤ sizeLine := by
    rw [← Paired.length r1, sizeLine_eq]
    omega
  refine wpAny_call (PySem.HandSPX.call_own PySem.F.excBase_ValueError (fun Y => PySem.HandSPX.refsVE_contains Y bm hbm) (I1.kIn _ _ hC) (PySem.W.looks_findIn I1.kIn iC) (fun self => PySem.W.bind_fn I1.kIn self tI) hus
    (codeAny_mono (F _ X.stack _ _ (Value.ref (hp.objs.size + 1) :: us) _ _ (fun _ _ _ => False) (hr.make C us []) (I2.env0.make C us []) r2 hq) fun r s' hq' => ?_))
  cases r with
  | error er => exact hx pins σ _ _ er s' I2 hq'
  | ok fl =>
    cases fl with
    | ret u =>
      obtain ⟨v, H2, os2, bare2, un2, hok2, rv, ev, d, fs, ea, ed, hd1, q2⟩ := hq'
      subst ev
      obtain ⟨h2, g2, d2, t2, os'⟩ := s'
      exact ⟨rv, mk_end (raises_own T.exC T.tyC) I1 hsz kk un2 hok2 os2 bare2 ea ed hd1 q2⟩
    | next => exact False.elim hq'
    | brk => exact False.elim hq'
    | cont => exact False.elim hq'
end
end G
set_option Elab.async false
set_option linter.all false
set_option maxRecDepth 100000
set_option maxHeartbeats 2000000
set_option exponentiation.threshold 2000
namespace G
open PySem PySem.Spec PyProof.Rows L2 StX
section
variable {X : Cx} {CX : CXT} {k n : Nat} {f g C : Addr} {sp : Sp} {E : L2.St → XK} {x m : Str} {o e e2 : Expr} {es : List Expr} {te to tb : TE} {t : TA} {p pos apos : Pos}
theorem passSL : ∀ σ, PassesAt (L2.CX X.prog X.w) X σ ((fun _ => E0) σ) := fun σ pins H s e s' I h => passL pins σ H s e s' I h
theorem passS0 : ∀ σ, PassesAt CX0 X σ ((fun _ => E0) σ) := fun σ pins H s e s' I h => pass0 pins σ H s e s' I h
theorem run_fnRS {pins : List (Addr × Obj)} {σ : L2.St} {H : Hp} {s : Shared} {E : XK} {Q : VK} {us : List Value} {vs : List V} (F : FnR X.prog X.w X.K X.mg X.base CX k f sp) (hr : Room k X.A) (hx : PassesAt CX X σ E) (I : L2.Inv X pins σ H s) (r : Vals vs us) (q : sp vs H Q E) :
    wpAny (model X.prog X.w) X.A (call (.ref f) us) (EP X pins σ Q) X.xe s := by
  refine wpAny_call (codeAny_mono (F _ X.stack _ _ us _ _ E hr I.env0 r q) fun r s' h => ?_)
  cases r with
  | error e => exact hx pins H s e s' I h
  | ok fl =>
    cases fl with
    | ret u =>
      obtain ⟨v, H2, os2, bare2, un2, hok2, rv, qv⟩ := h
      exact ⟨v, H2, I.call' os2 un2 hok2 bare2 (fun b hb => (nomatch hb)), rv, qv⟩
    | next => exact False.elim h
    | brk => exact False.elim h
    | cont => exact False.elim h
def tCallZ (sp : Sp) (E : L2.St → XK) (t : TA) : TE := fun σ H Q => t σ H fun vs H1 => sp vs H1 Q (E σ)
def tMakeZ (C : Addr) (sp : Sp) (E : L2.St → XK) (t : TA) : TE := fun σ H Q => t σ H fun vs H1 => ∀ x dx, H1 x = none → H1 dx = none → dx ≠ x → sp (.ref x :: vs) (upd (upd H1 dx (.own x)) x (.ins C dx [])) (fun v H2 => v = .non ∧ Q (.ref x) H2) (E σ)
def tMethZ (C : Addr) (m : Str) (sp : Sp) (E : L2.St → XK) (ta : TE) (t : TA) : TE := fun σ H Q => ta σ H fun x H1 => ∃ a dx fs, x = .ref a ∧ H1 a = some (.ins C dx fs) ∧ fs.lookup m = none ∧ t σ H1 fun vs H2 => sp (x :: vs) H2 Q (E σ)
/-- o.m(e, ..) -/
theorem pe_methZ {pl : Sem Bool} (ho : PE X o to) (c : Cls X.K C) (hm : Meth X.K C m f) (F : FnR X.prog X.w X.K X.mg X.base CX k f sp) (hr : Room k X.A) (hx : ∀ σ, PassesAt CX X σ (E σ)) (ha : PA X (e :: es) t)
    (he : starEach (e :: es) X.env = (false, eval e X.env) :: starEach es X.env := by rfl) (hpl : (backTo pos (starEach es X.env)).any (·.1) = false := by rfl)
    (hc : eval (.Call (.Attribute o m apos) (e :: es) [] pos) X.env = (do
      let ov ← eval o X.env
      standAt apos.atName
      let (f, first) ← holding [ov] (getMethod ov m pl)
      callWith pos f first (backTo pos (starEach (e :: es) X.env)) (backToKw pos (keywordEach [] X.env))) := by rfl) :
    PE X (.Call (.Attribute o m apos) (e :: es) [] pos) (tMethZ C m sp E to t) := by
  refine ⟨fun pins s σ H Q I h => ?_⟩
  refine PySem.W.methodCall_KW (thn (ho.run pins s σ H _ I h) fun ov s1 ⟨x, H1, I1, rx, a, dx, fs, ex, ea, hl, q⟩ => ?_) hc
  subst ex
  cases (show ov = Value.ref a from rx)
  refine getmeth_ok I1 ea c hm hl ?_
  show wpAny _ _ (callWith pos (Value.ref f) [Value.ref a] (backTo pos (starEach (e :: es) X.env)) []) _ _ _
  exact PySem.W.callWith_K (h₀ := X.base) I1.ok.mod.kin hm.kp (thn (ha.run pos pins s1 σ H1 _ I1 q) fun us s2 ⟨vs, H2, I2, r, q2⟩ => ⟨I2.kIn, run_fnRS (vs := .ref a :: vs) F hr (hx σ) I2 (.cons (show L2.RelV (.ref a) (.ref a) from rfl) r) q2⟩) he hpl
/-- o.m() -/
theorem pe_methZ0 {pl : Sem Bool} (ho : PE X o to) (c : Cls X.K C) (hm : Meth X.K C m f) (F : FnR X.prog X.w X.K X.mg X.base CX k f sp) (hr : Room k X.A) (hx : ∀ σ, PassesAt CX X σ (E σ))
    (hc : eval (.Call (.Attribute o m apos) [] [] pos) X.env = (do
      let ov ← eval o X.env
      standAt apos.atName
      let (f, first) ← holding [ov] (getMethod ov m pl)
      callWith pos f first (backTo pos (starEach [] X.env)) (backToKw pos (keywordEach [] X.env))) := by rfl) :
    PE X (.Call (.Attribute o m apos) [] [] pos) (tMethZ C m sp E to tNil) := by
  refine ⟨fun pins s σ H Q I h => ?_⟩
  refine PySem.W.methodCall_KW (thn (ho.run pins s σ H _ I h) fun ov s1 ⟨x, H1, I1, rx, a, dx, fs, ex, ea, hl, q⟩ => ?_) hc
  subst ex
  cases (show ov = Value.ref a from rx)
  refine getmeth_ok I1 ea c hm hl ?_
  show wpAny _ _ (callWith pos (Value.ref f) [Value.ref a] (backTo pos (starEach [] X.env)) []) _ _ _
  exact PySem.W.callWith_K0 I1.kIn hm.kp (run_fnRS (vs := [.ref a]) F hr (hx σ) I1 (.cons (show L2.RelV (.ref a) (.ref a) from rfl) .nil) q)
/-- values that are not NotImplemented -/
def Pl (v : V) : Prop := (∃ c, v = .ref c) ∨ (∃ b, v = .bl b) ∨ ∃ i, v = .int i
def tBinI (C : Addr) (sp : Sp) (E : L2.St → XK) (ta tb : TE) : TE := fun σ H Q => ta σ H fun x H1 => tb σ H1 fun y H2 => ∃ a dx fs i, x = .ref a ∧ H2 a = some (.ins C dx fs) ∧ y = .int i ∧ sp [x, y] H2 (fun v H' => Pl v ∧ Q v H') (E σ)
def tBinO (C : Addr) (sp : Sp) (E : L2.St → XK) (ta tb : TE) : TE := fun σ H Q => ta σ H fun x H1 => tb σ H1 fun y H2 => ∃ a dx fs b dy gs, x = .ref a ∧ H2 a = some (.ins C dx fs) ∧ y = .ref b ∧ H2 b = some (.ins C dy gs) ∧ sp [x, y] H2 (fun v H' => Pl v ∧ Q v H') (E σ)
def tUnO (C : Addr) (sp : Sp) (E : L2.St → XK) (ta : TE) : TE := fun σ H Q => ta σ H fun x H1 => ∃ a dx fs, x = .ref a ∧ H1 a = some (.ins C dx fs) ∧ sp [x] H1 Q (E σ)
/-- the body of a def that may raise -/
theorem fnRX_of {P : Program} {w : World} {K : PySem.W.Frag} {mg : Str → Option Value} {base : Heap} {st : Stmt} {N ps : List Str} {k : Nat} {sp : Sp} {f : Addr} {name qual : Str} (D : DefM K name qual st ps f) (S : FnScope N ps (defScope st)) (len : ∀ vs H Q E, sp vs H Q E → vs.length = ps.length)
    (hbody : ∀ (cdv : Value) (A : Around) (outer : List Env) (s : Shared) (H : Hp) (vs : List V) (Q : VK) (E : XK), Room k (A.deeper (envOfC qual (defScope st) s.heap.objs.size f cdv)) → sp vs H Q E →
      ∃ t, PSs (cxOf (L2.CX P w) P w K mg base N qual (defScope st) f cdv A outer s H E) (defBody st) t ∧ t { nx := fun _ H' => Q .non H', rt := Q } (L2.start N vs) H) : FnR P w K mg base (L2.CX P w) (k + 1) f sp := by
  obtain ⟨fd, F, b⟩ := D
  exact ((F.okX S len hbody).raw b .nil).imp fun vs H Q E h => by rw [List.append_nil]; exact h
end
/-- what is raised is wished for -/
def HX (W : Wd) (Γ : Gam) (E : L2.St → XK) (x : Xn → Prop) : Prop := ∀ σ H, GOk W H σ Γ → XOk W H (E σ) x
theorem hx0 {W : Wd} {Γ : Gam} {E : L2.St → XK} : HX W Γ E fun _ => False := fun σ H _ n d H2 _ _ q => q.elim
theorem hx_of {W : Wd} {Γ : Gam} {E : XK} {x : Xn → Prop} (h : ∀ H', W.ok H' → W.wish H' → XOk W H' E x) : HX W Γ (fun _ => E) x := fun σ H G => h H G.ok G.wish
class Pln (α : Type) [Rep α] : Prop where
  at_ : ∀ {W : Wc} {H : Hp} {v : V} {a : α}, den W H v a → Pl v
/-- such data is never NotImplemented -/
def PlnG (α : Type) [Rep α] (G : Prop) : Prop := Pln α ∧ G
theorem plnG_in {α : Type} [Rep α] [i : Pln α] {G : Prop} (h : G) : PlnG α G := ⟨i, h⟩
instance : Pln Int := ⟨fun h => .inr (.inr ⟨_, h⟩)⟩
instance : Pln Bool := ⟨fun h => .inr (.inl ⟨_, h⟩)⟩
instance : Pln Stc := ⟨fun ⟨a, dx, hv, _⟩ => .inl ⟨a, hv⟩⟩
section
variable {W : Wd} {Γ : Gam} {ta : TA} {te tb to : TE} {B : Bs} {P : PT} {E : L2.St → XK} {x : Xn → Prop} {C : Addr}
theorem ev_callZ {α : Type} {rα : Rep α} {k : α → Prop} (hB : W.B = B) (hx : HX W Γ E x) (h : EvA W ta Γ fun ts => P (fun t => ∃ a : α, t = T a ∧ k a) x ts) : EvK W (tCallZ (spG B P) E ta) Γ k := fun σ H Q G c =>
  h σ H _ G fun vs H1 ts e1 d z => ⟨W, ts, _, x, hB, e1.ok, d, z, fun v H2 t e2 dt ⟨a, ea, q⟩ => by
    subst ea
    exact c v H2 a (e1.trans e2) dt q, hx σ H1 (G.ext e1)⟩
/-- the class of such data is at C, m is none of its fields -/
def OwnM (β : Type) [Rep β] (B : Bs) (C : Addr) (m : Str) (G : Prop) : Prop := ∃ c fl, Ins β c fl ∧ B.cl c = C ∧ m ∉ fl ∧ G
theorem ownM_in {β : Type} [Rep β] {c : Cn} {fl : List Str} [i : Ins β c fl] {B : Bs} {C : Addr} {m : Str} {G : Prop} (hC : B.cl c = C) (hm : m ∉ fl) (h : G) : OwnM β B C m G := ⟨c, fl, i, hC, hm, h⟩
theorem look_none {m : Str} : ∀ {fs : List (Str × V)}, m ∉ fs.map (·.1) → fs.lookup m = none
  | [], _ => rfl
  | (y, v) :: r, h => by
    have h1 : ¬ m = y := fun e => h (by rw [e]; exact List.mem_cons_self)
    have h2 : m ∉ r.map (·.1) := fun e => h (List.mem_cons_of_mem _ e)
    have h3 : (m == y) = false := by
      cases q : (m == y) with
      | false => rfl
      | true => exact absurd (eq_of_beq q) h1
    rw [List.lookup_cons, h3]
    exact look_none h2
theorem ev_methZ {α β : Type} {rα : Rep α} {rβ : Rep β} {m : Str} {k : α → Prop} (hB : W.B = B) (hx : HX W Γ E x)
    (h : EvK W to Γ fun s : β => OwnM β B C m (EvA W ta Γ fun ts => P (fun t => ∃ a : α, t = T a ∧ k a) x (T s :: ts))) : EvK W (tMethZ C m (spG B P) E to ta) Γ k := by
  subst hB
  refine fun σ H Q G c => h σ H _ G fun v H1 s e1 d ⟨cc, fl, iβ, hC, hm, z⟩ => ?_
  subst hC
  obtain ⟨p, dp, fs, hv, _, hH, hfl⟩ := iβ.at_ d
  refine ⟨p, dp, fs, hv, hH, look_none (by rw [hfl]; exact hm), ?_⟩
  refine z σ H1 _ (G.ext e1) fun vs H2 ts e2 d2 z2 => ?_
  exact ⟨W, _, _, x, rfl, e2.ok, .cons (t := T s) (Rep.mono e2.keep d) d2, z2, fun v H3 t e3 dt ⟨a, ea, q⟩ => by
    subst ea
    exact c v H3 a ((e1.trans e2).trans e3) dt q, hx σ H2 ((G.ext e1).ext e2)⟩
theorem ev_binI {α β : Type} {rα : Rep α} {rβ : Rep β} {k : α → Prop} (hB : W.B = B) (hx : HX W Γ E x)
    (h : EvK W to Γ fun s : β => EvK W te Γ fun i : Int => OwnG β B C (P (fun t => ∃ a : α, t = T a ∧ PlnG α (k a)) x [T s, T i])) : EvK W (tBinI C (spG B P) E to te) Γ k := by
  subst hB
  refine fun σ H Q G c => h σ H _ G fun v H1 s e1 d h1 => h1 σ H1 _ (G.ext e1) fun u H2 i e2 d2 ⟨cc, fl, iβ, hC, z⟩ => ?_
  subst hC
  have d' := Rep.mono (W := W.toWc) (a := s) e2.keep d
  obtain ⟨p, dp, fs, hv, _, hH, _⟩ := iβ.at_ d'
  exact ⟨p, dp, fs, i, hv, hH, d2, W, _, _, x, rfl, e2.ok, .cons (t := T s) d' (.cons (t := T i) d2 .nil), z, fun v H3 t e3 dt ⟨a, ea, pα, q⟩ => by
    subst ea
    exact ⟨pα.at_ dt, c v H3 a ((e1.trans e2).trans e3) dt q⟩, hx σ H2 ((G.ext e1).ext e2)⟩
theorem ev_binO {α β : Type} {rα : Rep α} {rβ : Rep β} {k : α → Prop} (hB : W.B = B) (hx : HX W Γ E x)
    (h : EvK W to Γ fun s : β => EvK W te Γ fun s2 : β => OwnG β B C (P (fun t => ∃ a : α, t = T a ∧ PlnG α (k a)) x [T s, T s2])) : EvK W (tBinO C (spG B P) E to te) Γ k := by
  subst hB
  refine fun σ H Q G c => h σ H _ G fun v H1 s e1 d h1 => h1 σ H1 _ (G.ext e1) fun u H2 s2 e2 d2 ⟨cc, fl, iβ, hC, z⟩ => ?_
  subst hC
  have d' := Rep.mono (W := W.toWc) (a := s) e2.keep d
  obtain ⟨p, dp, fs, hv, _, hH, _⟩ := iβ.at_ d'
  obtain ⟨p2, dp2, fs2, hv2, _, hH2, _⟩ := iβ.at_ d2
  exact ⟨p, dp, fs, p2, dp2, fs2, hv, hH, hv2, hH2, W, _, _, x, rfl, e2.ok, .cons (t := T s) d' (.cons (t := T s2) d2 .nil), z, fun v H3 t e3 dt ⟨a, ea, pα, q⟩ => by
    subst ea
    exact ⟨pα.at_ dt, c v H3 a ((e1.trans e2).trans e3) dt q⟩, hx σ H2 ((G.ext e1).ext e2)⟩
theorem ev_negO {α β : Type} {rα : Rep α} {rβ : Rep β} {k : α → Prop} (hB : W.B = B) (hx : HX W Γ E x)
    (h : EvK W to Γ fun s : β => OwnG β B C (P (fun t => ∃ a : α, t = T a ∧ k a) x [T s])) : EvK W (tUnO C (spG B P) E to) Γ k := by
  subst hB
  refine fun σ H Q G c => h σ H _ G fun v H1 s e1 d ⟨cc, fl, iβ, hC, z⟩ => ?_
  subst hC
  obtain ⟨p, dp, fs, hv, _, hH, _⟩ := iβ.at_ d
  exact ⟨p, dp, fs, hv, hH, W, _, _, x, rfl, e1.ok, .cons (t := T s) d .nil, z, fun v H3 t e3 dt ⟨a, ea, q⟩ => by
    subst ea
    exact c v H3 a (e1.trans e3) dt q, hx σ H1 (G.ext e1)⟩
/-- Stretch(lo, hi), in order or not -/
theorem ev_stretchZ {ta tb : TE} {k : Stc → Prop} (hB : W.B = B) (hC : B.cl .Stretch = C) (hx : HX W Γ E x)
    (h : EvK W ta Γ fun lo : Int => EvK W tb Γ fun hi : Int => (lo ≤ hi → k ⟨lo, hi⟩) ∧ (hi < lo → Small lo ∧ Small hi ∧ x ⟨.BadStretch, [("high", .i hi), ("low", .i lo)]⟩)) : EvK W (tMakeZ C (spSIX B) E (tCons ta (tCons tb tNil))) Γ k := by
  subst hB
  subst hC
  refine fun σ H Q G c => h σ H _ G fun v H1 lo e1 d1 h1 => h1 σ H1 _ (G.ext e1) fun u H2 hi e2 d2 ⟨hle, hlt⟩ => ?_
  intro xx dx nx ndx nex
  have o := e2.ok
  have m1 := fresh_mu o ndx
  have m2 := fresh_mu o nx
  have e3 : ∀ o', Ext W H2 (upd (upd H2 dx (.own xx)) xx o') := fun o' => ⟨fun a u _ q => by rw [upd_ne (ne_of_none q nx), upd_ne (ne_of_none q ndx)]; exact q, W.st _ _ _ (W.st _ _ _ o m1) m2⟩
  refine ⟨xx, dx, lo, hi, by cases d1; cases d2; rfl, upd_same, fun hl => ⟨rfl, ?_⟩, fun hl => ?_⟩
  · have okx : W.ok (upd (upd (upd (upd H2 dx (.own xx)) xx (.ins (W.B.cl .Stretch) dx [])) xx (.ins (W.B.cl .Stretch) dx [("low", .int lo)])) xx (.ins (W.B.cl .Stretch) dx (stcF lo hi))) :=
      W.st _ _ _ (W.st _ _ _ (W.st _ _ _ (W.st _ _ _ o m1) m2) m2) m2
    refine c (.ref xx) _ ⟨lo, hi⟩ ((e1.trans e2).trans ⟨fun a u _ q => ?_, okx⟩) ⟨xx, dx, rfl, m2, upd_same⟩ (hle hl)
    have n1 : a ≠ xx := ne_of_none q nx
    have n2 : a ≠ dx := ne_of_none q ndx
    rw [upd_ne n1, upd_ne n1, upd_ne n1, upd_ne n2]
    exact q
  · obtain ⟨s1, s2, xq⟩ := hlt hl
    refine ⟨s1, s2, fun d hd => ?_⟩
    have e4 := (e3 (.ins (W.B.cl .Stretch) dx []))
    have md := fresh_mu e4.ok hd
    exact hx σ H2 ((G.ext e1).ext e2) _ _ _ (e4.trans (Ext.new (o := .xd [("high", .int hi), ("low", .int lo)]) e4.ok hd)) (.inr ⟨d, _, rfl, md, upd_same, .cons (t := .i hi) rfl (.cons (t := .i lo) rfl .nil)⟩) xq
theorem ev_max2 {k : Int → Prop} (h : EvK W te Γ fun i : Int => EvK W tb Γ fun j : Int => k (max i j)) : EvK W (tCB (fun xs H Q => ∃ i j, xs = [.int i, .int j] ∧ Q (.int (if j > i then j else i)) H) (tCons te (tCons tb tNil))) Γ k := fun σ H Q G c =>
  h σ H _ G fun v H1 i e1 d h1 => h1 σ H1 _ (G.ext e1) fun u H2 j e2 d2 z => ⟨i, j, by rw [d, d2], c _ H2 (max i j) (e1.trans e2) (by show V.int _ = V.int _; congr 1; split <;> omega) z⟩
theorem ev_min2 {k : Int → Prop} (h : EvK W te Γ fun i : Int => EvK W tb Γ fun j : Int => k (min i j)) : EvK W (tCB (fun xs H Q => ∃ i j, xs = [.int i, .int j] ∧ Q (.int (if j < i then j else i)) H) (tCons te (tCons tb tNil))) Γ k := fun σ H Q G c =>
  h σ H _ G fun v H1 i e1 d h1 => h1 σ H1 _ (G.ext e1) fun u H2 j e2 d2 z => ⟨i, j, by rw [d, d2], c _ H2 (min i j) (e1.trans e2) (by show V.int _ = V.int _; congr 1; split <;> omega) z⟩
theorem ev_abs {k : Int → Prop} (h : EvK W te Γ fun i : Int => k (i.natAbs : Int)) : EvK W (tCB (fun xs H Q => ∃ i, xs = [.int i] ∧ Q (.int (if i < 0 then -i else i)) H) (tCons te tNil)) Γ k := fun σ H Q G c =>
  h σ H _ G fun v H1 i e1 d z => ⟨i, by rw [d], c _ H1 (i.natAbs : Int) e1 (by show V.int _ = V.int _; congr 1; split <;> omega) z⟩
theorem ev_sortedI {K : PySem.W.Frag} {k : List Int → Prop} (hK : W.B.K = K) (h : EvK W te Γ fun as : List Int => ∀ bs : List Int, bs.Perm as → bs.Pairwise (· ≤ ·) → k bs) : EvK W (tCB (rSortedI K) (tCons te tNil)) Γ k := by
  subst hK
  refine fun σ H Q G c => h σ H _ G fun v H1 as e1 ⟨p, vs, hv, hp, hd⟩ z => ?_
  obtain rfl := hd.ints
  refine ⟨p, as, by rw [hv], hp.sq, fun bs q hpm hpw hq => ?_⟩
  have e2 := Ext.new (o := .lst (bs.map V.int)) e1.ok hq
  exact c _ _ bs (e1.trans e2) ⟨q, _, rfl, Lq.new (fresh_mu e1.ok hq) upd_same, Dl.of_ints bs⟩ (z bs hpm hpw)
structure IsT (K : PySem.W.Frag) (C : Addr) : Prop where
  c : Cls K C
  f : PySem.W.findIn K (.ref C) "__class__" = some (some (.builtin "object.__class__"))
  s : PySem.W.specialIn K (.builtin "object.__class__") "__get__" = some (some (.builtin "getset_descriptor.__get__"))
  t : PySem.W.takesIn K (.builtin "object.__class__") = some true
  m : PySem.W.mroIn K C (.type "object") = some true
theorem kit_self {K : PySem.W.Frag} {C : Addr} : PySem.W.kitOne K (.ref C) (.ref C) = some true := by
  show (if (Value.ref C == Value.ref C) = true then some true else _) = some true
  rw [if_pos (beq_self_eq_true _)]
theorem ev_isiO {β : Type} {rβ : Rep β} {K : PySem.W.Frag} {C2 : Addr} {k : Bool → Prop} (hK : W.B.K = K) (h : EvK W te Γ fun _ : β => ∃ c fl b, Ins β c fl ∧ IsT K (W.B.cl c) ∧ PySem.W.kitOne K (.ref (W.B.cl c)) (.ref C2) = some b ∧ k b) :
    EvK W (tCB (rIsi K) (tCons te (tCons (tC (.ref C2)) tNil))) Γ k := by
  subst hK
  refine fun σ H Q E q => h σ H _ E fun v H1 a e1 d ⟨c, fl, b, i, T, hb, z⟩ => ?_
  obtain ⟨p, dp, fs, hv, _, hH, _⟩ := i.at_ d
  subst hv
  exact ⟨.ref p, .ref C2, _, _, b, rfl, .own C2, .base (.ins hH T.c T.f T.s T.t T.m), hb, q _ H1 b e1 rfl z⟩
end
/-- __init__ of an error: sh says which fields it gets from its arguments -/
def spEr (C : Addr) (sh : List V → List (Str × V) → Prop) : Sp := fun vs H Q E => ∃ a as fs, vs = .ref a :: as ∧ sh as fs ∧ H a = some (exo a C none) ∧
  ∀ d H2, H d = none → d ≠ a → H2 a = some (exo a C (some d)) → H2 d = some (exd d fs) → (∀ b, b ≠ a → b ≠ d → H2 b = H b) → Q .non H2
/-- sh over plain data -/
def ShT (sh : List V → List (Str × V) → Prop) (ts : List Ty) (fs : List (Str × Fv)) : Prop := ts.length ≤ 1000 ∧ ∀ (W : Wc) (H : Hp) vs, DT W H vs ts → ∃ gs, sh vs gs ∧ DF W H gs fs
section
variable {W : Wd} {Γ : Gam} {ta : TA} {te tb to : TE} {x : Xn → Prop} {C : Addr} {R : Po}
theorem sx_raise {c : Cn} {sh : List V → List (Str × V) → Prop} {Wx : WX} {B : Bs} (hB : W.B = B) (hC : B.cl c = C) (hx : HX W Γ (WE Wx) x) (h : EvA W ta Γ fun ts => ∃ fs, ShT sh ts fs ∧ x ⟨c, fs⟩) :
    Sx W (fun _ σ H => tMkO C (spEr C sh) [] ta σ H fun cls d H' => Wx cls d σ H') Γ R := by
  subst hB
  subst hC
  refine fun D σ H G O => h σ H _ G fun vs H1 ts e1 d ⟨fs, ⟨hl, hs⟩, xq⟩ => ⟨by rw [d.length]; exact hl, fun a ha => ?_⟩
  obtain ⟨gs, hsh, hdf⟩ := hs W.toWc H1 vs d
  refine ⟨a, vs ++ [], gs, rfl, by rw [List.append_nil]; exact hsh, upd_same, fun dd H2 hd hda h1 h2 h3 => ⟨rfl, dd, gs, h1, h2, ?_, ?_⟩⟩
  · rw [upd_ne hda] at hd
    exact hd
  · rw [upd_ne hda] at hd
    have e : upd (del H2 a) dd (.xd gs) = upd H1 dd (.xd gs) := by
      funext b
      by_cases hb : b = dd
      · subst hb
        rw [upd_same, upd_same]
      · rw [upd_ne hb, upd_ne hb]
        by_cases hba : b = a
        · subst hba
          rw [del_same, ha]
        · rw [del_ne hba, h3 b hba hb, upd_ne hba]
    rw [e]
    have e2 := Ext.new (o := .xd gs) e1.ok hd
    exact hx σ H1 (G.ext e1) ⟨c, fs⟩ (some dd) _ e2 (.inr ⟨dd, gs, rfl, fresh_mu e1.ok hd, upd_same, hdf.imp fun _ _ z => Fv.mono e2.keep z⟩) xq
/-- e.f of an error in hand -/
theorem ev_xfI {a : Addr} {cls : Value} {d : Option Addr} {f : Str} {k : Int → Prop} (hC : cls = .ref C) (h : EvK W te Γ fun e : Er => (e.a = a ∧ e.d = d) ∧ ∃ z : Int, e.n.fs.lookup f = some (.i z) ∧ k z) : EvK W (tXf a cls d C f te) Γ k := by
  refine fun σ H Q E c => h σ H _ E fun v H1 e e1 ⟨hv, xd⟩ ⟨⟨ha, hd⟩, z, hf, q⟩ => ?_
  subst ha
  subst hd
  rcases xd with ⟨h0, _⟩ | ⟨dd, vs, h1, _, h3, h4⟩
  · rw [h0] at hf
    cases hf
  · obtain ⟨v, hv2, dv⟩ := h4.at hf
    exact ⟨hv, hC, dd, vs, v, h1, h3, hv2, c v H1 z e1 dv q⟩
theorem ev_xfP {a : Addr} {cls : Value} {d : Option Addr} {f : Str} {k : Int × Int → Prop} (hC : cls = .ref C) (h : EvK W te Γ fun e : Er => (e.a = a ∧ e.d = d) ∧ ∃ z w : Int, e.n.fs.lookup f = some (.p z w) ∧ k (z, w)) : EvK W (tXf a cls d C f te) Γ k := by
  refine fun σ H Q E c => h σ H _ E fun v H1 e e1 ⟨hv, xd⟩ ⟨⟨ha, hd⟩, z, w, hf, q⟩ => ?_
  subst ha
  subst hd
  rcases xd with ⟨h0, _⟩ | ⟨dd, vs, h1, _, h3, h4⟩
  · rw [h0] at hf
    cases hf
  · obtain ⟨v, hv2, dv⟩ := h4.at hf
    exact ⟨hv, hC, dd, vs, v, h1, h3, hv2, c v H1 (z, w) e1 dv q⟩
end
section
variable {W : Wd} {Γ : Gam} {te : TE} {t u : TS} {R : Po} {g : TG}
theorem sx_seqA (h : Sx W (tAsg te g) Γ { R with nx := fun Γ' => Sx W u Γ' R }) : Sx W (tSeq (tAsg te g) u) Γ R := sx_seq h
theorem sx_seqD (h : Sx W (tDrop te) Γ { R with nx := fun Γ' => Sx W u Γ' R }) : Sx W (tSeq (tDrop te) u) Γ R := sx_seq h
theorem Sx.imp {R' : Po} (h : Sx W t Γ R') (n : ∀ Γ', R'.nx Γ' → R.nx Γ') (r : ∀ v, R'.rt v → R.rt v) (b : ∀ Γ', R'.bk Γ' → R.bk Γ') (c : ∀ Γ', R'.ct Γ' → R.ct Γ') : Sx W t Γ R := fun D σ H G O =>
  h D σ H G ⟨fun a b' d e f q => O.nx a b' d e f (n _ q), fun a b' d e f q => O.rt a b' d e f (r _ q), fun a b' d e f q => O.bk a b' d e f (b _ q), fun a b' d e f q => O.ct a b' d e f (c _ q)⟩
end
/-- the parts of an f-string, no heap changed -/
inductive JP (σ : L2.St) (H : Hp) : List TE → Nat → Prop
  | nil : JP σ H [] 0
  | cons {t : TE} {y : Str} {ts : List TE} {n : Nat} : (∀ Q : VK, Q (.str y) H → t σ H Q) → y.length ≤ 3000 → JP σ H ts n → JP σ H (t :: ts) (n + 1)
theorem js_ok {σ : L2.St} {H : Hp} {Q : Str → Hp → Prop} (k : ∀ out, Q out H) : ∀ {ts : List TE} {n : Nat} {acc : Str}, JP σ H ts n → acc.length + 3000 * n ≤ 100000 → tJs ts acc σ H Q
  | _, _, acc, .nil, _ => k acc
  | _, _, acc, .cons (y := y) (n := n) h hl r, hb => by
    have h2 := Str.length_append acc y
    exact h _ ⟨y, rfl, by unfold sizeLine; omega, js_ok k r (by omega)⟩
theorem Small.of {i : Int} (h1 : -1000000000000000000000000000000 ≤ i) (h2 : i ≤ 1000000000000000000000000000000) : Small i := by
  refine small_of (Nat.lt_of_le_of_lt (m := 1000000000000000000000000000000) (by omega) (by decide))
theorem isO_self {β : Type} [Rep β] {c : Cn} {fl : List Str} [i : Ins β c fl] {K : PySem.W.Frag} {B : Bs} {C2 : Addr} {k : Bool → Prop} (hT : IsT K (B.cl c)) (hC : B.cl c = C2) (h : k true) : ∃ (c : Cn) (fl : List Str) (b : Bool), Ins β c fl ∧ IsT K (B.cl c) ∧ PySem.W.kitOne K (.ref (B.cl c)) (.ref C2) = some b ∧ k b :=
  ⟨c, fl, true, i, hT, by rw [hC]; exact kit_self, h⟩
theorem isT_of {K : PySem.W.Frag} {W : Wd} {B : Bs} {c : Cn} (h : W.B = B) (t : IsT K (B.cl c)) : IsT K (W.B.cl c) := h ▸ t
theorem cl_of {W : Wd} {B : Bs} {c : Cn} {C : Addr} (h : W.B = B) (t : B.cl c = C) : W.B.cl c = C := h ▸ t
theorem xcl_of {W : Wd} {B : Bs} {c : Cn} {C : Addr} (h : W.B = B) (t : B.cl c = C) : Value.ref (W.B.cl c) = Value.ref C := by rw [h, t]
section
variable {W : Wd} {Γ : Gam} {te tb to : TE}
/-- an f-string over plain data -/
def EvJ (W : Wd) (ts : List TE) (Γ : Gam) (acc : Str) (k : Str → Prop) : Prop := ∀ σ H (Q : Str → Hp → Prop), GOk W H σ Γ → (∀ out H', Ext W H H' → k out → Q out H') → tJs ts acc σ H Q
theorem ev_joined {ts : List TE} {k : Str → Prop} (h : EvJ W ts Γ Str.empty k) : EvK W (fun σ H Q => tJs ts Str.empty σ H fun out H1 => Q (.str out) H1) Γ k := fun σ H Q G c => h σ H _ G fun out H1 e q => c _ H1 out e rfl q
theorem ej_nil {acc : Str} {k : Str → Prop} (q : k acc) : EvJ W [] Γ acc k := fun σ H Q G c => c acc H (Ext.refl G.ok) q
theorem ej_cons {t : TE} {ts : List TE} {acc : Str} {k : Str → Prop} (h : EvK W t Γ fun y : Str => (acc ++ y).length ≤ 1000000 ∧ EvJ W ts Γ (acc ++ y) k) : EvJ W (t :: ts) Γ acc k := fun σ H Q G c =>
  h σ H _ G fun v H1 y e d ⟨hl, z⟩ => ⟨y, d, Nat.le_trans hl (by decide), z σ H1 _ (G.ext e) fun out H2 e2 q => c out H2 (e.trans e2) q⟩
theorem ev_fmtI {k : Str → Prop} (h : EvK W te Γ fun i : Int => Small i ∧ k (toString i)) : EvK W (tFmt te) Γ k := fun σ H Q G c =>
  h σ H _ G fun v H1 i e d ⟨s, q⟩ => .inr ⟨i, d, s, c _ H1 _ e rfl q⟩
end
theorem err_one {K : PySem.W.Frag} {C a : Addr} {f1 : Str} {x : V} {D : Ends} {σ : L2.St} {H : Hp} {first : TE} (T : OexC K C) (n1 : PySem.W.findIn K (.ref C) f1 = some none) (h0 : σ[0]? = some (some (.ref a))) (h1 : σ[1]? = some (some x))
    (hF : ∀ Q : VK, Q .non H → first σ H Q) (ha : H a = some (exo a C none)) (k : ∀ d H2, H d = none → d ≠ a → H2 a = some (exo a C (some d)) → H2 d = some (exd d [(f1, x)]) → (∀ b, b ≠ a → b ≠ d → H2 b = H b) → D.nx σ H2) :
    tSeq (tDrop first) (tOst K f1 (tVar 0) (tVar 1)) D σ H := by
  refine hF _ ⟨x, h1, .ref a, h0, a, C, rfl, T, n1, .inl ⟨ha, fun d hd hda => ?_⟩⟩
  exact k d _ hd hda upd_same (by rw [upd_ne hda]; exact upd_same) fun b hb hb2 => by rw [upd_ne hb, upd_ne hb2]
/-- GaugeError.__init__(self, text) -/
theorem first_ge {K : PySem.W.Frag} {C a : Addr} {σ : L2.St} {H : Hp} {J : TE} (T : OexC K C) (h0 : σ[0]? = some (some (.ref a))) (ha : H a = some (exo a C none)) (hJ : ∀ Q : VK, (∀ y, Q (.str y) H) → J σ H Q) : ∀ Q : VK, Q .non H → tVeI K (tCons (tVar 0) (tCons J tNil)) σ H Q := fun Q q =>
  ⟨_, h0, hJ _ fun y => ⟨a, C, _, rfl, by show 1 ≤ 1000; decide, T, ha, q⟩⟩
theorem var_is {σ : L2.St} {H : Hp} {i : Nat} {v : V} (h : σ[i]? = some (some v)) : ∀ Q : VK, Q v H → tVar i σ H Q := fun Q q => ⟨v, h, q⟩
theorem c_is {σ : L2.St} {H : Hp} {v : V} : ∀ Q : VK, Q v H → tC v σ H Q := fun Q q => q
end G
set_option maxRecDepth 100000
set_option maxHeartbeats 400000
set_option Elab.async false
set_option linter.all false
namespace G
open PySem PySem.Spec PyProof.Rows L2
/-- isinstance(e, c) of the error in hand, with or without a dict -/
def rIsF (K : PySem.W.Frag) (cls : Value) (d : Option Addr) (a : Addr) : List V → Hp → VK → Prop := fun xs H Q => ∃ D c cv b, cls = .ref D ∧ ExcC K D ∧ (d = none ∨ ∃ dd fs, d = some dd ∧ H dd = some (.xd fs)) ∧ xs = [.ref a, c] ∧ (∀ u, L2.RelV c u → u = cv) ∧ PySem.W.kitOne K (.ref D) cv = some b ∧ Q (.bl b) H
section
variable {W : Wd} {Γ : Gam} {te : TE}
theorem ev_isF {K : PySem.W.Frag} {B : Bs} {cls : Value} {d : Option Addr} {a : Addr} {v : V} {k : Bool → Prop} (hB : W.B = B) (hK : B.K = K)
    (h : EvK W te Γ fun e : Er => (e.a = a ∧ e.d = d) ∧ ∃ D cv b, cls = .ref D ∧ ExcC K D ∧ (∀ u, L2.RelV v u → u = cv) ∧ PySem.W.kitOne K (.ref D) cv = some b ∧ k b) : EvK W (tCB (rIsF K cls d a) (tCons te (tCons (tC v) tNil))) Γ k := by
  refine fun σ H Q E q => h σ H _ E fun u H1 e e1 ⟨hv, xd⟩ ⟨⟨ha, hd⟩, D, cv, b, hcls, T, hc, hk, z⟩ => ?_
  subst ha
  subst hd
  refine ⟨D, v, cv, b, hcls, T, ?_, by rw [hv], hc, hk, q _ H1 b e1 rfl z⟩
  rcases xd with ⟨_, h0⟩ | ⟨dd, vs, h1, _, h3, _⟩
  · exact .inl h0
  · exact .inr ⟨dd, vs, h1, h3⟩
end
/-- the class of a value -/
inductive TyV (K : PySem.W.Frag) (H : Hp) : V → Value → Prop
  | non : TyV K H .non (.type "NoneType")
  | ins {a C dx : Addr} {fs : List (Str × V)} : H a = some (.ins C dx fs) → TyV K H (.ref a) (.ref C)
  | tup {a : Addr} {xs : List V} : SqT K H a xs → TyV K H (.ref a) (.type "tuple")
  | lst {a : Addr} {xs : List V} : SqL K H a xs → TyV K H (.ref a) (.type "list")
section
variable {X : Cx} {CX : CXT} {n : Nat} {f C : Addr} {sp : Sp} {E : XK}
def rEqO (K : PySem.W.Frag) (C : Addr) (sp : Sp) (E : XK) : R2 := fun x y H Q => ∃ a dx fs tb, x = .ref a ∧ H a = some (.ins C dx fs) ∧ TyV K H y tb ∧ PySem.W.notFirst K C tb = true ∧ sp [x, y] H (fun v H' => ∃ b, v = .bl b ∧ Q (.bl b) H') E
def rNeO (K : PySem.W.Frag) (C : Addr) (sp : Sp) (E : XK) : R2 := fun x y H Q => ∃ a dx fs tb, x = .ref a ∧ H a = some (.ins C dx fs) ∧ TyV K H y tb ∧ PySem.W.notFirst K C tb = true ∧ sp [x, y] H (fun v H' => ∃ b, v = .bl b ∧ Q (.bl (!b)) H') E
end
class HasTy (α : Type) [Rep α] (ty : outParam (Bs → Value)) : Prop where
  at_ : ∀ {W : Wc} {H : Hp} {v : V} {a : α}, den W H v a → TyV W.B.K H v (ty W.B)
instance : HasTy Stc fun B => .ref (B.cl .Stretch) := ⟨fun ⟨a, dx, hv, m, h⟩ => by subst hv; exact .ins h⟩
instance : HasTy Unit fun _ => .type "NoneType" := ⟨fun h => by cases h; exact .non⟩
instance {α β : Type} [Rep α] [Rep β] : HasTy (α × β) fun _ => .type "tuple" := ⟨fun ⟨p, x, y, hv, s, _⟩ => by subst hv; exact .tup s.sq⟩
instance {α : Type} [Rep α] : HasTy (List α) fun _ => .type "list" := ⟨fun ⟨p, vs, hv, s, _⟩ => by subst hv; exact .lst s.sq⟩
/-- the right one is of a class that does not come first -/
def TyG (α : Type) [Rep α] (B : Bs) (C : Addr) (G : Prop) : Prop := ∃ ty, HasTy α ty ∧ PySem.W.notFirst B.K C (ty B) = true ∧ G
theorem tyG_in {α : Type} [Rep α] {ty : Bs → Value} [i : HasTy α ty] {B : Bs} {C : Addr} {G : Prop} (hn : PySem.W.notFirst B.K C (ty B) = true) (h : G) : TyG α B C G := ⟨ty, i, hn, h⟩
theorem nf_self {K : PySem.W.Frag} {C : Addr} : PySem.W.notFirst K C (.ref C) = true := by
  unfold PySem.W.notFirst
  rw [beq_self_eq_true, Bool.true_or]
section
variable {W : Wd} {Γ : Gam} {te tb : TE} {B : Bs} {P : PT} {C : Addr} {K : PySem.W.Frag} {E : XK}
theorem ev_eqO {α β : Type} {rα : Rep α} {rβ : Rep β} {k : Bool → Prop} (hB : W.B = B) (hK : B.K = K)
    (h : EvK W te Γ fun s : β => EvK W tb Γ fun y : α => OwnG β B C (TyG α B C (P (fun t => ∃ b : Bool, t = T b ∧ k b) (fun _ => False) [T s, T y]))) : EvK W (tOp (rEqO K C (spG B P) E) te tb) Γ k := by
  subst hB
  subst hK
  refine ev_two (h.imp fun s hs => hs.imp fun y ⟨c, fl, iβ, hC, ty, iα, hn, hp⟩ x z H Q o dx dz q => ?_)
  subst hC
  obtain ⟨p, dp, fs, hv, _, hH, _⟩ := iβ.at_ dx
  exact ⟨p, dp, fs, _, hv, hH, iα.at_ dz, hn, W, _, _, _, rfl, o, .cons (t := T s) dx (.cons (t := T y) dz .nil), hp, fun v H2 t e2 dt ⟨b, eb, kb⟩ => by
    subst eb
    exact ⟨b, dt, q _ H2 b e2 rfl kb⟩, fun n d2 H2 _ _ z => z.elim⟩
theorem ev_neO {α β : Type} {rα : Rep α} {rβ : Rep β} {k : Bool → Prop} (hB : W.B = B) (hK : B.K = K)
    (h : EvK W te Γ fun s : β => EvK W tb Γ fun y : α => OwnG β B C (TyG α B C (P (fun t => ∃ b : Bool, t = T b ∧ k (!b)) (fun _ => False) [T s, T y]))) : EvK W (tOp (rNeO K C (spG B P) E) te tb) Γ k := by
  subst hB
  subst hK
  refine ev_two (h.imp fun s hs => hs.imp fun y ⟨c, fl, iβ, hC, ty, iα, hn, hp⟩ x z H Q o dx dz q => ?_)
  subst hC
  obtain ⟨p, dp, fs, hv, _, hH, _⟩ := iβ.at_ dx
  exact ⟨p, dp, fs, _, hv, hH, iα.at_ dz, hn, W, _, _, _, rfl, o, .cons (t := T s) dx (.cons (t := T y) dz .nil), hp, fun v H2 t e2 dt ⟨b, eb, kb⟩ => by
    subst eb
    exact ⟨b, dt, q _ H2 (!b) e2 rfl kb⟩, fun n d2 H2 _ _ z => z.elim⟩
end
end G
set_option Elab.async false
set_option linter.all false
set_option maxRecDepth 100000
set_option maxHeartbeats 2000000
namespace G
open PySem PySem.Spec PyProof.Rows L2 StX
section
variable {X : Cx} {CX : CXT} {k n : Nat} {f g C : Addr} {sp : Sp} {E : L2.St → XK} {x m : Str} {o e : Expr} {es : List Expr} {te : TE} {t : TA} {p p2 pos apos : Pos}
/-- what the text says of C.__init__, a def at f, read from the class -/
structure CliT (K : PySem.W.Frag) (C f : Addr) : Prop where
  ga : PySem.W.specialIn K (.ref C) "__getattribute__" = some (some (.builtin "type.__getattribute__"))
  rd : PySem.W.readsIn K C (.type "type") = true
  at_ : PySem.W.findCls K (.ref C) (.type "type") "__init__" = some (.val (.ref f))
  kp : PySem.W.keepIn K (.ref f) = true
/-- C.__init__(self, ..) of an own class -/
theorem pe_cinit {pl : Sem Bool} (T : CliT X.K C f) (F : FnR X.prog X.w X.K X.mg X.base CX k f sp) (hr : Room k X.A) (hx : ∀ σ, PassesAt CX X σ (E σ)) (hm : X.mg x = some (.ref C)) (ha : PA X (e :: es) t) (hg : Gl X x := by rfl) (hdb : (x == ("__debug__" : Str)) = false := by decide)
    (hc : eval (.Call (.Attribute (.Name x p) "__init__" p2) (e :: es) [] pos) X.env = (do
      let ov ← eval (.Name x p) X.env
      standAt p2.atName
      let (f, first) ← holding [ov] (getMethod ov "__init__" pl)
      callWith pos f first (backTo pos (starEach (e :: es) X.env)) (backToKw pos (keywordEach [] X.env))) := by rfl)
    (he : starEach (e :: es) X.env = (false, eval e X.env) :: starEach es X.env := by rfl) (hpl : (backTo pos (starEach es X.env)).any (·.1) = false := by rfl) :
    PE X (.Call (.Attribute (.Name x p) "__init__" p2) (e :: es) [] pos) (tCallZ sp E t) := by
  refine ⟨fun pins s σ H Q I h => ?_⟩
  refine PySem.W.methodCall_KW (ld_glob I hg hm ?_ hdb) hc
  refine PySem.W.method_cls I.kIn T.ga (PySem.W.cls_value I.kIn T.rd T.at_ (by rfl) ?_)
  show wpAny _ _ (callWith pos (Value.ref f) [] (backTo pos (starEach (e :: es) X.env)) []) _ _ _
  exact PySem.W.callWith_K (h₀ := X.base) I.ok.mod.kin T.kp (thn (ha.run pos pins _ σ H _ (I.tok _) h) fun us s1 ⟨vs, H1, I1, r1, q⟩ => ⟨I1.kIn, run_fnRS F hr (hx σ) I1 r1 q⟩) he hpl
end
/-- a list of four of several kinds -/
structure L4 (α β γ δ : Type) where
  a : α
  b : β
  c : γ
  d : δ
  deriving DecidableEq
instance {α β γ δ : Type} [Rep α] [Rep β] [Rep γ] [Rep δ] : Rep (L4 α β γ δ) :=
  ⟨fun W H v t => ∃ p x y z u, v = .ref p ∧ Lq W H p [x, y, z, u] ∧ den W H x t.a ∧ den W H y t.b ∧ den W H z t.c ∧ den W H u t.d,
   fun e ⟨p, x, y, z, u, hv, s, h1, h2, h3, h4⟩ => ⟨p, x, y, z, u, hv, s.mono e, Rep.mono e h1, Rep.mono e h2, Rep.mono e h3, Rep.mono e h4⟩,
   fun D n ⟨p, x, y, z, u, hv, s, h1, h2, h3, h4⟩ => ⟨p, x, y, z, u, hv, s.grow D n, Rep.grow D n h1, Rep.grow D n h2, Rep.grow D n h3, Rep.grow D n h4⟩,
   fun D ⟨p, x, y, z, u, hv, s, h1, h2, h3, h4⟩ => ⟨p, x, y, z, u, hv, s.shrink D, Rep.shrink D h1, Rep.shrink D h2, Rep.shrink D h3, Rep.shrink D h4⟩⟩
theorem eqv4 (a b c d e f g h : PyData) : PyData.eqv (.list [a, b, c, d]) (.list [e, f, g, h]) = (PyData.eqv a e && (PyData.eqv b f && (PyData.eqv c g && PyData.eqv d h))) := by
  show (PyData.eqv a e && (PyData.eqv b f && (PyData.eqv c g && (PyData.eqv d h && true)))) = _
  rw [Bool.and_true]
instance {α β γ δ : Type} [Rep α] [Rep β] [Rep γ] [Rep δ] [Dat α] [Dat β] [Dat γ] [Dat δ] : Dat (L4 α β γ δ) where
  toD := fun x => .list [Dat.toD x.a, Dat.toD x.b, Dat.toD x.c, Dat.toD x.d]
  dp := fun ⟨p, x, y, z, u, hv, s, h1, h2, h3, h4⟩ => by
    subst hv
    exact .lst s.sq (.cons (Dat.dp h1) (.cons (Dat.dp h2) (.cons (Dat.dp h3) (.cons (Dat.dp h4) .nil))))
  dep := max (Dat.dep α) (max (Dat.dep β) (max (Dat.dep γ) (Dat.dep δ))) + 1
  ddep := fun x => by
    have h1 := Dat.ddep x.a
    have h2 := Dat.ddep x.b
    have h3 := Dat.ddep x.c
    have h4 := Dat.ddep x.d
    show max (Dat.toD x.a).depth (max (Dat.toD x.b).depth (max (Dat.toD x.c).depth (max (Dat.toD x.d).depth 0))) + 1 ≤ _
    omega
  inj := fun x y => by
    rw [eqv4, Bool.and_eq_true, Bool.and_eq_true, Bool.and_eq_true, Dat.inj, Dat.inj, Dat.inj, Dat.inj]
    cases x; cases y
    exact ⟨fun h => by obtain ⟨h1, h2, h3, h4⟩ := h; cases h1; cases h2; cases h3; cases h4; rfl, fun h => by cases h; exact ⟨rfl, rfl, rfl, rfl⟩⟩
  good := fun x => Dat.good x.a ∧ Dat.good x.b ∧ Dat.good x.c ∧ Dat.good x.d
  gshp := fun x h => by
    have h1 := Dat.gshp _ h.1
    have h2 := Dat.gshp _ h.2.1
    have h3 := Dat.gshp _ h.2.2.1
    have h4 := Dat.gshp _ h.2.2.2
    show ((Dat.toD x.a).canLay0 && ((Dat.toD x.b).canLay0 && ((Dat.toD x.c).canLay0 && ((Dat.toD x.d).canLay0 && true)))) = true
    rw [h1, h2, h3, h4]
    rfl
section
variable {W : Wd} {Γ : Gam} {ta tb tc td : TE}
theorem ev_lst4 {α β γ δ : Type} {rα : Rep α} {rβ : Rep β} {rγ : Rep γ} {rδ : Rep δ} {k : L4 α β γ δ → Prop} (h : EvK W ta Γ fun a : α => EvK W tb Γ fun b : β => EvK W tc Γ fun c : γ => EvK W td Γ fun d : δ => k ⟨a, b, c, d⟩) :
    EvK W (tLst (tCons ta (tCons tb (tCons tc (tCons td tNil))))) Γ k := fun σ H Q E c =>
  h σ H _ E fun x H1 a e1 d1 h1 => h1 σ H1 _ (E.ext e1) fun y H2 b e2 d2 h2 => h2 σ H2 _ ((E.ext e1).ext e2) fun u H3 b3 e3 d3 h3 => h3 σ H3 _ (((E.ext e1).ext e2).ext e3) fun w H4 b4 e4 d4 z => ⟨by show 4 ≤ sizeLine; decide, fun p hp =>
    have e5 := Ext.new (o := .lst [x, y, u, w]) e4.ok hp
    c _ _ ⟨a, b, b3, b4⟩ ((((e1.trans e2).trans e3).trans e4).trans e5) ⟨p, x, y, u, w, rfl, Lq.new (fresh_mu e4.ok hp) upd_same, Rep.mono (((e2.trans e3).trans e4).trans e5).keep d1, Rep.mono ((e3.trans e4).trans e5).keep d2, Rep.mono (e4.trans e5).keep d3, Rep.mono e5.keep d4⟩ z⟩
end
end G
set_option Elab.async false
set_option linter.all false
set_option maxRecDepth 100000
set_option maxHeartbeats 2000000
namespace G
open PySem PySem.Spec PyProof.Rows L2 StX
abbrev Own := List (Addr × List V)
abbrev keys (L : Own) : List Addr := L.map (·.1)
structure Ol (α : Type) where
  p : Addr
  vs : List V
  as : List α
instance {α : Type} [Rep α] : Rep (Ol α) :=
  ⟨fun W H v a => v = .ref a.p ∧ Dl (den W H) a.vs a.as, fun e h => ⟨h.1, h.2.imp fun _ _ d => Rep.mono e d⟩, fun D n h => ⟨h.1, h.2.imp fun _ _ d => Rep.grow D n d⟩, fun D h => ⟨h.1, h.2.imp fun _ _ d => Rep.shrink D d⟩⟩
def Wc.plusL (W : Wc) : List Addr → Wc
  | [] => W
  | k :: r => (W.plusL r).plus k
theorem plusL_mu {W : Wc} {a : Addr} : ∀ {ks : List Addr}, (W.plusL ks).mu a ↔ W.mu a ∨ a ∈ ks
  | [] => ⟨.inl, fun h => h.elim id fun h => nomatch h⟩
  | k :: r => by
    show ((W.plusL r).mu a ∨ a = k) ↔ _
    rw [plusL_mu (ks := r), List.mem_cons]
    constructor
    · rintro ((h | h) | h)
      · exact .inl h
      · exact .inr (.inr h)
      · exact .inr (.inl h)
    · rintro (h | h | h)
      · exact .inl (.inl h)
      · exact .inr h
      · exact .inl (.inr h)
theorem plusL_B {W : Wc} : ∀ {ks : List Addr}, (W.plusL ks).B = W.B
  | [] => rfl
  | _ :: r => plusL_B (ks := r)
theorem plusL_box {W : Wc} : ∀ {ks : List Addr}, (W.plusL ks).box = W.box
  | [] => rfl
  | _ :: r => plusL_box (ks := r)
theorem shrinkL {W : Wc} {H : Hp} {v : V} {t : Ty} : ∀ {ks : List Addr}, t.den (W.plusL ks) H v → t.den W H v
  | [], h => h
  | k :: _, h => shrinkL (t.r.shrink k h)
theorem fshrinkL {W : Wc} {H : Hp} {v : V} {t : Fv} : ∀ {ks : List Addr}, t.den (W.plusL ks) H v → t.den W H v
  | [], h => h
  | k :: _, h => fshrinkL (Fv.shrink k h)
def Wd.own (W : Wd) (F : Hp) (L : Own) (oF : W.ok F) (nF : ∀ k ∈ keys L, F k = none) : Wd where
  toWc := W.toWc.plusL (keys L)
  ok := fun H => W.ok H ∧ ∀ x ∈ L, H x.1 = some (.lst x.2)
  live := fun H a ⟨h, e⟩ m => by
    rcases plusL_mu.mp m with m | m
    · exact W.live H a h m
    · obtain ⟨x, hx, rfl⟩ := List.mem_map.mp m
      exact ⟨_, e x hx⟩
  st := fun H p o ⟨h, e⟩ m => ⟨W.st H p o h fun z => m (plusL_mu.mpr (.inl z)), fun x hx => by
    have hne : x.1 ≠ p := fun z => m (plusL_mu.mpr (.inr (by rw [← z]; exact List.mem_map.mpr ⟨x, hx, rfl⟩)))
    rw [upd_ne hne]
    exact e x hx⟩
  wish := fun H => Kp W.toWc F H
  wst := fun H H' k _ w a o m e => k a o (fun z => (plusL_mu.mp z).elim m fun z => by rw [nF a z] at e; cases e) (w a o m e)
  hasbox := fun H b ⟨h, _⟩ hb => W.hasbox H b h (by rw [plusL_box] at hb; exact hb)
  boxset := fun H b c i p s i' p' s' ⟨h, e⟩ hb q h1 h2 => by
    rw [plusL_box] at hb
    refine ⟨W.boxset H b c i p s i' p' s' h hb q h1 h2, fun x hx => ?_⟩
    have z : x.1 ≠ b := fun z => by
      have h3 := nF x.1 (List.mem_map.mpr ⟨x, hx, rfl⟩)
      rw [z] at h3
      exact fresh_mu oF h3 (W.boxmu b hb)
    rw [upd_ne z]
    exact e x hx
  boxmu := fun b hb => plusL_mu.mpr (.inl (W.boxmu b (by rw [plusL_box] at hb; exact hb)))
  oke := fun H H' ⟨h, e⟩ k => ⟨W.oke H H' h k, fun x hx => k _ _ (e x hx)⟩
/-- the world Wo is W with the own lists L kept apart -/
structure OwnW (W : Wd) (L : Own) (Wo : Wd) : Prop where
  B : Wo.B = W.B
  pin : ∀ H, Wo.ok H → ∀ x ∈ L, H x.1 = some (.lst x.2)
  err : ∀ (E : XK) (x : Xn → Prop), (∀ H', W.ok H' → W.wish H' → XOk W H' E x) → ∀ H', Wo.ok H' → Wo.wish H' → XOk Wo H' E x
section
variable {W : Wd} {F : Hp} {L L' : Own} {oF : W.ok F} {nF : ∀ k ∈ keys L, F k = none}
theorem own_ext {H H' : Hp} (o : (W.own F L oF nF).ok H) (e : Ext (W.own F L oF nF) H H') : Ext W H H' := ⟨fun a u m z => by
  by_cases h : a ∈ keys L
  · obtain ⟨x, hx, rfl⟩ := List.mem_map.mp h
    have h1 := o.2 x hx
    have h2 := e.ok.2 x hx
    rw [h1] at z
    cases z
    exact h2
  · exact e.keep a u (fun z => (plusL_mu.mp z).elim m h) z, e.ok.1⟩
theorem xdenL {H : Hp} {d : Option Addr} {fs : List (Str × Fv)} {ks : List Addr} (h : xden (W.toWc.plusL ks) H d fs) : xden W.toWc H d fs :=
  h.imp (fun h => h) fun ⟨dd, vs, h1, h2, h3, h4⟩ => ⟨dd, vs, h1, fun z => h2 (plusL_mu.mpr (.inl z)), h3, h4.imp fun _ _ z => fshrinkL z⟩
theorem own_w (wF : W.wish F) : OwnW W L (W.own F L oF nF) := by
  refine ⟨plusL_B, fun H o x hx => o.2 x hx, fun E x h H' o w n d H2 e xd xn => ?_⟩
  have wH : W.wish H' := W.wst F H' w o.1 wF
  have := h H' o.1 wH n d H2 (own_ext o e) (xdenL xd) xn
  have hB : (W.own F L oF nF).B = W.B := plusL_B
  rw [hB]
  exact this
end
/-- from L at H to L' at H' -/
def Stp (W : Wd) (L : Own) (H : Hp) (L' : Own) (H' : Hp) : Prop := Kp (W.toWc.plusL (keys L)) H H' ∧ ∀ k ∈ keys L', k ∈ keys L ∨ H k = none
theorem Stp.refl {W : Wd} {L : Own} {H : Hp} : Stp W L H L H := ⟨fun _ _ _ z => z, fun _ h => .inl h⟩
theorem Stp.trans {W : Wd} {L L1 L2 : Own} {H H1 H2 : Hp} (o1 : W.ok H1) (a : Stp W L H L1 H1) (b : Stp W L1 H1 L2 H2) : Stp W L H L2 H2 := by
  refine ⟨fun x o m z => b.1 x o (fun q => ?_) (a.1 x o m z), fun k hk => ?_⟩
  · rcases plusL_mu.mp q with q | q
    · exact m (plusL_mu.mpr (.inl q))
    · rcases a.2 x q with q | q
      · exact m (plusL_mu.mpr (.inr q))
      · rw [q] at z; cases z
  · rcases b.2 k hk with h | h
    · exact a.2 k h
    · by_cases hm : k ∈ keys L
      · exact .inl hm
      · refine .inr ?_
        cases q : H k with
        | none => rfl
        | some u =>
          by_cases hw : W.mu k
          · obtain ⟨o, e⟩ := W.live H1 k o1 hw
            rw [h] at e; cases e
          · rw [a.1 k u (fun z => (plusL_mu.mp z).elim hw hm) q] at h
            cases h
structure PoM where
  nx : Own → Gam → Prop
  rt : Ty → Prop
  bk : Own → Gam → Prop := fun _ _ => False
  ct : Own → Gam → Prop := fun _ _ => False
structure EOkM (W : Wd) (F : Hp) (L : Own) (H : Hp) (D : Ends) (R : PoM) : Prop where
  nx : ∀ L' oF nF σ' H' Γ', Stp W L H L' H' → (keys L').Nodup → GOk (W.own F L' oF nF) H' σ' Γ' → R.nx L' Γ' → D.nx σ' H'
  rt : ∀ v H' (t : Ty), Ext W F H' → t.den W H' v → R.rt t → D.rt v H'
  bk : ∀ L' oF nF σ' H' Γ', Stp W L H L' H' → (keys L').Nodup → GOk (W.own F L' oF nF) H' σ' Γ' → R.bk L' Γ' → D.bk σ' H'
  ct : ∀ L' oF nF σ' H' Γ', Stp W L H L' H' → (keys L').Nodup → GOk (W.own F L' oF nF) H' σ' Γ' → R.ct L' Γ' → D.ct σ' H'
theorem EOkM.step {W : Wd} {F : Hp} {L L1 : Own} {H H1 : Hp} {D : Ends} {R : PoM} (h : EOkM W F L H D R) (o1 : W.ok H1) (s : Stp W L H L1 H1) : EOkM W F L1 H1 D R :=
  ⟨fun L' oF nF σ' H' Γ' s' => h.nx L' oF nF σ' H' Γ' (s.trans o1 s'), h.rt, fun L' oF nF σ' H' Γ' s' => h.bk L' oF nF σ' H' Γ' (s.trans o1 s'), fun L' oF nF σ' H' Γ' s' => h.ct L' oF nF σ' H' Γ' (s.trans o1 s')⟩
/-- a statement in a def with own lists L; F: the heap ahead of the first of them -/
def SxM (W : Wd) (F : Hp) (t : TS) (L : Own) (Γ : Gam) (R : PoM) : Prop :=
  ∀ D σ H oF nF, W.wish F → (keys L).Nodup → GOk (W.own F L oF nF) H σ Γ → EOkM W F L H D R → t D σ H
theorem own_gok_nil {W : Wd} {F H : Hp} {σ : L2.St} {Γ : Gam} {oF : W.ok F} {nF : ∀ k ∈ keys [], F k = none} (k : Kp W.toWc F H) (G : GOk W H σ Γ) : GOk (W.own F [] oF nF) H σ Γ := ⟨⟨G.ok, fun _ h => nomatch h⟩, k, G.at_, G.len⟩
theorem own_gok_out {W : Wd} {F H : Hp} {L : Own} {σ : L2.St} {Γ : Gam} {oF : W.ok F} {nF : ∀ k ∈ keys L, F k = none} (wF : W.wish F) (G : GOk (W.own F L oF nF) H σ Γ) : GOk W H σ Γ :=
  ⟨G.ok.1, W.wst F H G.wish G.ok.1 wF, fun i t h => let ⟨v, h1, h2⟩ := G.at_ i t h; ⟨v, h1, shrinkL h2⟩, G.len⟩
theorem own_stp {W : Wd} {F H H' : Hp} {L : Own} {oF : W.ok F} {nF : ∀ k ∈ keys L, F k = none} (e : Ext (W.own F L oF nF) H H') : Stp W L H L H' := ⟨e.keep, fun _ h => .inl h⟩
section
variable {W : Wd} {F : Hp} {L : Own} {Γ : Gam} {ta tb te : TE} {tt : TT} {t u : TS} {R : PoM} {g : TG}
/-- into the part with own lists -/
theorem sx_own {R : Po} (h : ∀ F, SxM W F t [] Γ { nx := fun _ => R.nx, rt := R.rt, bk := fun _ => R.bk, ct := fun _ => R.ct }) : Sx W t Γ R := fun D σ H G O =>
  h H D σ H G.ok (fun _ z => nomatch z) G.wish .nil (own_gok_nil (fun _ _ _ z => z) G)
    ⟨fun L' oF nF σ' H' Γ' s _ G' q => O.nx σ' H' Γ' ⟨G'.wish, G'.ok.1⟩ (own_gok_out G.wish G') q, fun v H' t e d q => O.rt v H' t e d q,
     fun L' oF nF σ' H' Γ' s _ G' q => O.bk σ' H' Γ' ⟨G'.wish, G'.ok.1⟩ (own_gok_out G.wish G') q, fun L' oF nF σ' H' Γ' s _ G' q => O.ct σ' H' Γ' ⟨G'.wish, G'.ok.1⟩ (own_gok_out G.wish G') q⟩
theorem eok_un {D : Ends} {H : Hp} {oF : W.ok F} {nF : ∀ k ∈ keys L, F k = none} (nd : (keys L).Nodup) (O : EOkM W F L H D R) (wk : Kp W.toWc F H) (o : (W.own F L oF nF).ok H) : EOk (W.own F L oF nF) H D { nx := R.nx L, rt := R.rt, bk := R.bk L, ct := R.ct L } :=
  ⟨fun σ' H' Γ' e G q => O.nx L oF nF σ' H' Γ' (own_stp e) nd G q, fun v H' t e d q => O.rt v H' t (Ext.trans (W := W) ⟨wk, o.1⟩ (own_ext o e)) (shrinkL d) q,
   fun σ' H' Γ' e G q => O.bk L oF nF σ' H' Γ' (own_stp e) nd G q, fun σ' H' Γ' e G q => O.ct L oF nF σ' H' Γ' (own_stp e) nd G q⟩
/-- a statement that leaves the own lists -/
theorem sxm_pure (h : ∀ Wo, OwnW W L Wo → Sx Wo t Γ { nx := R.nx L, rt := R.rt, bk := R.bk L, ct := R.ct L }) : SxM W F t L Γ R := fun D σ H oF nF wF nd G O =>
  h _ (own_w wF) D σ H G (eok_un nd O G.wish G.ok)
theorem sxm_seq (h : SxM W F t L Γ { R with nx := fun L' Γ' => SxM W F u L' Γ' R }) : SxM W F (tSeq t u) L Γ R := fun D σ H oF nF wF nd G O =>
  h _ σ H oF nF wF nd G ⟨fun L' oF nF σ' H' Γ' s nd' G' q => q D σ' H' oF nF wF nd' G' (O.step G'.ok.1 s), O.rt, O.bk, O.ct⟩
theorem SxM.imp {R' : PoM} (h : SxM W F t L Γ R') (n : ∀ L Γ', R'.nx L Γ' → R.nx L Γ') (r : ∀ v, R'.rt v → R.rt v) (b : ∀ L Γ', R'.bk L Γ' → R.bk L Γ') (c : ∀ L Γ', R'.ct L Γ' → R.ct L Γ') : SxM W F t L Γ R := fun D σ H oF nF wF nd G O =>
  h D σ H oF nF wF nd G ⟨fun L' oF nF σ' H' Γ' s nd' G' q => O.nx L' oF nF σ' H' Γ' s nd' G' (n _ _ q), fun v H' t e d q => O.rt v H' t e d (r _ q), fun L' oF nF σ' H' Γ' s nd' G' q => O.bk L' oF nF σ' H' Γ' s nd' G' (b _ _ q), fun L' oF nF σ' H' Γ' s nd' G' q => O.ct L' oF nF σ' H' Γ' s nd' G' (c _ _ q)⟩
theorem sxm_seqI (I : Own → Gam → Prop) (h : SxM W F t L Γ { R with nx := I }) (k : ∀ L' Γ', I L' Γ' → SxM W F u L' Γ' R) : SxM W F (tSeq t u) L Γ R := sxm_seq (h.imp k (fun _ q => q) (fun _ _ q => q) fun _ _ q => q)
theorem sxm_if (h : ∀ Wo, OwnW W L Wo → EvT Wo tt Γ fun b => (b = true → SxM W F t L Γ R) ∧ (b = false → SxM W F u L Γ R)) : SxM W F (tIfS tt t u) L Γ R := fun D σ H oF nF wF nd G O =>
  h _ (own_w wF) σ H _ G fun H1 b e1 ⟨h1, h2⟩ => by
    have G1 := G.ext e1
    cases b with
    | true => exact h1 rfl D σ H1 oF nF wF nd G1 (O.step G1.ok.1 (own_stp e1))
    | false => exact h2 rfl D σ H1 oF nF wF nd G1 (O.step G1.ok.1 (own_stp e1))
theorem sxm_next (q : R.nx L Γ) : SxM W F tNext L Γ R := sxm_pure fun Wo _ => sx_next q
theorem fresh_F {H : Hp} {p : Addr} (oH : W.ok H) (wk : Kp W.toWc F H) (n : H p = none) : F p = none := by
  cases q : F p with
  | none => rfl
  | some u =>
    rw [wk p u (fresh_mu oH n) q] at n
    cases n
/-- x = a new list, from now on an own one -/
theorem sxm_new {β : Type} {rβ : Rep β} {i : Nat} (h : ∀ Wo, OwnW W L Wo → EvF Wo te Γ fun bs : List β => ∀ p vs, R.nx ((p, vs) :: L) (Γ.set i (some (T (Ol.mk p vs bs))))) : SxM W F (tAsg te (gName i)) L Γ R := fun D σ H oF nF wF nd G O => by
  refine h _ (own_w wF) σ H _ G fun p H1 vs bs n e hp hb q => ?_
  have nFp : F p = none := fresh_F G.ok.1 G.wish n
  have hpk : p ∉ keys L := fun hk => by
    obtain ⟨x, hx, e1⟩ := List.mem_map.mp hk
    have := G.ok.2 x hx
    rw [e1, n] at this
    cases this
  have nF' : ∀ k ∈ keys ((p, vs) :: L), F k = none := fun k hk => by
    rcases List.mem_cons.mp hk with rfl | hk
    · exact nFp
    · exact nF k hk
  have s : Stp W L H ((p, vs) :: L) H1 := ⟨e.keep, fun k hk => by
    rcases List.mem_cons.mp hk with rfl | hk
    · exact .inr n
    · exact .inl hk⟩
  have G1 := G.ext e
  have kp : Kp ((W.toWc.plusL (keys L)).plus p) H H1 := fun b o m z => e.keep b o (fun z => m (.inl z)) z
  have G2 : GOk (W.own F ((p, vs) :: L) oF nF') H1 σ Γ := ⟨⟨G1.ok.1, fun x hx => by
    rcases List.mem_cons.mp hx with rfl | hx
    · exact hp
    · exact G1.ok.2 x hx⟩, G1.wish, fun j t ht => by
      obtain ⟨v, h1, h2⟩ := G.at_ j t ht
      exact ⟨v, h1, Ty.mono kp (t.r.grow p n h2)⟩, G.len⟩
  exact O.nx _ oF nF' _ H1 _ s (List.nodup_cons.mpr ⟨hpk, nd⟩) (G2.set i (t := T (Ol.mk p vs bs)) ⟨rfl, hb⟩) (q p vs)
theorem keys_set {k : Nat} {p : Addr} {vs vs' : List V} (h : L[k]? = some (p, vs)) : keys (L.set k (p, vs')) = keys L := by
  refine List.ext_getElem? fun i => ?_
  rw [List.getElem?_map, List.getElem?_map, List.getElem?_set]
  by_cases e : k = i
  · subst e
    rw [if_pos rfl]
    have hl : k < L.length := (List.getElem?_eq_some_iff.mp h).1
    rw [if_pos hl, h]
    rfl
  · rw [if_neg e]
/-- an own list changes at its place -/
theorem own_put {H : Hp} {σ : L2.St} {D : Ends} {oF : W.ok F} {nF : ∀ k ∈ keys L, F k = none} {k i : Nat} {p : Addr} {vs vs' : List V} {β : Type} {rβ : Rep β} {bs : List β} (nd : (keys L).Nodup) (G : GOk (W.own F L oF nF) H σ Γ) (O : EOkM W F L H D R)
    (hk : L[k]? = some (p, vs)) (hi : σ[i]? = some (some (.ref p))) (hb : Dl (den (W.toWc.plusL (keys L)) H) vs' bs) (q : R.nx (L.set k (p, vs')) (Γ.set i (some (T (Ol.mk p vs' bs))))) : D.nx σ (upd H p (.lst vs')) := by
  have hks : keys (L.set k (p, vs')) = keys L := keys_set hk
  have hmem : p ∈ keys L := List.mem_map.mpr ⟨_, List.mem_of_getElem? hk, rfl⟩
  have kp : Kp (W.toWc.plusL (keys L)) H (upd H p (.lst vs')) := fun b o m z => by
    have hne : b ≠ p := fun e => m (plusL_mu.mpr (.inr (by rw [e]; exact hmem)))
    rw [upd_ne hne]
    exact z
  have nF' : ∀ k' ∈ keys (L.set k (p, vs')), F k' = none := fun k' h => nF k' (by rw [hks] at h; exact h)
  have nmu : ¬ W.mu p := fresh_mu oF (nF p hmem)
  have s : Stp W L H (L.set k (p, vs')) (upd H p (.lst vs')) := ⟨kp, fun k' h => .inl (by rw [hks] at h; exact h)⟩
  have hl : k < L.length := (List.getElem?_eq_some_iff.mp hk).1
  have G2 : GOk (W.own F (L.set k (p, vs')) oF nF') (upd H p (.lst vs')) σ (Γ.set i (some (T (Ol.mk p vs' bs)))) := by
    refine ⟨⟨W.st _ _ _ G.ok.1 nmu, fun x hx => ?_⟩, fun a o m z => ?_, fun j t ht => ?_, by rw [List.length_set]; exact G.len⟩
    · obtain ⟨j, hj⟩ := List.getElem?_of_mem hx
      rw [List.getElem?_set] at hj
      by_cases e : k = j
      · rw [if_pos e, if_pos hl] at hj
        cases hj
        exact upd_same
      · rw [if_neg e] at hj
        have hne : x.1 ≠ p := fun z => by
          have h1 : (keys L)[j]? = some p := by rw [List.getElem?_map, hj, ← z]; rfl
          have h2 : (keys L)[k]? = some p := by rw [List.getElem?_map, hk]; rfl
          exact e ((List.getElem?_inj (by rw [List.length_map]; exact hl) nd).mp (h2.trans h1.symm))
        rw [upd_ne hne]
        exact G.ok.2 x (List.mem_of_getElem? hj)
    · have hne : a ≠ p := fun e => by rw [e, nF p hmem] at z; cases z
      rw [upd_ne hne]
      exact G.wish a o m z
    · show ∃ v, σ[j]? = some (some v) ∧ t.den (W.toWc.plusL (keys (L.set k (p, vs')))) _ v
      rw [hks]
      by_cases e : i = j
      · subst e
        have hl2 : i < Γ.length := by
          have := (List.getElem?_eq_some_iff.mp hi).1
          rw [G.len] at this
          exact this
        rw [List.getElem?_set_self hl2] at ht
        cases ht
        exact ⟨_, hi, rfl, hb.imp fun _ _ d => Rep.mono kp d⟩
      · rw [List.getElem?_set_ne e] at ht
        obtain ⟨v, h1, h2⟩ := G.at_ j t ht
        exact ⟨v, h1, Ty.mono kp h2⟩
  exact O.nx _ oF nF' σ _ _ s (by rw [hks]; exact nd) G2 q
theorem ol_at {Wo : Wd} {H : Hp} {σ : L2.St} {α : Type} {rα : Rep α} {i : Nat} {p : Addr} {vs : List V} {as : List α} (G : GOk Wo H σ Γ) (h : Γ[i]? = some (some (T (Ol.mk p vs as)))) : σ[i]? = some (some (.ref p)) ∧ Dl (den Wo H) vs as := by
  obtain ⟨v, h1, h2, h3⟩ := G.at_ i _ h
  subst h2
  exact ⟨h1, h3⟩
/-- xs.append(e), xs an own list -/
theorem sxm_append {α : Type} {rα : Rep α} {K : PySem.W.Frag} {i : Nat} (k : Nat) {p : Addr} {vs : List V} {as : List α} (hk : L[k]? = some (p, vs)) (hi : Γ[i]? = some (some (T (Ol.mk p vs as))))
    (h : ∀ Wo, OwnW W L Wo → EvK Wo te Γ fun a : α => as.length < 100000 ∧ ∀ v, R.nx (L.set k (p, vs ++ [v])) (Γ.set i (some (T (Ol.mk p (vs ++ [v]) (as ++ [a])))))) : SxM W F (tDrop (tBM K "list" rAppend (tVar i) (tCons te tNil))) L Γ R := fun D σ H oF nF wF nd G O => by
  obtain ⟨h1, h2⟩ := ol_at G hi
  refine ⟨_, h1, .inl ⟨rfl, _, .inl (.inl (G.ok.2 _ (List.mem_of_getElem? hk)))⟩, ?_⟩
  refine h _ (own_w wF) σ H _ G fun v H1 a e1 d ⟨hl, q⟩ => ?_
  have G1 := G.ext e1
  refine ⟨p, vs, v, rfl, rfl, G1.ok.2 _ (List.mem_of_getElem? hk), Nat.lt_of_lt_of_le (by rw [h2.length]; exact hl) (by decide : 100000 ≤ sizeLine), ?_⟩
  exact own_put nd G1 (O.step G1.ok.1 (own_stp e1)) hk h1 (Dl.append (h2.imp fun _ _ d => Rep.mono e1.keep d) (.cons d .nil)) (q v)
theorem Dl.set {α : Type} {f : V → α → Prop} : ∀ {vs : List V} {as : List α} {m : Nat} {v : V} {a : α}, Dl f vs as → f v a → Dl f (vs.set m v) (as.set m a)
  | _, _, _, _, _, .nil, _ => .nil
  | _, _, 0, _, _, .cons _ y, h => .cons h y
  | _, _, m + 1, _, _, .cons x y, h => .cons x (y.set h)
/-- for x in a list, with own lists -/
theorem sxm_forL {α : Type} {rα : Rep α} {K : PySem.W.Frag} (hK : W.B.K = K) (h : ∀ Wo, OwnW W L Wo → EvK Wo te Γ fun as : List α => ∃ I : Nat → Own → Gam → Prop, I 0 L Γ ∧
      (∀ i L' Γ', I i L' Γ' → keys L' = keys L) ∧
      (∀ (i : Nat) (a : α) L' Γ', as[i]? = some a → I i L' Γ' → ∀ Wo', OwnW W L' Wo' → Tg Wo' g Γ' a fun Γ1 => SxM W F t L' Γ1 { R with nx := I (i + 1), ct := I (i + 1), bk := R.nx }) ∧ ∀ L' Γ', I as.length L' Γ' → R.nx L' Γ') : SxM W F (tFor (iList K te) g t) L Γ R := by
  subst hK
  refine fun D σ H oF nF wF nd G O => h _ (own_w wF) σ H _ G fun v H1 as e1 ⟨p, vs, hv, hp, hd⟩ ⟨I, h0, hI, hs, hl⟩ => ?_
  have hB : (W.own F L oF nF).B.K = W.B.K := congrArg Bs.K plusL_B
  have G1 := G.ext e1
  have O1 := O.step G1.ok.1 (own_stp e1)
  have sq : ∀ H', Kp (W.toWc.plusL (keys L)) H1 H' → SqL W.B.K H' p vs := fun H' kk => .inl (.inl (kk _ _ hp.1 hp.2))
  refine ⟨p, hv, ⟨vs, sq H1 fun _ _ _ z => z⟩, for_list (K := W.B.K) (a := p) (xs := vs) (fun i σ' H' => ∃ L' oF nF Γ', Stp W L H1 L' H' ∧ (keys L').Nodup ∧ GOk (W.own F L' oF nF) H' σ' Γ' ∧ I i L' Γ') ⟨L, oF, nF, Γ, .refl, nd, G1, h0⟩ (fun i σ' H' _ ⟨L', _, _, Γ', s, _⟩ => sq H' s.1) ?_ ?_⟩
  · rintro i x σ' H' hx ⟨L', oF', nF', Γ', s, nd', G', q⟩
    obtain ⟨a, ha, da⟩ := (hd.imp fun _ _ d => Rep.mono s.1 d).at hx
    obtain ⟨js, hj⟩ := hs i a L' Γ' ha q _ (own_w (oF := oF') (nF := nF') wF)
    have da' : den (W.own F L' oF' nF').toWc H' x a := by
      show den (W.toWc.plusL (keys L')) H' x a
      rw [hI i L' Γ' q]
      exact da
    refine hj σ' H' x _ G' da' fun σ2 Γ2 G2 _ q2 => ?_
    exact q2 _ σ2 H' oF' nF' wF nd' G2 ⟨fun L3 oF3 nF3 σ3 H3 Γ3 s3 nd3 G3 q3 => ⟨L3, oF3, nF3, Γ3, s.trans G'.ok.1 s3, nd3, G3, q3⟩, fun v3 H3 t3 e3 d3 q3 => O.rt v3 H3 t3 e3 d3 q3,
      fun L3 oF3 nF3 σ3 H3 Γ3 s3 nd3 G3 q3 => O1.nx L3 oF3 nF3 σ3 H3 Γ3 (s.trans G'.ok.1 s3) nd3 G3 q3, fun L3 oF3 nF3 σ3 H3 Γ3 s3 nd3 G3 q3 => ⟨L3, oF3, nF3, Γ3, s.trans G'.ok.1 s3, nd3, G3, q3⟩⟩
  · rintro σ' H' ⟨L', oF', nF', Γ', s, nd', G', q⟩
    rw [hd.length] at q
    exact O1.nx L' oF' nF' σ' H' Γ' s nd' G' (hl L' Γ' q)
/-- for x in range(n), with own lists -/
theorem sxm_forR (h : ∀ Wo, OwnW W L Wo → EvK Wo te Γ fun n : Int => (-(2 ^ 62) ≤ n ∧ n < 2 ^ 62) ∧ ∃ I : Nat → Own → Gam → Prop, I 0 L Γ ∧
      (∀ (i : Nat) L' Γ', i < n.toNat → I i L' Γ' → ∀ Wo', OwnW W L' Wo' → Tg Wo' g Γ' (i : Int) fun Γ1 => SxM W F t L' Γ1 { R with nx := I (i + 1), ct := I (i + 1), bk := R.nx }) ∧ ∀ L' Γ', I n.toNat L' Γ' → R.nx L' Γ') : SxM W F (tFor (iRng1 (tCons te tNil)) g t) L Γ R := by
  refine fun D σ H oF nF wF nd G O => h _ (own_w wF) σ H _ G fun v H1 n e1 hv ⟨⟨b1, b2⟩, I, h0, hs, hl⟩ => ?_
  have G1 := G.ext e1
  have O1 := O.step G1.ok.1 (own_stp e1)
  refine ⟨n, congrArg (fun x => [x]) hv, b1, b2, for_range (lo := 0) (n := n.toNat) (fun i σ' H' => ∃ L' oF nF Γ', Stp W L H1 L' H' ∧ (keys L').Nodup ∧ GOk (W.own F L' oF nF) H' σ' Γ' ∧ I i L' Γ') ⟨L, oF, nF, Γ, .refl, nd, G1, h0⟩ ?_ ?_⟩
  · rintro i σ' H' hi ⟨L', oF', nF', Γ', s, nd', G', q⟩
    obtain ⟨js, hj⟩ := hs i L' Γ' hi q _ (own_w (oF := oF') (nF := nF') wF)
    refine hj σ' H' _ _ G' (by show V.int ((0 : Int) + i) = .int i; rw [Int.zero_add]) fun σ2 Γ2 G2 _ q2 => ?_
    exact q2 _ σ2 H' oF' nF' wF nd' G2 ⟨fun L3 oF3 nF3 σ3 H3 Γ3 s3 nd3 G3 q3 => ⟨L3, oF3, nF3, Γ3, s.trans G'.ok.1 s3, nd3, G3, q3⟩, fun v3 H3 t3 e3 d3 q3 => O.rt v3 H3 t3 e3 d3 q3,
      fun L3 oF3 nF3 σ3 H3 Γ3 s3 nd3 G3 q3 => O1.nx L3 oF3 nF3 σ3 H3 Γ3 (s.trans G'.ok.1 s3) nd3 G3 q3, fun L3 oF3 nF3 σ3 H3 Γ3 s3 nd3 G3 q3 => ⟨L3, oF3, nF3, Γ3, s.trans G'.ok.1 s3, nd3, G3, q3⟩⟩
  · rintro σ' H' ⟨L', oF', nF', Γ', s, nd', G', q⟩
    exact O1.nx L' oF' nF' σ' H' Γ' s nd' G' (hl L' Γ' q)
inductive Frz (L : Own) : Gam → Gam → Prop
  | nil : Frz L [] []
  | own {α : Type} {rα : Rep α} {p : Addr} {vs : List V} {as : List α} {Γ Γ' : Gam} : (p, vs) ∈ L → Frz L Γ Γ' → Frz L (some (T (Ol.mk p vs as)) :: Γ) (some (T as) :: Γ')
  | same {t : Option Ty} {Γ Γ' : Gam} : Frz L Γ Γ' → Frz L (t :: Γ) (t :: Γ')
theorem Frz.len {Γ Γ' : Gam} (h : Frz L Γ Γ') : Γ.length = Γ'.length := by
  induction h with
  | nil => rfl
  | own _ _ ih => exact congrArg (· + 1) ih
  | same _ ih => exact congrArg (· + 1) ih
theorem frz_slots {H : Hp} {Γ Γ' : Gam} (nm : ∀ k ∈ keys L, ¬ W.mu k) (pin : ∀ x ∈ L, H x.1 = some (.lst x.2)) (f : Frz L Γ Γ') : ∀ (i : Nat) (t : Ty), Γ'[i]? = some (some t) → (∀ u v, Γ[i]? = some (some u) → u.den (W.toWc.plusL (keys L)) H v → t.den W.toWc H v) ∧ ∃ u, Γ[i]? = some (some u) := by
  induction f with
  | nil => intro i t h; simp at h
  | @own α rα p vs as Γ Γ' hm _ ih =>
    intro i t h
    cases i with
    | zero =>
      have h' : some (some (T as)) = some (some t) := by simpa using h
      cases h'
      refine ⟨fun u v hu hd => ?_, _, rfl⟩
      have hu' : some (some (T (Ol.mk p vs as))) = some (some u) := by simpa using hu
      cases hu'
      obtain ⟨hv, hb⟩ := hd
      exact ⟨p, vs, hv, ⟨nm p (List.mem_map.mpr ⟨_, hm, rfl⟩), pin _ hm⟩, hb.imp fun _ _ d => shrinkL (t := T _) d⟩
    | succ i => exact ih i t (by simpa using h)
  | @same t0 Γ Γ' _ ih =>
    intro i t h
    cases i with
    | zero =>
      have h' : some t0 = some (some t) := by simpa using h
      cases h'
      refine ⟨fun u v hu hd => ?_, _, rfl⟩
      have hu' : some (some t) = some (some u) := by simpa using hu
      cases hu'
      exact shrinkL hd
    | succ i => exact ih i t (by simpa using h)
/-- own lists come to rest: from now on they do not change -/
theorem sxm_freeze {Γ' : Gam} (f : Frz L Γ Γ') (h : SxM W F t [] Γ' R) : SxM W F t L Γ R := fun D σ H oF nF wF nd G O => by
  have nm : ∀ k ∈ keys L, ¬ W.mu k := fun k hk => fresh_mu oF (nF k hk)
  have G' : GOk (W.own F [] oF fun _ z => nomatch z) H σ Γ' := ⟨⟨G.ok.1, fun _ z => nomatch z⟩, G.wish, fun i t ht => by
    obtain ⟨h1, u, hu⟩ := frz_slots nm G.ok.2 f i t ht
    obtain ⟨v, h2, h3⟩ := G.at_ i u hu
    exact ⟨v, h2, h1 u v hu h3⟩, G.len.trans f.len⟩
  refine h D σ H oF (fun _ z => nomatch z) wF .nil G' ⟨fun L' oF' nF' σ' H' Γ2 s nd' G2 q => O.nx L' oF' nF' σ' H' Γ2 ?_ nd' G2 q, O.rt, fun L' oF' nF' σ' H' Γ2 s nd' G2 q => O.bk L' oF' nF' σ' H' Γ2 ?_ nd' G2 q, fun L' oF' nF' σ' H' Γ2 s nd' G2 q => O.ct L' oF' nF' σ' H' Γ2 ?_ nd' G2 q⟩ <;>
  exact ⟨fun a o m z => s.1 a o (fun q => m (plusL_mu.mpr (.inl q))) z, fun k hk => .inr ((s.2 k hk).resolve_left fun z => nomatch z)⟩
/-- data that holds no list -/
class NoLst (α : Type) [Rep α] : Prop where
  at_ : ∀ {W : Wc} {H : Hp} {v : V} {a : α} {D : Addr} {xs : List V}, H D = some (.lst xs) → den W H v a → den (W.plus D) H v a
instance : NoLst Int := ⟨fun _ h => h⟩
instance : NoLst Bool := ⟨fun _ h => h⟩
instance : NoLst Str := ⟨fun _ h => h⟩
instance : NoLst Unit := ⟨fun _ h => h⟩
theorem tq_nl {W : Wc} {H : Hp} {p D : Addr} {vs xs : List V} (h : H D = some (.lst xs)) (s : Tq W H p vs) : Tq (W.plus D) H p vs :=
  ⟨fun z => z.elim s.1 (fun z => by have s2 := s.2; rw [z, h] at s2; cases s2), s.2⟩
instance {α β : Type} [Rep α] [Rep β] [NoLst α] [NoLst β] : NoLst (α × β) := ⟨fun h ⟨p, x, y, hv, s, h1, h2⟩ => ⟨p, x, y, hv, tq_nl h s, NoLst.at_ h h1, NoLst.at_ h h2⟩⟩
instance {α β γ : Type} [Rep α] [Rep β] [Rep γ] [NoLst α] [NoLst β] [NoLst γ] : NoLst (T3 α β γ) := ⟨fun h ⟨p, x, y, z, hv, s, h1, h2, h3⟩ => ⟨p, x, y, z, hv, tq_nl h s, NoLst.at_ h h1, NoLst.at_ h h2, NoLst.at_ h h3⟩⟩
instance : NoLst Stc := ⟨fun h ⟨a, dx, hv, m, e⟩ => ⟨a, dx, hv, fun z => z.elim m (fun z => by rw [z, h] at e; cases e), e⟩⟩
section
variable {oF : W.ok F} {nF : ∀ k ∈ keys L, F k = none}
theorem look_gok {H : Hp} {σ : L2.St} {Γ' : Gam} (wF : W.wish F) (f : Frz L Γ Γ') (G : GOk (W.own F L oF nF) H σ Γ) : GOk W H σ Γ' := by
  have nm : ∀ k ∈ keys L, ¬ W.mu k := fun k hk => fresh_mu oF (nF k hk)
  exact ⟨G.ok.1, W.wst F H G.wish G.ok.1 wF, fun i t ht => by
    obtain ⟨h1, u, hu⟩ := frz_slots nm G.ok.2 f i t ht
    obtain ⟨v, h2, h3⟩ := G.at_ i u hu
    exact ⟨v, h2, h1 u v hu h3⟩, G.len.trans f.len⟩
theorem look_ext {H H' : Hp} (o : (W.own F L oF nF).ok H) (e : Ext W H H') : Ext (W.own F L oF nF) H H' := ⟨fun a u m z => e.keep a u (fun q => m (plusL_mu.mpr (.inl q))) z, e.ok, fun x hx =>
  e.keep _ _ (fresh_mu oF (nF x.1 (List.mem_map.mpr ⟨x, hx, rfl⟩))) (o.2 x hx)⟩
theorem look_T {Γ' : Gam} {k : Bool → Prop} (wF : W.wish F) (f : Frz L Γ Γ') (h : EvT W tt Γ' k) : EvT (W.own F L oF nF) tt Γ k := fun σ H Q G c =>
  h σ H Q (look_gok wF f G) fun H' b e q => c H' b (look_ext G.ok e) q
end
theorem sxm_ifB {Γ' : Gam} (f : Frz L Γ Γ') (h : EvT W tt Γ' fun b => (b = true → SxM W F t L Γ R) ∧ (b = false → SxM W F u L Γ R)) : SxM W F (tIfS tt t u) L Γ R := fun D σ H oF nF wF nd G O =>
  look_T wF f h σ H _ G fun H1 b e1 ⟨h1, h2⟩ => by
    have G1 := G.ext e1
    cases b with
    | true => exact h1 rfl D σ H1 oF nF wF nd G1 (O.step G1.ok.1 (own_stp e1))
    | false => exact h2 rfl D σ H1 oF nF wF nd G1 (O.step G1.ok.1 (own_stp e1))
theorem evF_lst {α : Type} {rα : Rep α} {Wo : Wd} {ta : TA} {k : List α → Prop} (h : EvL Wo ta Γ fun as => as.length ≤ 100000 ∧ k as) : EvF Wo (tLst ta) Γ k := fun σ H Q E c =>
  h σ H _ E fun vs H1 as e1 ds ⟨hl, z⟩ => ⟨Nat.le_trans (by rw [ds.length]; exact hl) (by decide : 100000 ≤ sizeLine), fun p hp => by
    have e2 := Ext.new (o := .lst vs) e1.ok hp
    exact c p _ vs as (fresh_back e1.ok e1 hp) (e1.trans e2) upd_same (ds.imp fun _ _ d => Rep.mono (W := Wo.toWc.plus p) (fun b o m z => by rw [upd_ne (ne_of_none z hp)]; exact z) (Rep.grow p hp d)) z⟩
end
end G
set_option Elab.async false
set_option linter.all false
set_option maxRecDepth 100000
set_option maxHeartbeats 2000000
namespace G
open PySem PySem.Spec PyProof.Rows L2 StX
section
variable {X : Cx} {CX : CXT} {k n : Nat} {f g C p : Addr} {sp : Sp} {E : L2.St → XK} {x m : Str} {o e e2 : Expr} {es : List Expr} {te to tb : TE} {t : TA} {pp sp_ pos apos : Pos} {mc : Value}
theorem pe_appendK (K : PySem.W.Frag) (ho : PE X o to) (ha : PA X (e :: es) t) (hK : X.K = K := by rfl)
    (hbase : attributeBase o "append" X.env (eval o X.env) = eval o X.env := by rfl)
    (hfew : ((backTo pos (starEach (e :: es) X.env)).all (fun x => !x.1) && (backToKw pos (keywordEach [] X.env)).all (fun x => x.1.isSome)
      && decide ((e :: es).length + ([] : List Keyword).length + (if ([] : List Keyword).isEmpty then 0 else 1) < 30)) = true := by rfl)
    (hline : (apos.endLine == pos.line) = true := by rfl) (hs : starEach (e :: es) X.env = (false, eval e X.env) :: starEach es X.env := by rfl) (hplain : (backTo pos (starEach es X.env)).any (·.1) = false := by rfl) :
    PE X (.Call (.Attribute o "append" apos) (e :: es) [] pos) (tBM K "list" rAppend to t) := by
  subst hK
  exact pe_bm PySem.F.plainAttrs_list PySem.F.slot_list_append PySem.F.type_list_append mt_append ho ha hbase hfew hline hs hplain
/-- x(e, ..), x a local name that holds the class at C -/
def tMakeV (i : Nat) (C : Addr) (sp : Sp) (E : L2.St → XK) (t : TA) : TE := fun σ H Q => ∃ v, σ[i]? = some (some v) ∧ v = .ref C ∧ tMakeZ C sp E t σ H Q
/-- a star call's items -/
def tStarZ (K : PySem.W.Frag) (te : TE) : TA := fun σ H Q => te σ H fun y H1 => ∃ a xs, y = V.ref a ∧ (SqT K H1 a xs ∨ SqL K H1 a xs) ∧ Q xs H1
/-- C.m(e, ..), a class method -/
def tCMethZ (C : Addr) (sp : Sp) (E : L2.St → XK) (t : TA) : TE := fun σ H Q => t σ H fun vs H2 => sp (.ref C :: vs) H2 Q (E σ)
theorem cd_fnRS {pins : List (Addr × Obj)} {σ : L2.St} {H : Hp} {s : Shared} {E : XK} {Q : VK} {us : List Value} {vs : List V} (F : FnR X.prog X.w X.K X.mg X.base CX k f sp) (hr : Room k X.A) (hx : PassesAt CX X σ E) (I : L2.Inv X pins σ H s) (r : Vals vs us) (q : sp vs H Q E) :
    codeAny (model X.prog X.w) X.A (.call (.ref f) ⟨us, []⟩) (fun r s' => match r with
      | .ok (.ret v) => EP X pins σ Q v s'
      | .ok _ => False
      | .error e => X.xe e s') s := by
  refine codeAny_mono (F _ X.stack _ _ us _ _ E hr I.env0 r q) fun r s' h => ?_
  cases r with
  | error e => exact hx pins H s e s' I h
  | ok fl =>
    cases fl with
    | ret u =>
      obtain ⟨v, H2, os2, bare2, un2, hok2, rv, qv⟩ := h
      exact ⟨v, H2, I.call' os2 un2 hok2 bare2 (fun b hb => (nomatch hb)), rv, qv⟩
    | next => exact False.elim h
    | brk => exact False.elim h
    | cont => exact False.elim h
theorem run_cmZ {pins : List (Addr × Obj)} {σ : L2.St} {H : Hp} {s : Shared} {q : Addr} {E : XK} {Q : VK} {us : List Value} {vs : List V} (F : FnR X.prog X.w X.K X.mg X.base CX k g sp) (hr : Room k X.A) (hx : PassesAt CX X σ E) (I : Inv X ((q, PySem.W.methodObj (.ref g) (.ref C)) :: pins) σ H s)
    (r : Vals vs us) (h : sp (.ref C :: vs) H Q E) : wpAny (model X.prog X.w) X.A (call (.ref q) us) (EP X pins σ Q) X.xe s := by
  have z : wpAny (model X.prog X.w) X.A (call (.ref q) us) (EP X ((q, PySem.W.methodObj (.ref g) (.ref C)) :: pins) σ Q) X.xe s :=
    wpAny_call (PySem.W.method_call (ClX.pin_at I) (cd_fnRS (us := .ref C :: us) (vs := .ref C :: vs) F hr hx I (.cons rfl r) h))
  exact thn z fun _ _ y => ClX.unpinE y
theorem pe_cmethZ {pl : Sem Bool} (r : ClX.CRead X.K C mc) (c : ∃ p, ClX.CMet X.K C mc m p g) (F : FnR X.prog X.w X.K X.mg X.base CX k g sp) (hr : Room k X.A) (hx : ∀ σ, PassesAt CX X σ (E σ)) (hm : X.mg x = some (.ref C)) (ha : PA X (e :: es) t) (hg : Gl X x := by rfl) (hdb : (x == ("__debug__" : Str)) = false := by decide)
    (hst : starEach (e :: es) X.env = (false, eval e X.env) :: starEach es X.env := by rfl) (hpl : (backTo pos (starEach es X.env)).any (·.1) = false := by rfl)
    (ht : eval (.Call (.Attribute (.Name x pp) m apos) (e :: es) [] pos) X.env = (do
      let ov ← eval (.Name x pp) X.env
      standAt apos.atName
      let (f, first) ← holding [ov] (getMethod ov m pl)
      callWith pos f first (backTo pos (starEach (e :: es) X.env)) (backToKw pos (keywordEach [] X.env))) := by rfl) :
    PE X (.Call (.Attribute (.Name x pp) m apos) (e :: es) [] pos) (tCMethZ C sp E t) := by
  obtain ⟨p, c⟩ := c
  refine ⟨fun pins s σ H Q I h => ?_⟩
  refine PySem.W.methodCall_KW (pl := pl) (ld_glob I hg hm ?_ hdb) ht
  refine ClX.getmethcm_ok (I.tok _) r c fun s2 I2 => ?_
  refine ClX.callwith_cm I2 (ClX.base_none (I.tok _) (Nat.le_refl _)) c.fi (thn (ha.run pos _ s2 σ H _ I2 h) fun us s3 ⟨vs, H2, I3, rv, q2⟩ => ⟨⟨ClX.pin_at I3, I3.kIn⟩, ?_⟩) hst hpl
  exact run_cmZ F hr (hx σ) I3 rv q2
/-- e.f, a property that raises nothing, by a promise of values -/
def tPropZ (C : Addr) (sp : Sp) (ta : TE) : TE := fun σ H Q => ta σ H fun x H1 => ∃ a dx fs, x = .ref a ∧ H1 a = some (.ins C dx fs) ∧ sp [.ref a] H1 Q E0
end
end G
set_option Elab.async false
set_option linter.all false
set_option maxRecDepth 100000
set_option maxHeartbeats 2000000
namespace G
open PySem PySem.Spec PyProof.Rows L2 StX
structure Cv where
  c : Cn
instance : Rep Cv := ⟨fun W _ v a => v = .ref (W.B.cl a.c), fun _ h => h, fun _ _ h => h, fun _ h => h⟩
instance : NoLst Cv := ⟨fun _ h => h⟩
structure Tl (α : Type) where
  xs : List α
instance {α : Type} [Rep α] : Rep (Tl α) :=
  ⟨fun W H v as => ∃ p vs, v = .ref p ∧ Tq W H p vs ∧ Dl (den W H) vs as.xs,
   fun e ⟨p, vs, hv, s, h⟩ => ⟨p, vs, hv, s.mono e, h.imp fun _ _ x => Rep.mono e x⟩,
   fun D n ⟨p, vs, hv, s, h⟩ => ⟨p, vs, hv, s.grow D n, h.imp fun _ _ x => Rep.grow D n x⟩,
   fun D ⟨p, vs, hv, s, h⟩ => ⟨p, vs, hv, s.shrink D, h.imp fun _ _ x => Rep.shrink D x⟩⟩
section
variable {W : Wd} {Γ : Gam} {ta : TA} {te tb to tl : TE} {tt : TT} {g : TG} {B : Bs} {P : PT} {E : L2.St → XK} {x : Xn → Prop} {C : Addr} {K : PySem.W.Frag}
/-- a pure comprehension gives a new list -/
theorem lcF_turns {α β : Type} {rα : Rep α} {rβ : Rep β} {vs : List Nat} {as : List α} (p : α → Bool) (f : α → β) (hs : ∀ W', Sub W W' → ∀ a ∈ as, LcTurn W' g tt te vs Γ a (p a = false) fun y : β => p a = true ∧ y = f a) :
    ∀ W', Sub W W' → ∀ (i : Nat) (a : α) (bs : List β), as[i]? = some a → bs = ((as.take i).filter p).map f → LcTurn W' g tt te vs Γ a (bs = ((as.take (i + 1)).filter p).map f) fun y : β => bs ++ [y] = ((as.take (i + 1)).filter p).map f := by
  intro W' s i a bs ha e
  have ht : as.take (i + 1) = as.take i ++ [a] := by
    rw [List.take_succ, ha]; rfl
  obtain ⟨js, h1, h2⟩ := hs W' s a (List.mem_of_getElem? ha)
  refine ⟨js, h1, fun σ H v Q E d c => h2 σ H v Q E d fun σ' Γ' G m q2 => c σ' Γ' G m ?_⟩
  intro σ2 H2 Q2 E2 c2
  refine q2 σ2 H2 Q2 E2 fun H3 b e3 ⟨hy, hn⟩ => c2 H3 b e3 ⟨fun hb => (hy hb).imp fun y ⟨hp, hyf⟩ => ?_, fun hb => ?_⟩
  · show bs ++ [y] = ((as.take (i + 1)).filter p).map f
    rw [ht, List.filter_append, List.map_append, ← e, List.filter_cons_of_pos hp, hyf]; rfl
  · show bs = ((as.take (i + 1)).filter p).map f
    rw [ht, List.filter_append, List.map_append, ← e, List.filter_cons_of_neg (by rw [hn hb]; exact Bool.false_ne_true)]; simp
theorem evF_lcF {α β : Type} [rα : Rep α] [rβ : Rep β] {vs : List Nat} {k : List β → Prop} (p : α → Bool) (f : α → β) (hK : W.B.K = K)
    (h : EvK W tl Γ fun as : List α => as.length ≤ 100000 ∧ (∀ W', Sub W W' → ∀ a ∈ as, LcTurn W' g tt te vs Γ a (p a = false) fun y : β => p a = true ∧ y = f a) ∧ k ((as.filter p).map f)) :
    EvF W (tLc (iList K tl) g tt te vs) Γ k := evF_lc hK (h.imp fun as ⟨hl, hs, q⟩ => ⟨hl, fun i bs => bs = ((as.take i).filter p).map f, by simp, lcF_turns p f hs, fun bs e => by rw [e, List.take_length]; exact q⟩)
def lexLe (p q : Int × Int) : Bool := decide (p.1 < q.1 ∨ (p.1 = q.1 ∧ p.2 ≤ q.2))
theorem lexLe_iff {p q : Int × Int} : lexLe p q = true ↔ p.1 < q.1 ∨ (p.1 = q.1 ∧ p.2 ≤ q.2) := by unfold lexLe; exact decide_eq_true_iff
theorem lexLe_trans (a b c : Int × Int) (h1 : lexLe a b = true) (h2 : lexLe b c = true) : lexLe a c = true := by rw [lexLe_iff] at *; omega
theorem lexLe_total (a b : Int × Int) : (lexLe a b || lexLe b a) = true := by
  rw [Bool.or_eq_true, lexLe_iff, lexLe_iff]; omega
theorem lexLe_anti (a b : Int × Int) (h1 : lexLe a b = true) (h2 : lexLe b a = true) : a = b := by
  rw [lexLe_iff] at h1 h2
  exact Prod.ext (by omega) (by omega)
def sortP (as : List (Int × Int)) : List (Int × Int) := as.mergeSort lexLe
theorem sortP_perm (as : List (Int × Int)) : (sortP as).Perm as := List.mergeSort_perm _ _
theorem sortP_sorted (as : List (Int × Int)) : (sortP as).Pairwise fun a b => lexLe a b = true := List.pairwise_mergeSort lexLe_trans lexLe_total _
theorem sortP_uniq {as bs : List (Int × Int)} (hp : bs.Perm as) (hs : bs.Pairwise fun a b => lexLe a b = true) : bs = sortP as :=
  List.Perm.eq_of_pairwise (fun a b _ _ => lexLe_anti a b) hs (sortP_sorted as) (hp.trans (sortP_perm as).symm)
/-- the ints of a pair that stands in the heap -/
def pairK (H : Hp) (v : V) : Int × Int := match v with
  | .ref t => match H t with
    | some (.tup [.int i, .int j]) => (i, j)
    | _ => (0, 0)
  | _ => (0, 0)
theorem pairK_of {W : Wc} {H : Hp} {v : V} {a : Int × Int} (h : den W H v a) : pairK H v = a ∧ ∃ t, v = V.ref t ∧ H t = some (.tup [.int (pairK H v).1, .int (pairK H v).2]) := by
  obtain ⟨p, x, y, hv, s, h1, h2⟩ := h
  have h1' : x = V.int a.1 := h1
  have h2' : y = V.int a.2 := h2
  subst h1' h2' hv
  have e : pairK H (.ref p) = a := by
    show (match H p with
      | some (.tup [.int i, .int j]) => (i, j)
      | _ => ((0 : Int), (0 : Int))) = a
    rw [s.2]
  exact ⟨e, p, rfl, by rw [e]; exact s.2⟩
theorem dl_pairK {W : Wc} {H : Hp} : ∀ {vs : List V} {as : List (Int × Int)}, Dl (den W H) vs as → vs.map (pairK H) = as
  | _, _, .nil => rfl
  | _, _, .cons x y => by rw [List.map_cons, (pairK_of x).1, dl_pairK y]
theorem Dl.mem {α : Type} {f : V → α → Prop} {v : V} : ∀ {vs : List V} {as : List α}, Dl f vs as → v ∈ vs → ∃ a, a ∈ as ∧ f v a
  | _, _, .nil, h => nomatch h
  | _, _, .cons x y, h => by
    rcases List.mem_cons.mp h with rfl | h
    · exact ⟨_, List.mem_cons_self, x⟩
    · obtain ⟨a, h1, h2⟩ := y.mem h
      exact ⟨a, List.mem_cons_of_mem _ h1, h2⟩
theorem dl_of_map {W : Wc} {H : Hp} : ∀ {vs : List V}, (∀ v ∈ vs, ∃ a : Int × Int, den W H v a) → Dl (den W H) vs (vs.map (pairK H))
  | [], _ => .nil
  | v :: r, h => by
    obtain ⟨a, d⟩ := h v List.mem_cons_self
    refine .cons ?_ (dl_of_map fun w hw => h w (List.mem_cons_of_mem _ hw))
    rw [(pairK_of d).1]
    exact d
theorem evF_sortedP {k : List (Int × Int) → Prop} (hK : W.B.K = K) (h : EvK W te Γ fun as : List (Int × Int) => k (sortP as)) : EvF W (tCB (rSortedPO K) (tCons te tNil)) Γ k := by
  subst hK
  refine fun σ H Q E c => h σ H _ E fun v H1 as e1 ⟨p, vs, hv, hp, hd⟩ z => ?_
  refine ⟨p, vs, pairK H1, by rw [hv], hp.sq, fun x hx => ?_, fun ys q hs hb hn => ?_⟩
  · obtain ⟨a, _, d⟩ := hd.mem hx
    exact (pairK_of d).2
  · have hperm : ys.Perm vs := hb.perm
    have e2 : ys.map (pairK H1) = sortP as := by
      refine sortP_uniq ?_ ?_
      · have := hperm.map (pairK H1)
        rw [dl_pairK hd] at this
        exact this
      · refine List.pairwise_map.mpr (List.Pairwise.imp (fun {a b} hab => ?_) hs)
        have hab' := SrtO.lexB_no.mp hab
        rw [lexLe_iff]
        omega
    have hd2 : Dl (den W H1) ys (sortP as) := by
      rw [← e2]
      exact dl_of_map fun w hw => by
        obtain ⟨a, _, d⟩ := hd.mem (hperm.mem_iff.mp hw)
        exact ⟨a, d⟩
    have e3 := Ext.new (o := .lst ys) e1.ok hn
    exact c q _ ys (sortP as) (fresh_back e1.ok e1 hn) (e1.trans e3) upd_same (hd2.imp fun _ _ d => Rep.mono (W := W.toWc.plus q) (fun b o m z => by rw [upd_ne (ne_of_none z hn)]; exact z) (Rep.grow q hn d)) z
theorem dl_bls {vs : List V} {as : List Bool} (h : Dl (fun v (a : Bool) => v = .bl a) vs as) : vs = as.map V.bl := by
  induction h with
  | nil => rfl
  | cons x _ ih => rw [x, ih]; rfl
theorem ev_any {k : Bool → Prop} (hK : W.B.K = K) (h : EvK W te Γ fun as : List Bool => k (as.any id)) : EvK W (tCB (rAny K) (tCons te tNil)) Γ k := by
  subst hK
  exact fun σ H Q E c => h σ H _ E fun v H1 as e1 ⟨p, vs, hv, hp, hd⟩ z => ⟨p, as, by rw [hv], by rw [← dl_bls hd]; exact hp.sq, c _ H1 _ e1 rfl z⟩
theorem ev_all {k : Bool → Prop} (hK : W.B.K = K) (h : EvK W te Γ fun as : List Bool => k (as.all id)) : EvK W (tCB (rAll K) (tCons te tNil)) Γ k := by
  subst hK
  exact fun σ H Q E c => h σ H _ E fun v H1 as e1 ⟨p, vs, hv, hp, hd⟩ z => ⟨p, as, by rw [hv], by rw [← dl_bls hd]; exact hp.sq, c _ H1 _ e1 rfl z⟩
theorem ev_sum {k : Int → Prop} (hK : W.B.K = K) (h : EvK W te Γ fun as : List Int => k as.sum) : EvK W (tCB (rSum K) (tCons te tNil)) Γ k := by
  subst hK
  exact fun σ H Q E c => h σ H _ E fun v H1 as e1 ⟨p, vs, hv, hp, hd⟩ z => ⟨p, as, by rw [hv], by rw [← Dl.ints hd]; exact hp.sq, c _ H1 _ e1 rfl z⟩
/-- a list as a test -/
theorem et_truthL {α : Type} {rα : Rep α} {k : Bool → Prop} (hK : W.B.K = K) (h : EvK W te Γ fun as : List α => k (!as.isEmpty)) : EvT W (fun σ H Q => te σ H fun x H' => ∃ k, TruV K x H' k ∧ Q k H') Γ k := by
  subst hK
  refine fun σ H Q E c => h σ H _ E fun v H1 as e1 ⟨p, vs, hv, hp, hd⟩ z => ⟨!as.isEmpty, ?_, c H1 _ e1 z⟩
  subst hv
  refine .inl ⟨vs, hp.sq, ?_⟩
  cases hd <;> rfl
theorem ev_cmethZ {α : Type} {rα : Rep α} {k : α → Prop} (c : Cn) (hB : W.B = B) (hC : B.cl c = C) (hx : HX W Γ E x) (h : EvA W ta Γ fun ts => P (fun t => ∃ a : α, t = T a ∧ k a) x (T (Cv.mk c) :: ts)) : EvK W (tCMethZ C (spG B P) E ta) Γ k := by
  subst hB
  subst hC
  exact fun σ H Q G q => h σ H _ G fun vs H1 ts e1 d z => ⟨W, _, _, x, rfl, e1.ok, .cons (t := T (Cv.mk c)) rfl d, z, fun v H2 t e2 dt ⟨a, ea, qq⟩ => by
    subst ea
    exact q v H2 a (e1.trans e2) dt qq, hx σ H1 (G.ext e1)⟩
theorem ev_propZ {α β : Type} {rα : Rep α} {rβ : Rep β} {k : α → Prop} (hB : W.B = B)
    (h : EvK W te Γ fun s : β => OwnG β B C (P (fun t => ∃ a : α, t = T a ∧ k a) (fun _ => False) [T s])) : EvK W (tPropZ C (spG B P) te) Γ k := by
  subst hB
  refine fun σ H Q G c => h σ H _ G fun v H1 s e1 d ⟨cc, fl, iβ, hC, z⟩ => ?_
  subst hC
  obtain ⟨p, dp, fs, hv, _, hH, _⟩ := iβ.at_ d
  refine ⟨p, dp, fs, hv, hH, W, _, _, _, rfl, e1.ok, .cons (t := T s) (by rw [← hv]; exact d) .nil, z, fun v H3 t e3 dt ⟨a, ea, q⟩ => by
    subst ea
    exact c v H3 a (e1.trans e3) dt q, fun n d2 H2 _ _ q => q.elim⟩
theorem ev_makeV {α : Type} {rα : Rep α} {c : Cn} {sp : Sp} {i : Nat} {k : α → Prop} (hB : W.B = B) (hC : B.cl c = C) (hi : Γ[i]? = some (some (T (Cv.mk c)))) (h : EvK W (tMakeZ C sp E ta) Γ k) : EvK W (tMakeV i C sp E ta) Γ k := by
  subst hB
  subst hC
  exact fun σ H Q G q => by
    obtain ⟨v, h1, h2⟩ := G.at_ i _ hi
    exact ⟨v, h1, h2, h σ H Q G q⟩
/-- a star call's items from a list, a tuple -/
theorem el_starL {α : Type} {rα : Rep α} {k : List α → Prop} (hK : W.B.K = K) (h : EvK W te Γ fun as : List α => k as) : EvL W (tStarZ K te) Γ k := by
  subst hK
  exact fun σ H Q E c => h σ H _ E fun v H1 as e1 ⟨p, vs, hv, hp, hd⟩ z => ⟨p, vs, hv, .inr hp.sq, c vs H1 as e1 hd z⟩
theorem el_starT {α : Type} {rα : Rep α} {k : List α → Prop} (hK : W.B.K = K) (h : EvK W te Γ fun as : Tl α => k as.xs) : EvL W (tStarZ K te) Γ k := by
  subst hK
  exact fun σ H Q E c => h σ H _ E fun v H1 as e1 ⟨p, vs, hv, hp, hd⟩ z => ⟨p, vs, hv, .inl hp.sq, c vs H1 as.xs e1 hd z⟩
end
structure Lvs where
  ps : List Stc
  deriving DecidableEq
instance : Rep Lvs :=
  ⟨fun W H v l => ∃ a dx y, v = .ref a ∧ ¬ W.mu a ∧ H a = some (.ins (W.B.cl .Levels) dx [("_pieces", y)]) ∧ den W H y l.ps,
   fun e ⟨a, dx, y, hv, m, h, d⟩ => ⟨a, dx, y, hv, m, e _ _ m h, Rep.mono e d⟩,
   fun D n ⟨a, dx, y, hv, m, h, d⟩ => ⟨a, dx, y, hv, mu_grow n m h, h, Rep.grow D n d⟩,
   fun D ⟨a, dx, y, hv, m, h, d⟩ => ⟨a, dx, y, hv, fun z => m (.inl z), h, Rep.shrink D d⟩⟩
instance : Ins Lvs .Levels ["_pieces"] := ⟨fun ⟨a, dx, y, hv, m, h, _⟩ => ⟨a, dx, _, hv, m, h, rfl⟩⟩
instance : Pln Lvs := ⟨fun ⟨a, dx, y, hv, _⟩ => .inl ⟨a, hv⟩⟩
structure LvsT (B : Bs) : Prop where
  cl : Cls B.K (B.cl .Levels)
  np : NoAttr B.K (B.cl .Levels) "_pieces"
theorem lvs_of {W : Wd} {B : Bs} (h : W.B = B) (s : LvsT B) : LvsT W.B := h ▸ s
section
variable {W : Wd} {Γ : Gam} {ta : TA} {te tb to tl : TE} {tt : TT} {g : TG} {B : Bs} {P : PT} {E : L2.St → XK} {x : Xn → Prop} {C : Addr} {K : PySem.W.Frag}
theorem ev_pieces {k : List Stc → Prop} (hK : W.B.K = K) (hL : LvsT W.B) (h : EvK W te Γ fun s : Lvs => k s.ps) : EvK W (tFld K te "_pieces") Γ k := by
  subst hK
  refine fun σ H Q E c => h σ H _ E fun v H1 s e1 ⟨a, dx, y, hv, m, hH, d⟩ z => ?_
  exact ⟨a, _, dx, _, y, hv, hH, hL.cl, hL.np, by simp [List.lookup], c y H1 _ e1 d z⟩
/-- the fewest pieces: pairs in order are joined -/
def joinStep (acc : List (Int × Int)) (p : Int × Int) : List (Int × Int) := match acc.getLast? with
  | some q => if p.1 ≤ q.2 + 1 then acc.dropLast ++ [(q.1, max q.2 p.2)] else acc ++ [p]
  | none => [p]
def joinF (ps : List (Int × Int)) : List (Int × Int) := ps.foldl joinStep []
def mkStc (p : Int × Int) : Stc := ⟨p.1, p.2⟩
def stcE (s : Stc) : Int × Int := (s.lo, s.hi)
def unionF (ps : List (Int × Int)) : List (Int × Int) := joinF (sortP ps)
def lvF (ss : List Stc) : List Stc := (unionF (ss.map stcE)).map mkStc
/-- __init__ of Levels, its stretches a tuple -/
def spLI (B : Bs) : Sp := fun vs H Q E => ∃ (W : Wd) (p dx q : Addr) (ss : List Stc), vs = [.ref p, .ref q] ∧ H p = some (.ins (B.cl .Levels) dx []) ∧ W.B = B ∧ W.ok H ∧ ¬ W.mu p ∧ den W H (.ref q) (Tl.mk ss) ∧ ss.length ≤ 1000 ∧ (∀ s ∈ ss, s.lo ≤ s.hi) ∧
  ∀ H' y, Ext W H H' → den W H' y (lvF ss) → Q .non (upd H' p (.ins (B.cl .Levels) dx [("_pieces", y)]))
/-- .. as a call sees it -/
def spLS (B : Bs) : Sp := fun vs H Q E => ∃ ws rest, vs = ws ++ rest ∧ ws.length = 1 ∧ rest.length ≤ sizeLine ∧ ∀ p, H p = Option.none → spLI B (ws ++ [V.ref p]) (upd H p (.tup rest)) Q E
theorem ev_levels {k : Lvs → Prop} (hB : W.B = B) (hC : B.cl .Levels = C) (h : EvL W ta Γ fun ss : List Stc => (ss.length ≤ 1000 ∧ ∀ s ∈ ss, s.lo ≤ s.hi) ∧ k ⟨lvF ss⟩) : EvK W (tMakeZ C (spLS B) E ta) Γ k := by
  subst hB
  subst hC
  refine fun σ H Q G c => h σ H _ G fun vs H1 ss e1 d ⟨⟨hl, ho⟩, z⟩ xx dx nx ndx nex => ?_
  have o := e1.ok
  have m1 := fresh_mu o ndx
  have m2 := fresh_mu o nx
  have ok3 : W.ok (upd (upd H1 dx (.own xx)) xx (.ins (W.B.cl .Levels) dx [])) := W.st _ _ _ (W.st _ _ _ o m1) m2
  have e3 : Ext W H1 (upd (upd H1 dx (.own xx)) xx (.ins (W.B.cl .Levels) dx [])) := ⟨fun a u _ q => by rw [upd_ne (ne_of_none q nx), upd_ne (ne_of_none q ndx)]; exact q, ok3⟩
  refine ⟨[V.ref xx], vs, rfl, rfl, Nat.le_trans (by rw [d.length]; omega : vs.length ≤ 1000) (by decide), fun p hp => ?_⟩
  have e4 := Ext.new (o := .tup vs) ok3 hp
  have hpx : xx ≠ p := fun e => by rw [← e, upd_same] at hp; cases hp
  refine ⟨W, xx, dx, p, ss, rfl, by rw [upd_ne hpx, upd_same], rfl, e4.ok, m2, ⟨p, vs, rfl, Tq.new (fresh_mu ok3 hp) upd_same, d.imp fun _ _ y => Rep.mono (e3.trans e4).keep y⟩, hl, ho, fun H' y e5 dy => ⟨rfl, ?_⟩⟩
  have e6 := (e3.trans e4).trans e5
  have nxH' : ∀ a u, H1 a = some u → a ≠ xx := fun a u q => ne_of_none q nx
  have k7 : Kp W.toWc H1 (upd H' xx (.ins (W.B.cl .Levels) dx [("_pieces", y)])) := fun a u m q => by rw [upd_ne (nxH' a u q)]; exact e6.keep a u m q
  have hx' : H' xx = some (.ins (W.B.cl .Levels) dx []) := (e4.trans e5).keep xx _ m2 upd_same
  refine c (.ref xx) _ ⟨lvF ss⟩ (e1.trans ⟨k7, W.st _ _ _ e6.ok m2⟩) ⟨xx, dx, y, rfl, m2, upd_same, ?_⟩ z
  -- the pieces do not lean on the new object itself
  obtain ⟨p2, ws, hv, hq, hw⟩ := dy
  have ne2 : p2 ≠ xx := fun e => by have := hq.2; rw [e, hx'] at this; cases this
  refine ⟨p2, ws, hv, ⟨hq.1, by rw [upd_ne ne2]; exact hq.2⟩, hw.imp fun v s ⟨a, da, hv2, ma, ha⟩ => ⟨a, da, hv2, ma, ?_⟩⟩
  have ne3 : a ≠ xx := fun e => by
    rw [e, hx'] at ha
    injection ha with ha
    injection ha with _ _ ha
    cases ha
  rw [upd_ne ne3]
  exact ha
end
end G
set_option Elab.async false
set_option linter.all false
set_option maxRecDepth 100000
set_option maxHeartbeats 2000000
namespace G
open PySem PySem.Spec PyProof.Rows L2 StX
section
variable {X : Cx} {CX : CXT} {k n : Nat} {f g C p : Addr} {sp : Sp} {E : XK}
def rStrO (C : Addr) (sp : Sp) (E : XK) : List V → Hp → VK → Prop := fun xs H Q => ∃ a dx fs, xs = [.ref a] ∧ H a = some (.ins C dx fs) ∧ sp [.ref a] H (fun v H' => ∃ y, v = .str y ∧ Q (.str y) H') E
def rLenO (C : Addr) (sp : Sp) (E : XK) : List V → Hp → VK → Prop := fun xs H Q => ∃ a dx fs, xs = [.ref a] ∧ H a = some (.ins C dx fs) ∧ sp [.ref a] H (fun v H' => ∃ i : Int, v = .int i ∧ (0 ≤ i ∧ i < 2 ^ 63) ∧ Q (.int i) H') E
end
section
variable {W : Wd} {Γ : Gam} {ta : TA} {te tb to tl : TE} {B : Bs} {P : PT} {E : XK} {x : Xn → Prop} {C C2 : Addr} {K : PySem.W.Frag}
theorem ev_strO {β : Type} {rβ : Rep β} {k : Str → Prop} (hB : W.B = B) (h : EvK W te Γ fun s : β => OwnG β B C (P (fun t => ∃ y : Str, t = T y ∧ k y) (fun _ => False) [T s])) : EvK W (tCB (rStrO C (spG B P) E) (tCons te tNil)) Γ k := by
  subst hB
  refine fun σ H Q G c => h σ H _ G fun v H1 s e1 d ⟨cc, fl, iβ, hC, z⟩ => ?_
  subst hC
  obtain ⟨p, dp, fs, hv, _, hH, _⟩ := iβ.at_ d
  exact ⟨p, dp, fs, by rw [hv], hH, W, _, _, _, rfl, e1.ok, .cons (t := T s) (by rw [← hv]; exact d) .nil, z, fun v H3 t e3 dt ⟨a, ea, q⟩ => by
    subst ea
    exact ⟨a, dt, c _ H3 a (e1.trans e3) rfl q⟩, fun n d2 H2 _ _ q => q.elim⟩
theorem ev_lenO {β : Type} {rβ : Rep β} {k : Int → Prop} (hB : W.B = B) (h : EvK W te Γ fun s : β => OwnG β B C (P (fun t => ∃ y : Int, t = T y ∧ (0 ≤ y ∧ y < 2 ^ 63) ∧ k y) (fun _ => False) [T s])) : EvK W (tCB (rLenO C (spG B P) E) (tCons te tNil)) Γ k := by
  subst hB
  refine fun σ H Q G c => h σ H _ G fun v H1 s e1 d ⟨cc, fl, iβ, hC, z⟩ => ?_
  subst hC
  obtain ⟨p, dp, fs, hv, _, hH, _⟩ := iβ.at_ d
  exact ⟨p, dp, fs, by rw [hv], hH, W, _, _, _, rfl, e1.ok, .cons (t := T s) (by rw [← hv]; exact d) .nil, z, fun v H3 t e3 dt ⟨a, ea, hb, q⟩ => by
    subst ea
    exact ⟨a, dt, hb, c _ H3 a (e1.trans e3) rfl q⟩, fun n d2 H2 _ _ q => q.elim⟩
/-- texts -/
theorem ev_addS {k : Str → Prop} (h : EvK W te Γ fun a : Str => EvK W tb Γ fun b : Str => a.length + b.length ≤ 1000000 ∧ k (a ++ b)) : EvK W (tOp (fun x y H Q => ∃ i j, x = .str i ∧ y = .str j ∧ i.length + j.length ≤ sizeLine ∧ Q (.str (i ++ j)) H) te tb) Γ k :=
  ev_two (h.imp fun a ha => ha.imp fun b ⟨hl, z⟩ x y H Q o dx dy c => ⟨a, b, dx, dy, Nat.le_trans hl (by decide), c _ H _ (Ext.refl o) rfl z⟩)
theorem ev_strI {k : Str → Prop} (h : EvK W te Γ fun i : Int => Small i ∧ k (toString i)) : EvK W (tCB (fun xs H Q => ∃ i, xs = [.int i] ∧ i.natAbs.log2 < 1920 ∧ Q (.str (toString i)) H) (tCons te tNil)) Γ k := fun σ H Q G c =>
  h σ H _ G fun v H1 i e1 d ⟨s, z⟩ => ⟨i, congrArg (fun x => [x]) d, s, c _ H1 _ e1 rfl z⟩
instance : HasTy Lvs fun B => .ref (B.cl .Levels) := ⟨fun ⟨a, dx, y, hv, m, h, _⟩ => by subst hv; exact .ins h⟩
end
theorem strOk_of (s : String) : PyData.strOk (Str.ofString s) = true := by
  rw [Str.ofString_eq_toList]
  unfold PyData.strOk
  rw [Array.all_eq_true']
  intro x hx
  simp only [List.mem_toArray, List.mem_map] at hx
  obtain ⟨c, _, rfl⟩ := hx
  have := c.valid
  rcases this with h | ⟨_, h⟩
  · exact decide_eq_true (Nat.lt_trans h (by decide))
  · exact decide_eq_true h
theorem str_app_cps (a b : Str) : (a ++ b).cps = a.cps ++ b.cps := rfl
theorem strOk_app {a b : Str} (h1 : PyData.strOk a = true) (h2 : PyData.strOk b = true) : PyData.strOk (a ++ b) = true := by
  unfold PyData.strOk at *
  rw [str_app_cps, Array.all_append, h1, h2]; rfl
theorem strOk_emp : PyData.strOk Str.empty = true := by simp [PyData.strOk, Str.empty]
theorem emp_len : Str.empty.length = 0 := rfl
section
variable {W : Wd} {Γ : Gam} {ta : TA} {te tb to tl : TE} {K : PySem.W.Frag}
theorem ev_sortedP {k : List (Int × Int) → Prop} (hK : W.B.K = K) (h : EvK W te Γ fun as : List (Int × Int) => k (sortP as)) : EvK W (tCB (rSortedPO K) (tCons te tNil)) Γ k := (evF_sortedP hK h).k
end
theorem ixN_last {n : Nat} (h : 0 < n) : ixN n (-1) = some (n - 1) := by
  unfold ixN
  rw [if_neg (by omega), if_pos (by omega)]
  congr 1
  omega
theorem atI_last1 {α : Type} {xs : List α} {q : α} (h : xs.getLast? = some q) : atI xs (-1) = some q := by
  have hl : 0 < xs.length := by
    cases xs with
    | nil => cases h
    | cons x r => exact Nat.succ_pos _
  unfold atI
  rw [ixN_last hl, Option.bind_some, ← h, List.getLast?_eq_getElem?]
/-- a chain whose last part is plain -/
def ChG (W : Wd) (te : TE) (Γ : Gam) (k : Int → Prop) : Prop := ∃ l : Int, EvK W te Γ (fun a => a = l) ∧ k l
theorem chg_in {W : Wd} {te : TE} {Γ : Gam} {k : Int → Prop} {l : Int} (h1 : EvK W te Γ fun a => a = l) (h : k l) : ChG W te Γ k := ⟨l, h1, h⟩
theorem ev_chainP {W : Wd} {ta tb tc : TE} {Γ : Gam} {f g : Int → Int → Bool} {k : Bool → Prop} (h : EvK W ta Γ fun i : Int => EvK W tb Γ fun j : Int => ChG W tc Γ fun l => k (f i j && g j l)) :
    EvK W (tChain (rI0 fun i j => .bl (f i j)) (rI0 fun i j => .bl (g i j)) ta tb tc) Γ k :=
  ev_chain (h.imp fun i hi => hi.imp fun j ⟨l, h1, h2⟩ => ⟨fun e => h1.imp fun a ea => by rw [ea]; rw [e, Bool.true_and] at h2; exact h2, fun e => by rw [e, Bool.false_and] at h2; exact h2⟩)
section
variable {α : Type} {r : Rep α} {W : Wd} {Γ : Gam} {ta : TA} {te tb to : TE} {tt : TT} {ts : TS} {k : α → Prop} {kb : Bool → Prop} {kt : List Ty → Prop} {kl : List α → Prop} {R : Po} {K : PySem.W.Frag}
theorem gd_s (h : Sx W ts Γ R) : Sx W ts Γ R := h
theorem gd_set {i : Nat} {v : Option Ty} (h : Sx W ts (Γ.set i v) R) : Sx W ts (Γ.set i v) R := h
theorem gd_k (h : EvK W te Γ k) : EvK W te Γ k := h
theorem gd_var {i : Nat} (h : EvK W (tVar i) Γ k) : EvK W (tVar i) Γ k := h
theorem gd_c {v : V} (h : EvK W (tC v) Γ k) : EvK W (tC v) Γ k := h
theorem gd_op {q : R2} (h : EvK W (tOp q te tb) Γ k) : EvK W (tOp q te tb) Γ k := h
theorem gd_un {q : V → Hp → VK → Prop} (h : EvK W (tUn q te) Γ k) : EvK W (tUn q te) Γ k := h
theorem gd_cb {q : List V → Hp → VK → Prop} (h : EvK W (tCB q ta) Γ k) : EvK W (tCB q ta) Γ k := h
theorem gd_fld {f : Str} (h : EvK W (tFld K te f) Γ k) : EvK W (tFld K te f) Γ k := h
theorem gd_call {sp : Sp} {E : XK} (h : EvK W (tCallR sp E ta) Γ k) : EvK W (tCallR sp E ta) Γ k := h
theorem gd_tup (h : EvK W (tTup ta) Γ k) : EvK W (tTup ta) Γ k := h
theorem gd_lst (h : EvK W (tLst ta) Γ k) : EvK W (tLst ta) Γ k := h
theorem gd_t (h : EvT W tt Γ kb) : EvT W tt Γ kb := h
theorem gd_a (h : EvA W ta Γ kt) : EvA W ta Γ kt := h
theorem gd_l (h : EvL W ta Γ kl) : EvL W ta Γ kl := h
theorem gd_j {tj : List TE} {acc : Str} {ks : Str → Prop} (h : EvJ W tj Γ acc ks) : EvJ W tj Γ acc ks := h
end
end G
set_option Elab.async false
set_option linter.all false
namespace G
open PySem
def inP' (x : Int) (p : Int × Int) : Prop := p.1 ≤ x ∧ x ≤ p.2
def memP (x : Int) (ps : List (Int × Int)) : Prop := ∃ p ∈ ps, inP' x p
/-- ascending pieces with gaps between -/
def NF (ps : List (Int × Int)) : Prop := (∀ q ∈ ps, q.1 ≤ q.2) ∧ ps.Pairwise fun a b => a.2 + 1 < b.1
end G
set_option Elab.async false
set_option linter.all false
set_option maxRecDepth 100000
set_option maxHeartbeats 2000000
namespace G
open PySem PySem.Spec PyProof.Rows L2 StX
end G
namespace G
open PySem PySem.Spec PyProof.Rows L2 StX
section
variable {X : Cx}
/-- an iterator's own objects, seen from within the block -/
theorem blk_fp {s0 : Shared} {H0 : Hp} {sc : Scope} {ce : Env} {fp : List Addr} {σ : L2.St} {H : Hp} {s : Shared} (I : L2.Inv (X.blk s0 H0 sc ce fp) [] σ H s) (hn : ∀ b ∈ fp, H b = none) : ∀ b ∈ fp, FpOk (X.blk s0 H0 sc ce fp) [] H b := by
  intro b hb
  obtain ⟨h1, h2⟩ := I.ok.exf b hb
  exact ⟨hn b hb, h1, I.ok.exfs b hb, Or.inl hb, fun y c => h2 y c, fun p hp => by cases (show p ∈ ([] : List (Addr × Obj)) ++ [] from hp)⟩
end
end G
set_option Elab.async false
set_option linter.all false
set_option maxRecDepth 100000
set_option maxHeartbeats 2000000
namespace G
open PySem PySem.Spec PyProof.Rows L2 StX
theorem turns {J : It} {n : Nat} {B : V → Hp → (Hp → Prop) → Prop} {Zf : Hp → Prop} {H0 : Hp} (P : Nat → Hp → Prop) (h0 : P 0 H0) (hgo : ∀ i H, i < n → P i H → J.go i H) (hst : ∀ H, P n H → J.stop n H)
    (hs : ∀ i H x H', i < n → P i H → J.yld i H x H' → B x H' (P (i + 1))) (hd : ∀ H, P n H → Zf H) :
    ∃ W : Nat → Nat → Hp → Prop, (∃ m, W 0 m H0) ∧ ∀ i m H, W i m H → (J.stop i H ∧ Zf H) ∨ (J.go i H ∧ ∃ Z : Hp → Prop, (∀ H', Z H' → ∃ m', m' < m ∧ W (i + 1) m' H') ∧ ∀ x H', J.yld i H x H' → B x H' Z) := by
  refine ⟨fun i m H => m + i = n ∧ P i H, ⟨n, rfl, h0⟩, fun i m H ⟨e, p⟩ => ?_⟩
  rcases Nat.eq_zero_or_pos m with hm | hm
  · have hi : i = n := by omega
    subst hi
    exact .inl ⟨hst H p, hd H p⟩
  · exact .inr ⟨hgo i H (by omega) p, P (i + 1), fun H' p' => ⟨m - 1, by omega, by omega, p'⟩, fun x H' y => hs i H x H' (by omega) p y⟩
structure IS where
  w : World
  S : Int → Bool
  n : Nat
instance : Rep IS := ⟨fun W H v s => ∃ a, v = .ref a ∧ ¬ W.mu a ∧ H a = some (SetO s.w a s.S s.n), fun e ⟨a, hv, m, h⟩ => ⟨a, hv, m, e _ _ m h⟩, fun D n ⟨a, hv, m, h⟩ => ⟨a, hv, mu_grow n m h, h⟩, fun D ⟨a, hv, m, h⟩ => ⟨a, hv, fun z => m (.inl z), h⟩⟩
/-- the world where a new object at D is kept apart -/
def Wd.plusO (W : Wd) (D : Addr) (o : HO) (H1 : Hp) (n : H1 D = none) (o1 : W.ok H1) (w1 : W.wish H1) : Wd where
  toWc := W.toWc.plus D
  ok := fun H => W.ok H ∧ H D = some o
  live := fun H a ⟨h, e⟩ m => m.elim (W.live H a h) fun m => ⟨o, by rw [m]; exact e⟩
  st := fun H p u ⟨h, e⟩ m => ⟨W.st H p u h fun z => m (.inl z), by rw [upd_ne (fun z => m (.inr z.symm))]; exact e⟩
  wish := fun H => Kp W.toWc H1 H
  wst := fun H H' k _ w a u m e => k a u (fun z => z.elim m fun z => by rw [z, n] at e; cases e) (w a u m e)
  hasbox := fun H b h hb => W.hasbox H b h.1 hb
  boxset := fun H b c i p s i' p' s' h hb q h1 h2 => ⟨W.boxset H b c i p s i' p' s' h.1 hb q h1 h2, by
    have z : D ≠ b := fun z => fresh_mu o1 n (z ▸ W.boxmu b hb)
    rw [upd_ne z]; exact h.2⟩
  boxmu := fun b hb => .inl (W.boxmu b hb)
  oke := fun H H' h k => ⟨W.oke H H' h.1 k, k _ _ h.2⟩
theorem Sub.plusO {W : Wd} {D : Addr} {o : HO} {H1 : Hp} {n : H1 D = none} {o1 : W.ok H1} {w1 : W.wish H1} : Sub W (W.plusO D o H1 n o1 w1) :=
  ⟨rfl, fun _ h => h.1, fun H h w => W.wst H1 H w h.1 w1⟩
section
variable {W : Wd} {Γ : Gam} {ta : TA} {te tb to tl ti : TE} {tt : TT} {g g2 : TG} {K : PySem.W.Frag}
theorem js_in {js vs : List Nat} (h : (js.all fun j => vs.contains j) = true) : ∀ j ∈ js, j ∈ vs := fun j hj => by
  have := List.all_eq_true.mp h j hj
  simpa using this
end
end G
set_option Elab.async false
set_option linter.all false
set_option maxRecDepth 100000
set_option maxHeartbeats 2000000
namespace G
open PySem PySem.Spec PyProof.Rows L2 StX
section
variable {W : Wd} {Γ : Gam} {ta tb : TE} {te to tl ti : TE} {tt : TT} {g g2 : TG} {K : PySem.W.Frag}
/-- a turn whose item came just now -/
theorem lc_turnN {α β : Type} {rα : Rep α} {rβ : Rep β} {vs : List Nat} {D : Addr} {H1 : Hp} {n : H1 D = none} {o1 : W.ok H1} {w1 : W.wish H1} {σ : L2.St} {H' : Hp} {x : V} {a : α} {acc : List V} {bs : List β} {I : List β → Prop} {P : Hp → Prop}
    (t : LcTurn (W.plus D acc H1 n o1 w1) g tt te vs Γ a (I bs) fun y : β => I (bs ++ [y])) (G : GOk W H1 σ Γ) (e : Ext W H1 H') (hD : H' D = some (.lst acc)) (hb : Dl (den (W.toWc.plus D) H') acc bs) (da : den (W.toWc.plus D) H' x a) (hz : acc.length < 100000)
    (fin : ∀ H2 acc2 bs2, Ext W H1 H2 → H2 D = some (.lst acc2) → Dl (den (W.toWc.plus D) H2) acc2 bs2 → acc2.length ≤ acc.length + 1 → I bs2 → P H2) :
    g x (wipe σ vs) H' fun σ2 H2 => wipe σ2 vs = wipe σ vs ∧ tt σ2 H2 fun b H3 => if b = true then te σ2 H3 fun y H4 => ∃ acc, H4 D = some (.lst acc) ∧ acc.length < sizeLine ∧ P (upd H4 D (.lst (acc ++ [y]))) else P H3 := by
  obtain ⟨js, hjs, tj⟩ := t
  have nm : ¬ W.mu D := fresh_mu o1 n
  have kp : Kp (W.toWc.plus D) H1 H' := fun b o m z => e.keep b o (fun z => m (.inl z)) z
  have G2 : GOk (W.plus D acc H1 n o1 w1) H' σ Γ := ⟨⟨e.ok, hD⟩, fun b o m z => e.keep b o m z, fun i t h => by
    obtain ⟨v, h1, h2⟩ := G.at_ i t h
    exact ⟨v, h1, Ty.mono kp (t.r.grow D n h2)⟩, G.len⟩
  have un : ∀ {H2 : Hp}, Ext (W.plus D acc H1 n o1 w1) H' H2 → Ext W H1 H2 := fun e2 => ⟨fun b o m z => by
    have hne : b ≠ D := fun q => by rw [q, n] at z; cases z
    exact e2.keep b o (fun q => q.elim m hne) (e.keep b o m z), e2.ok.1⟩
  refine tj (wipe σ vs) H' x _ (G2.wipe vs) da fun σ2 Γ2 G3 m2 q2 => ⟨wipe_same m2 (js_in hjs), ?_⟩
  refine q2 σ2 H' _ G3 fun H3 b e3 ⟨hy, hn⟩ => ?_
  have hb3 := hb.imp fun _ _ d => Rep.mono (W := W.toWc.plus D) e3.keep d
  cases b with
  | false =>
    show P H3
    exact fin H3 acc bs (un e3) e3.ok.2 hb3 (Nat.le_succ _) (hn rfl)
  | true =>
    show te σ2 H3 _
    refine hy rfl σ2 H3 _ (G3.ext e3) fun y H4 b4 e4 d4 q4 => ⟨acc, e4.ok.2, Nat.lt_of_lt_of_le hz (by decide), ?_⟩
    have e5 := un (e3.trans e4)
    have k5 : Kp (W.toWc.plus D) H4 (upd H4 D (.lst (acc ++ [y]))) := kp_upd
    refine fin _ (acc ++ [y]) (bs ++ [b4]) ⟨fun b o m z => ?_, W.st _ _ _ e5.ok nm⟩ upd_same (Dl.append (hb3.imp fun _ _ d => Rep.mono k5 (Rep.mono (W := W.toWc.plus D) e4.keep d)) (.cons (Rep.mono k5 d4) .nil)) (by rw [List.length_append]; exact Nat.le_refl _) q4
    have hne : b ≠ D := fun q => by rw [q, n] at z; cases z
    rw [upd_ne hne]
    exact e5.keep b o m z
end
end G
set_option Elab.async false
set_option linter.all false
namespace G
open PySem
def inS (x : Int) (s : Stc) : Bool := decide (s.lo ≤ x) && decide (x ≤ s.hi)
/-- how many of the stretches have the level -/
def depS (ss : List Stc) (x : Int) : Int := ((ss.filter (inS x)).length : Int)
theorem inS_iff {x : Int} {s : Stc} : inS x s = true ↔ s.lo ≤ x ∧ x ≤ s.hi := by
  unfold inS
  rw [Bool.and_eq_true, decide_eq_true_iff, decide_eq_true_iff]
/-- what the shared levels are -/
def ShOk (ss : List Stc) (need : Int) (L : List (Int × Int)) : Prop := NF L ∧ ∀ x, memP x L ↔ need ≤ depS ss x
end G
set_option Elab.async false
set_option linter.all false
set_option maxRecDepth 100000
set_option maxHeartbeats 2000000
namespace G
open PySem PySem.Spec PyProof.Rows L2 StX
instance {α : Type} [Rep α] : PyTy (List α) "list" := ⟨fun ⟨p, vs, hv, s, _⟩ => by subst hv; exact .base (.lst s.2)⟩
instance {α β : Type} [Rep α] [Rep β] : PyTy (α × β) "tuple" := ⟨fun ⟨p, x, y, hv, s, _⟩ => by subst hv; exact .base (.tup s.2)⟩
section
variable {W : Wd} {Γ : Gam} {ta tb te : TE} {t : TS} {g : TG} {K : PySem.W.Frag}
/-- x in a list of ints -/
theorem inV_ints (x : Int) (as : List Int) : inV (V.int x) (as.map V.int) = decide (x ∈ as) := by
  have h : inV (V.int x) (as.map V.int) = as.any fun a => a == x := by
    unfold inV
    rw [List.any_map]
    rfl
  rw [h, Bool.eq_iff_iff, List.any_eq_true, decide_eq_true_iff]
  exact ⟨fun ⟨a, ha, e⟩ => by rw [← eq_of_beq e]; exact ha, fun hx => ⟨x, hx, beq_self_eq_true x⟩⟩
theorem flat_ints (as : List Int) : (as.map V.int).all flatV = true := by
  rw [List.all_eq_true]
  intro v hv
  obtain ⟨a, _, rfl⟩ := List.mem_map.mp hv
  rfl
theorem ev_inI {k : Bool → Prop} (hK : W.B.K = K) (h : EvK W ta Γ fun x : Int => EvK W tb Γ fun as : List Int => k (decide (x ∈ as))) : EvK W (tOp (rIn K false) ta tb) Γ k := by
  subst hK
  refine ev_two (h.imp fun x hx => hx.imp fun as z v u H Q o dx ⟨p, vs, hu, hp, hd⟩ c => ?_)
  have dx' : v = V.int x := dx
  subst dx' hu
  have e := Dl.ints hd
  refine ⟨p, vs, rfl, .inl hp.sq, rfl, by rw [e]; exact flat_ints as, c _ H _ (Ext.refl o) ?_ z⟩
  show V.bl (inV (V.int x) vs) = _
  rw [e, inV_ints]
theorem ev_notInI {k : Bool → Prop} (hK : W.B.K = K) (h : EvK W ta Γ fun x : Int => EvK W tb Γ fun as : List Int => k (!decide (x ∈ as))) : EvK W (tOp (rIn K true) ta tb) Γ k := by
  subst hK
  refine ev_two (h.imp fun x hx => hx.imp fun as z v u H Q o dx ⟨p, vs, hu, hp, hd⟩ c => ?_)
  have dx' : v = V.int x := dx
  subst dx' hu
  have e := Dl.ints hd
  refine ⟨p, vs, rfl, .inl hp.sq, rfl, by rw [e]; exact flat_ints as, c _ H _ (Ext.refl o) ?_ z⟩
  show V.bl (!inV (V.int x) vs) = _
  rw [e, inV_ints]
end
end G
set_option Elab.async false
set_option linter.all false
set_option maxRecDepth 100000
set_option maxHeartbeats 2000000
namespace G
open PySem PySem.Spec PyProof.Rows L2 StX
section
variable {W : Wd} {Γ : Gam} {ta tb te : TE} {K : PySem.W.Frag}
/-- the third item of three -/
theorem ev_ixT3c {α β γ : Type} {rα : Rep α} {rβ : Rep β} {rγ : Rep γ} {k : γ → Prop} (hK : W.B.K = K) (h : EvK W ta Γ fun p : T3 α β γ => k p.c) : EvK W (tOp (rIxT K) ta (tC (.int 2))) Γ k := by
  subst hK
  refine fun σ H Q E c => h σ H _ E fun v H1 a e1 ⟨p, x, y, z, hv, s, d1, d2, d3⟩ q => ?_
  exact ⟨p, _, 2, z, hv, rfl, s.sq, rfl, c _ H1 _ e1 d3 q⟩
end
/-- m is the greatest depth -/
def MaxD (ss : List Stc) (m : Int) : Prop := 1 ≤ m ∧ (∃ x, depS ss x = m) ∧ ∀ x, depS ss x ≤ m
theorem MaxD.uniq {ss : List Stc} {m n : Int} (h : MaxD ss m) (g : MaxD ss n) : m = n := by
  obtain ⟨x, hx⟩ := h.2.1
  obtain ⟨y, hy⟩ := g.2.1
  have := h.2.2 y
  have := g.2.2 x
  omega
end G
set_option Elab.async false
set_option linter.all false
set_option maxRecDepth 100000
set_option maxHeartbeats 2000000
namespace G
open PySem PySem.Spec PyProof.Rows L2 StX
end G
set_option Elab.async false
set_option linter.all false
set_option maxRecDepth 100000
set_option maxHeartbeats 2000000
namespace G
open PySem PySem.Spec PyProof.Rows L2 StX
/-- a world where nothing changes, of any heap -/
def Wd.free (B : Bs) : Wd where
  B := B
  mu := fun _ => False
  box := fun _ => False
  ok := fun _ => True
  live := fun _ _ _ h => h.elim
  st := fun _ _ _ _ _ => trivial
  wish := fun _ => True
  wst := fun _ _ _ _ _ => trivial
  hasbox := fun _ _ _ h => h.elim
  boxset := fun _ _ _ _ _ _ _ _ _ _ h => h.elim
  boxmu := fun _ h => h.elim
  oke := fun _ _ _ _ => trivial
end G
set_option Elab.async false
set_option linter.all false
set_option maxRecDepth 100000
set_option maxHeartbeats 2000000
namespace G
open PySem PySem.Spec PyProof.Rows L2 StX
instance : HasTy Lvs fun B => .ref (B.cl .Levels) := ⟨fun ⟨a, dx, y, hv, m, h, _⟩ => by subst hv; exact .ins h⟩
end G
namespace G
open PySem
end G
namespace G
end G
set_option Elab.async false
set_option linter.all false
set_option maxRecDepth 100000
set_option maxHeartbeats 2000000
namespace G
open PySem PySem.Spec PyProof.Rows L2 StX
end G
set_option Elab.async false
set_option linter.all false
set_option maxRecDepth 100000
set_option maxHeartbeats 2000000
namespace G
open PySem PySem.Spec PyProof.Rows L2 StX
end G
namespace G
open PySem PySem.Spec PyProof.Rows L2 StX
end G
set_option Elab.async false
set_option linter.all false
set_option maxRecDepth 100000
set_option maxHeartbeats 2000000
namespace G
open PySem PySem.Spec PyProof.Rows L2 StX
def RngO (a : Addr) (lo hi : Int) : HO := .ext fun h => ∃ t u v, IsRange h a lo hi 1 t u v
structure Rg where
  lo : Int
  hi : Int
instance : Rep Rg := ⟨fun W H v r => ∃ a, v = .ref a ∧ ¬ W.mu a ∧ H a = some (RngO a r.lo r.hi), fun e ⟨a, hv, m, h⟩ => ⟨a, hv, m, e _ _ m h⟩, fun D n ⟨a, hv, m, h⟩ => ⟨a, hv, mu_grow n m h, h⟩, fun D ⟨a, hv, m, h⟩ => ⟨a, hv, fun z => m (.inl z), h⟩⟩
end G
set_option Elab.async false
set_option linter.all false
set_option maxRecDepth 100000
set_option maxHeartbeats 2000000
namespace G
open PySem PySem.Spec PyProof.Rows L2 StX
end G
set_option Elab.async false
set_option linter.all false
set_option maxRecDepth 100000
set_option maxHeartbeats 2000000
namespace G
open PySem PySem.Spec PyProof.Rows L2 StX
abbrev Cls := Value × Nat × (Addr → Value → Option Addr → TS)
end G
namespace G
open PySem PySem.Spec PyProof.Rows L2 StX
end G
namespace G
open PySem PySem.Spec PyProof.Rows L2 StX
end G
set_option Elab.async false
set_option linter.all false
set_option maxRecDepth 100000
set_option maxHeartbeats 2000000
namespace G
open PySem PySem.Spec PyProof.Rows L2 StX
structure Li2 (α β : Type) where
  a : α
  b : β
  deriving DecidableEq
structure Li3 (α β γ : Type) where
  a : α
  b : β
  c : γ
  deriving DecidableEq
instance {α β : Type} [Rep α] [Rep β] : Rep (Li2 α β) :=
  ⟨fun W H v t => ∃ p x y, v = .ref p ∧ Lq W H p [x, y] ∧ den W H x t.a ∧ den W H y t.b,
   fun e ⟨p, x, y, hv, s, h1, h2⟩ => ⟨p, x, y, hv, s.mono e, Rep.mono e h1, Rep.mono e h2⟩,
   fun D n ⟨p, x, y, hv, s, h1, h2⟩ => ⟨p, x, y, hv, s.grow D n, Rep.grow D n h1, Rep.grow D n h2⟩,
   fun D ⟨p, x, y, hv, s, h1, h2⟩ => ⟨p, x, y, hv, s.shrink D, Rep.shrink D h1, Rep.shrink D h2⟩⟩
instance {α β γ : Type} [Rep α] [Rep β] [Rep γ] : Rep (Li3 α β γ) :=
  ⟨fun W H v t => ∃ p x y z, v = .ref p ∧ Lq W H p [x, y, z] ∧ den W H x t.a ∧ den W H y t.b ∧ den W H z t.c,
   fun e ⟨p, x, y, z, hv, s, h1, h2, h3⟩ => ⟨p, x, y, z, hv, s.mono e, Rep.mono e h1, Rep.mono e h2, Rep.mono e h3⟩,
   fun D n ⟨p, x, y, z, hv, s, h1, h2, h3⟩ => ⟨p, x, y, z, hv, s.grow D n, Rep.grow D n h1, Rep.grow D n h2, Rep.grow D n h3⟩,
   fun D ⟨p, x, y, z, hv, s, h1, h2, h3⟩ => ⟨p, x, y, z, hv, s.shrink D, Rep.shrink D h1, Rep.shrink D h2, Rep.shrink D h3⟩⟩
theorem eqvL2 (a b c d : PyData) : PyData.eqv (.list [a, b]) (.list [c, d]) = (PyData.eqv a c && PyData.eqv b d) := by
  show (PyData.eqv a c && (PyData.eqv b d && true)) = _
  rw [Bool.and_true]
theorem eqvL3 (a b c d e f : PyData) : PyData.eqv (.list [a, b, e]) (.list [c, d, f]) = (PyData.eqv a c && (PyData.eqv b d && PyData.eqv e f)) := by
  show (PyData.eqv a c && (PyData.eqv b d && (PyData.eqv e f && true))) = _
  rw [Bool.and_true]
instance {α β : Type} [Rep α] [Rep β] [Dat α] [Dat β] : Dat (Li2 α β) where
  toD := fun x => .list [Dat.toD x.a, Dat.toD x.b]
  dp := fun ⟨p, x, y, hv, s, h1, h2⟩ => by
    subst hv
    exact .lst s.sq (.cons (Dat.dp h1) (.cons (Dat.dp h2) .nil))
  dep := max (Dat.dep α) (Dat.dep β) + 1
  ddep := fun x => by
    have h1 := Dat.ddep x.a
    have h2 := Dat.ddep x.b
    show max (Dat.toD x.a).depth (max (Dat.toD x.b).depth 0) + 1 ≤ _
    omega
  inj := fun x y => by
    rw [eqvL2, Bool.and_eq_true, Dat.inj, Dat.inj]
    cases x; cases y
    exact ⟨fun h => by obtain ⟨h1, h2⟩ := h; cases h1; cases h2; rfl, fun h => by cases h; exact ⟨rfl, rfl⟩⟩
  good := fun x => Dat.good x.a ∧ Dat.good x.b
  gshp := fun x h => by
    have h1 := Dat.gshp _ h.1
    have h2 := Dat.gshp _ h.2
    show ((Dat.toD x.a).canLay0 && ((Dat.toD x.b).canLay0 && true)) = true
    rw [h1, h2]
    rfl
instance {α β γ : Type} [Rep α] [Rep β] [Rep γ] [Dat α] [Dat β] [Dat γ] : Dat (Li3 α β γ) where
  toD := fun x => .list [Dat.toD x.a, Dat.toD x.b, Dat.toD x.c]
  dp := fun ⟨p, x, y, z, hv, s, h1, h2, h3⟩ => by
    subst hv
    exact .lst s.sq (.cons (Dat.dp h1) (.cons (Dat.dp h2) (.cons (Dat.dp h3) .nil)))
  dep := max (Dat.dep α) (max (Dat.dep β) (Dat.dep γ)) + 1
  ddep := fun x => by
    have h1 := Dat.ddep x.a
    have h2 := Dat.ddep x.b
    have h3 := Dat.ddep x.c
    show max (Dat.toD x.a).depth (max (Dat.toD x.b).depth (max (Dat.toD x.c).depth 0)) + 1 ≤ _
    omega
  inj := fun x y => by
    rw [eqvL3, Bool.and_eq_true, Bool.and_eq_true, Dat.inj, Dat.inj, Dat.inj]
    cases x; cases y
    exact ⟨fun h => by obtain ⟨h1, h2, h3⟩ := h; cases h1; cases h2; cases h3; rfl, fun h => by cases h; exact ⟨rfl, rfl, rfl⟩⟩
  good := fun x => Dat.good x.a ∧ Dat.good x.b ∧ Dat.good x.c
  gshp := fun x h => by
    have h1 := Dat.gshp _ h.1
    have h2 := Dat.gshp _ h.2.1
    have h3 := Dat.gshp _ h.2.2
    show ((Dat.toD x.a).canLay0 && ((Dat.toD x.b).canLay0 && ((Dat.toD x.c).canLay0 && true))) = true
    rw [h1, h2, h3]
    rfl
theorem EvT.imp {W : Wd} {Γ : Gam} {tt : TT} {k k' : Bool → Prop} (h : EvT W tt Γ k) (i : ∀ b, k b → k' b) : EvT W tt Γ k' := fun σ H Q E q => h σ H Q E fun H' b e z => q H' b e (i b z)
end G
set_option Elab.async false
set_option linter.all false
set_option maxRecDepth 100000
set_option maxHeartbeats 2000000
namespace G
open PySem PySem.Spec PyProof.Rows L2 StX
def rBoolO (C : Addr) (sp : Sp) (E : XK) : List V → Hp → VK → Prop := fun xs H Q => ∃ a dx fs, xs = [.ref a] ∧ H a = some (.ins C dx fs) ∧ sp [.ref a] H (fun v H' => ∃ b, v = .bl b ∧ Q (.bl b) H') E
def rIxO (C : Addr) (sp : Sp) (E : XK) : R2 := fun x y H Q => ∃ a dx fs, x = .ref a ∧ H a = some (.ins C dx fs) ∧ sp [x, y] H Q E
end G
namespace G
open PySem PySem.Spec PyProof.Rows L2 StX
section
variable {W : Wd} {Γ : Gam} {ta : TA} {te tb to tl : TE} {B : Bs} {P : PT} {E : XK} {x : Xn → Prop} {C C2 : Addr} {K : PySem.W.Frag}
theorem ev_boolO {β : Type} {rβ : Rep β} {k : Bool → Prop} (hB : W.B = B) (h : EvK W te Γ fun s : β => OwnG β B C (P (fun t => ∃ y : Bool, t = T y ∧ k y) (fun _ => False) [T s])) : EvK W (tCB (rBoolO C (spG B P) E) (tCons te tNil)) Γ k := by
  subst hB
  refine fun σ H Q G c => h σ H _ G fun v H1 s e1 d ⟨cc, fl, iβ, hC, z⟩ => ?_
  subst hC
  obtain ⟨p, dp, fs, hv, _, hH, _⟩ := iβ.at_ d
  exact ⟨p, dp, fs, by rw [hv], hH, W, _, _, _, rfl, e1.ok, .cons (t := T s) (by rw [← hv]; exact d) .nil, z, fun v H3 t e3 dt ⟨a, ea, q⟩ => by
    subst ea
    exact ⟨a, dt, c _ H3 a (e1.trans e3) rfl q⟩, fun n d2 H2 _ _ q => q.elim⟩
theorem ev_ixO {α β γ : Type} {rα : Rep α} {rβ : Rep β} {rγ : Rep γ} {k : α → Prop} (hB : W.B = B) (h : EvK W te Γ fun s : β => EvK W tb Γ fun y : γ => OwnG β B C (P (fun t => ∃ a : α, t = T a ∧ k a) (fun _ => False) [T s, T y])) : EvK W (tOp (rIxO C (spG B P) E) te tb) Γ k := by
  subst hB
  refine ev_two (h.imp fun s hs => hs.imp fun y ⟨c, fl, iβ, hC, hp⟩ x z H Q o dx dz q => ?_)
  subst hC
  obtain ⟨p, dp, fs, hv, _, hH, _⟩ := iβ.at_ dx
  exact ⟨p, dp, fs, hv, hH, W, _, _, _, rfl, o, .cons (t := T s) dx (.cons (t := T y) dz .nil), hp, fun v H2 t e2 dt ⟨b, eb, kb⟩ => by
    subst eb
    exact q v H2 b e2 dt kb, fun n d2 H2 _ _ z => z.elim⟩
theorem Dl.reverse {α : Type} {f : V → α → Prop} {vs : List V} {as : List α} (h : Dl f vs as) : Dl f vs.reverse as.reverse := by
  induction h with
  | nil => exact .nil
  | cons x _ ih =>
    rw [List.reverse_cons, List.reverse_cons]
    exact ih.append (.cons x .nil)
theorem ev_revL {α : Type} {rα : Rep α} {k : List α → Prop} (hK : W.B.K = K) (h : EvK W te Γ fun as : List α => k as.reverse) : EvK W (tRevL K te) Γ k := by
  subst hK
  refine fun σ H Q G c => h σ H _ G fun v H1 as e1 ⟨p, vs, hv, hp, hd⟩ z => ?_
  refine ⟨p, vs, hv, hp.sq, fun q hq => ?_⟩
  have e2 := Ext.new (o := .lst vs.reverse) e1.ok hq
  exact c (.ref q) _ _ (e1.trans e2) ⟨q, _, rfl, Lq.new (fresh_mu e1.ok hq) upd_same, hd.reverse.imp fun _ _ d => Rep.mono e2.keep d⟩ z
theorem Dl.strs {vs : List V} {as : List Str} (h : Dl (fun v (a : Str) => v = .str a) vs as) : vs = as.map V.str := by
  induction h with
  | nil => rfl
  | cons x _ ih => rw [x, ih]; rfl
end
abbrev PF (β : Type) := (List β → Prop) → List Ty → Prop
/-- the answer is a list that was not there before the call -/
def spFr {β : Type} [Rep β] (B : Bs) (P : PF β) : Sp := fun vs H Q _ => ∃ (W : Wd) (ts : List Ty) (k : List β → Prop), W.B = B ∧ W.ok H ∧ W.wish H ∧ DT W H vs ts ∧ P k ts ∧
  ∀ p H' ws (bs : List β), H p = none → Ext W H H' → H' p = some (.lst ws) → Dl (den (W.toWc.plus p) H') ws bs → k bs → Q (.ref p) H'
section
variable {W : Wd} {Γ : Gam} {ta : TA} {te tb to tl : TE} {B : Bs} {β : Type} {rβ : Rep β} {P : PF β} {E : L2.St → XK} {C : Addr}
theorem evF_methFr {α : Type} {rα : Rep α} {m : Str} {k : List β → Prop} (hB : W.B = B) (h : EvK W to Γ fun s : α => OwnM α B C m (EvA W ta Γ fun ts => P k (T s :: ts))) : EvF W (tMethZ C m (spFr B P) E to ta) Γ k := by
  subst hB
  refine fun σ H Q G c => h σ H _ G fun v H1 s e1 d ⟨cc, fl, iβ, hC, hm, z⟩ => ?_
  subst hC
  obtain ⟨p, dp, fs, hv, _, hH, hfl⟩ := iβ.at_ d
  refine ⟨p, dp, fs, hv, hH, look_none (by rw [hfl]; exact hm), ?_⟩
  refine z σ H1 _ (G.ext e1) fun vs H2 ts e2 d2 z2 => ?_
  have G2 := (G.ext e1).ext e2
  exact ⟨W, _, k, rfl, e2.ok, G2.wish, .cons (t := T s) (Rep.mono e2.keep d) d2, z2, fun q H3 ws bs hn e3 hq hd kk =>
    c q H3 ws bs (fresh_back e1.ok e1 (fresh_back e2.ok e2 hn)) ((e1.trans e2).trans e3) hq hd kk⟩
end
end G
set_option Elab.async false
set_option linter.all false
set_option maxRecDepth 100000
set_option maxHeartbeats 2000000
namespace G
open PySem PySem.Spec PyProof.Rows L2 StX
theorem lexLt2 (a b : Int × Int) : HT.lexLt [a.1, a.2] [b.1, b.2] = !lexLe b a := by
  rw [HT.lexLt.eq_4, HT.lexLt.eq_4, HT.lexLt.eq_1]
  rw [Bool.eq_iff_iff, Bool.not_eq_true', ← Bool.not_eq_true, lexLe_iff]
  by_cases h : a.1 = b.1
  · rw [if_pos h]
    by_cases h2 : a.2 = b.2
    · rw [if_pos h2]
      simp; omega
    · rw [if_neg h2, decide_eq_true_iff]; omega
  · rw [if_neg h, decide_eq_true_iff]; omega
/-- min of a list of pairs -/
def rMinP (K : PySem.W.Frag) : List V → Hp → VK → Prop := fun vs H Q => ∃ (a : Addr) (xs : List V) (ns : List (Int × Int)), vs = [.ref a] ∧ SqL K H a xs ∧ 0 < ns.length ∧ xs.length = ns.length ∧
  (∀ (i : Nat) (x : V) (n : Int × Int), xs[i]? = some x → ns[i]? = some n → ∃ t, x = .ref t ∧ SqT K H t [.int n.1, .int n.2]) ∧ ∀ (i : Nat) (x : V) (m : Int × Int), xs[i]? = some x → ns[i]? = some m → (∀ n ∈ ns, lexLe m n = true) → Q x H
section
variable {W : Wd} {Γ : Gam} {te : TE} {K : PySem.W.Frag}
theorem ev_minP {k : Int × Int → Prop} (hK : W.B.K = K) (h : EvK W te Γ fun as : List (Int × Int) => 0 < as.length ∧ ∀ m, m ∈ as → (∀ n ∈ as, lexLe m n = true) → k m) : EvK W (tCB (rMinP K) (tCons te tNil)) Γ k := by
  subst hK
  refine fun σ H Q G c => h σ H _ G fun v H1 as e1 ⟨p, vs, hv, hp, hd⟩ ⟨hl, z⟩ => ?_
  refine ⟨p, vs, as, by rw [hv], hp.sq, hl, hd.length, fun i x n hx hn => ?_, fun i x m hx hm hle => ?_⟩
  · obtain ⟨a, ha, da⟩ := hd.at hx
    rw [hn] at ha
    cases ha
    obtain ⟨t, y, u, hv2, s, h1, h2⟩ := da
    have h1' : y = V.int n.1 := h1
    have h2' : u = V.int n.2 := h2
    subst h1' h2'
    exact ⟨t, hv2, s.sq⟩
  · obtain ⟨a, ha, da⟩ := hd.at hx
    rw [hm] at ha
    cases ha
    exact c x H1 m e1 da (z m (List.mem_of_getElem? hm) hle)
/-- pairs compared -/
theorem ev_ltP {ta tb : TE} {k : Bool → Prop} (hK : W.B.K = K) (h : EvK W ta Γ fun a : Int × Int => EvK W tb Γ fun b : Int × Int => k (!lexLe b a)) : EvK W (tOp (rLtT K) ta tb) Γ k := by
  subst hK
  refine ev_two (h.imp fun a ha => ha.imp fun b hb x y H Q o dx dy c => ?_)
  obtain ⟨t, x1, x2, rfl, s, h1, h2⟩ := dx
  obtain ⟨t2, y1, y2, rfl, s2, g1, g2⟩ := dy
  have h1' : x1 = V.int a.1 := h1
  have h2' : x2 = V.int a.2 := h2
  have g1' : y1 = V.int b.1 := g1
  have g2' : y2 = V.int b.2 := g2
  subst h1' h2' g1' g2'
  exact ⟨t, t2, [a.1, a.2], [b.1, b.2], rfl, rfl, s.sq, s2.sq, c _ H _ (Ext.refl o) (by rw [lexLt2]; rfl) hb⟩
end
end G
set_option Elab.async false
set_option linter.all false
set_option maxRecDepth 100000
set_option maxHeartbeats 2000000
namespace G
open PySem PySem.Spec PyProof.Rows L2 StX
/-- errors that are no AttributeError -/
def NAt (K : PySem.W.Frag) (cls : Value) : Prop := ∃ C, cls = .ref C ∧ PySem.W.subIn K (.ref C) (.type "AttributeError") = some false
def tPropX (K : PySem.W.Frag) (C : Addr) (sp : Sp) (E : L2.St → XK) (ta : TE) : TE := fun σ H Q => ta σ H fun x H1 => ∃ a dx fs, x = .ref a ∧ H1 a = some (.ins C dx fs) ∧ sp [.ref a] H1 Q (fun cls d H' => NAt K cls ∧ E σ cls d H')
section
variable {W : Wd} {Γ : Gam} {te : TE} {B : Bs} {P : PT} {C : Addr} {E : L2.St → XK} {x : Xn → Prop} {K : PySem.W.Frag}
theorem ev_propX {α β : Type} {rα : Rep α} {rβ : Rep β} {k : α → Prop} (hB : W.B = B) (hx : HX W Γ E x)
    (h : EvK W te Γ fun s : β => OwnG β B C (P (fun t => ∃ a : α, t = T a ∧ k a) (fun n => NAt K (.ref (B.cl n.c)) ∧ x n) [T s])) : EvK W (tPropX K C (spG B P) E te) Γ k := by
  subst hB
  refine fun σ H Q G c => h σ H _ G fun v H1 s e1 d ⟨cc, fl, iβ, hC, z⟩ => ?_
  subst hC
  obtain ⟨p, dp, fs, hv, _, hH, _⟩ := iβ.at_ d
  refine ⟨p, dp, fs, hv, hH, W, _, _, _, rfl, e1.ok, .cons (t := T s) (by rw [← hv]; exact d) .nil, z, fun v H3 t e3 dt ⟨a, ea, q⟩ => by
    subst ea
    exact c v H3 a (e1.trans e3) dt q, fun n d2 H2 e2 xd ⟨hn, xn⟩ => ⟨hn, hx σ H1 (G.ext e1) n d2 H2 e2 xd xn⟩⟩
end
end G
namespace G
open PySem PySem.Spec PyProof.Rows L2 StX
section
variable {X : Cx}
theorem pe_revLK (K : PySem.W.Frag) {e : Expr} {te : TE} {k : Nat} {p1 p2 p3 pos : Pos} (h : L2.PE X e te) (hK : X.K = K := by rfl) : L2.PE X (e.Subscript (Expr.Slice none none (some (Expr.UnaryOp UnaryOp.USub (Expr.Constant (Const.int 1) k p1) p2)) p3) pos) (tRevL K te) := by subst hK; exact pe_revL h
end
end G
set_option Elab.async false
set_option linter.all false
set_option maxRecDepth 100000
set_option maxHeartbeats 2000000
namespace G
open PySem PySem.Spec PyProof.Rows L2 StX
end G
namespace G
open PySem PySem.Spec PyProof.Rows L2 StX
end G
set_option Elab.async false
set_option linter.all false
set_option maxRecDepth 100000
set_option maxHeartbeats 2000000
namespace G
open PySem PySem.Spec PyProof.Rows L2 StX
end G
namespace G
open PySem PySem.Spec PyProof.Rows L2 StX
end G
set_option Elab.async false
set_option linter.all false
set_option maxRecDepth 100000
set_option maxHeartbeats 2000000
namespace G
open PySem PySem.Spec PyProof.Rows L2 StX
/-- an address, whatever stands there -/
structure Rf where
  a : Addr
instance : Rep Rf := ⟨fun _ _ v r => v = .ref r.a, fun _ h => h, fun _ _ h => h, fun _ h => h⟩
instance : NoLst Rf := ⟨fun _ h => h⟩
end G
namespace G
open PySem PySem.Spec PyProof.Rows L2 StX
section
variable {W : Wd} {F : Hp} {L : Own} {Γ : Gam} {ta tb te to : TE} {tt : TT} {t u : TS} {R : PoM} {g : TG} {K : PySem.W.Frag}
theorem dl_of_at {α : Type} {f : V → α → Prop} : ∀ {vs : List V} {as : List α}, vs.length = as.length → (∀ (i : Nat) (v : V) (a : α), vs[i]? = some v → as[i]? = some a → f v a) → Dl f vs as
  | [], [], _, _ => .nil
  | [], _ :: _, h, _ => nomatch h
  | _ :: _, [], h, _ => nomatch h
  | v :: vs, a :: as, h, k => .cons (k 0 v a rfl rfl) (dl_of_at (by simpa using h) fun i w b h1 h2 => k (i + 1) w b (by simpa using h1) (by simpa using h2))
end
section
variable {X : Cx}
theorem call_list_ofK (K : PySem.W.Frag) (hK : X.K = K := by rfl) : CallR X (.type "list") fun xs H Q => ∃ p ys, xs = [V.ref p] ∧ (SqL K H p ys ∨ SqT K H p ys) ∧ ∀ l, H l = none → Q (V.ref l) (upd H l (HO.lst ys)) := by subst hK; exact call_list_of
end
end G
namespace G
open PySem PySem.Spec PyProof.Rows L2 StX
theorem zip_at {α β : Type} : ∀ {as : List α} {bs : List β} {i : Nat} {a : α} {b : β}, as[i]? = some a → bs[i]? = some b → (as.zip bs)[i]? = some (a, b)
  | _ :: _, _ :: _, 0, _, _, h1, h2 => by
    cases h1; cases h2; rfl
  | _ :: _, _ :: _, i + 1, _, _, h1, h2 => by
    have := zip_at (i := i) (by simpa using h1) (by simpa using h2)
    simpa using this
  | [], _, _, _, _, h1, _ => by simp at h1
  | _ :: _, [], _, _, _, _, h2 => by simp at h2
end G
set_option Elab.async false
set_option linter.all false
set_option maxRecDepth 100000
set_option maxHeartbeats 2000000
namespace G
open PySem PySem.Spec PyProof.Rows L2 StX
end G
set_option Elab.async false
set_option linter.all false
set_option maxRecDepth 100000
set_option maxHeartbeats 2000000
namespace G
open PySem PySem.Spec PyProof.Rows L2 StX
def revS (z : Str) : Str := ⟨z.cps.toList.reverse.toArray⟩
def tRevS (te : TE) : TE := fun σ H Q => te σ H fun x H1 => ∃ z, x = .str z ∧ z.length ≤ sizeLine ∧ Q (.str (revS z)) H1
theorem rev_picked (z : Str) (u : Tok) : (slicePicked z none none (some (-1, u))).filterMap (z.cps[·]?) = z.cps.toList.reverse := by
  show (sliceRange ((z.length : Int) - 1) (-1) (-1)).filterMap (z.cps[·]?) = _
  rw [PySem.W.krv_sliceRange, PySem.W.krv_range, List.filterMap_reverse]
  exact congrArg List.reverse (PySem.W.krv_all z.cps)
section
variable {X : Cx}
theorem pe_revS {e : Expr} {te : TE} {k : Nat} {p1 p2 p3 pos : Pos} (he : L2.PE X e te) : L2.PE X (e.Subscript (Expr.Slice none none (some (Expr.UnaryOp UnaryOp.USub (Expr.Constant (Const.int 1) k p1) p2)) p3) pos) (tRevS te) := by
  refine ⟨fun pins s σ H Q I h => ?_⟩
  refine Subscript_ (thn (he.run pins s σ H _ I h) fun v s1 ⟨x, H1, I1, r1, q1⟩ => ?_)
  obtain ⟨z, ex, hz, q⟩ := q1
  subst ex
  obtain ⟨t, rfl⟩ := r1
  have hst : PO X (some (.UnaryOp .USub (.Constant (.int 1) k p1) p2)) (tPart (tUn (rU fun i => .int (-i)) (tC (.int 1)))) := po_some (pe_un un_neg pe_int)
  refine wpAny_Slice (thn (po_none.run pins s1 σ H1 (fun o H2 => o = none ∧ H2 = H1) I1 ⟨rfl, rfl⟩) fun vl s2 ⟨l, H2, I2, pl, el, e2⟩ => ?_)
  subst el e2
  refine thn (po_none.run pins s2 σ H2 (fun o H3 => o = none ∧ H3 = H2) I2 ⟨rfl, rfl⟩) fun vu s3 ⟨u, H3, I3, pu, eu, e3⟩ => ?_
  subst eu e3
  refine thn (hst.run pins s3 σ H3 (fun o H4 => o = some (-1) ∧ H4 = H3) I3 ⟨1, rfl, -1, rfl, rfl, rfl⟩) fun vs s4 ⟨o, H4, I4, ps, eo, e4⟩ => ?_
  subst eo e4
  have I5 : Inv X pins σ H4 { s4 with heap := s4.heap.push { cls := .type "slice", data := .fields #[vl, vu, vs] } } := I4.kept (t' := s4.toks) fun b ob q => Heap.get?_push_of_some _ q
  obtain ⟨l', rfl, hl'⟩ := IsPart.raw pl
  obtain ⟨u', rfl, hu'⟩ := IsPart.raw pu
  obtain ⟨w', rfl, hw'⟩ := IsPart.raw ps
  have e1 : l' = none := by cases l' with | none => rfl | some _ => cases hl'
  have e2 : u' = none := by cases u' with | none => rfl | some _ => cases hu'
  subst e1 e2
  obtain ⟨u1, rfl⟩ : ∃ u1, w' = some (-1, u1) := by
    cases w' with
    | none => cases hw'
    | some p => obtain ⟨a, b⟩ := p; cases hw'; exact ⟨b, rfl⟩
  refine tail_any (ops := [.ref s4.heap.objs.size, .str z t]) (typeIs_str _ _ _) (F.slot_str_getitem.lookup) ?_ (by with_unfolding_all rfl)
  refine wpAny_getItem_str_slice (l := none) (u := none) (st := some (-1, u1)) ⟨_, Heap.get?_push_size _ rfl, rfl, rfl⟩ rfl ?_
  have hm : sliceMade z t none none (some (-1, u1)) = .str (revS z) := by
    unfold sliceMade
    rw [rev_picked]
    rfl
  rw [hm]
  refine ⟨?_, .str (revS z), H4, I5.tok _, ⟨_, rfl⟩, q⟩
  show (revS z).cps.size ≤ _
  unfold revS
  rw [List.size_toArray, List.length_reverse, Array.length_toList]
  exact hz
end
section
variable {W : Wd} {Γ : Gam} {ta tb te : TE} {K : PySem.W.Frag}
theorem ev_revS {k : Str → Prop} (h : EvK W te Γ fun z : Str => z.length ≤ 100000 ∧ k (revS z)) : EvK W (tRevS te) Γ k := fun σ H Q G c => h σ H _ G fun v H1 z e1 d ⟨hl, q⟩ => by
  have d' : v = V.str z := d
  exact ⟨z, d', Nat.le_trans hl (by decide), c _ H1 (revS z) e1 rfl q⟩
theorem ev_ixS {k : Str → Prop} (h : EvK W ta Γ fun z : Str => EvK W tb Γ fun i : Int => z.length ≤ 100000 ∧ ∃ c, atI z.cps.toList i = some c ∧ k ⟨#[c]⟩) : EvK W (tOp rIxS ta tb) Γ k := by
  refine ev_two (h.imp fun z hz => hz.imp fun i ⟨hl, c, hc, q⟩ x y H Q o dx dy cc => ?_)
  have dx' : x = V.str z := dx
  have dy' : y = V.int i := dy
  exact ⟨z, i, c, dx', dy', Nat.le_trans hl (by decide), hc, cc _ H _ (Ext.refl o) rfl q⟩
theorem inV_strs (x : Str) (as : List Str) : inV (V.str x) (as.map V.str) = decide (x ∈ as) := by
  have h : inV (V.str x) (as.map V.str) = as.any fun a => a == x := by
    unfold inV
    rw [List.any_map]
    rfl
  rw [h, Bool.eq_iff_iff, List.any_eq_true, decide_eq_true_iff]
  exact ⟨fun ⟨a, ha, e⟩ => by rw [← eq_of_beq e]; exact ha, fun hx => ⟨x, hx, beq_self_eq_true x⟩⟩
theorem flat_strs (as : List Str) : (as.map V.str).all flatV = true := by
  rw [List.all_eq_true]
  intro v hv
  obtain ⟨a, _, rfl⟩ := List.mem_map.mp hv
  rfl
theorem ev_inS {k : Bool → Prop} (hK : W.B.K = K) (h : EvK W ta Γ fun x : Str => EvK W tb Γ fun as : List Str => k (decide (x ∈ as))) : EvK W (tOp (rIn K false) ta tb) Γ k := by
  subst hK
  refine ev_two (h.imp fun x hx => hx.imp fun as z v u H Q o dx ⟨p, vs, hu, hp, hd⟩ c => ?_)
  have dx' : v = V.str x := dx
  subst dx' hu
  have e := Dl.strs hd
  refine ⟨p, vs, rfl, .inl hp.sq, rfl, by rw [e]; exact flat_strs as, c _ H _ (Ext.refl o) ?_ z⟩
  show V.bl (inV (V.str x) vs) = _
  rw [e, inV_strs]
end
def wordL : Nat → Int → List Nat
  | 0, _ => []
  | k + 1, n => (97 + (n % 26).toNat) :: wordL k (n / 26)
def wordS (n : Int) (k : Nat) (b : Bool) : Str := ⟨(if b = true then (wordL k n).reverse else wordL k n).toArray⟩
theorem wordL_len : ∀ (k : Nat) (n : Int), (wordL k n).length = k
  | 0, _ => rfl
  | k + 1, n => by unfold wordL; rw [List.length_cons, wordL_len k]
theorem wordL_az : ∀ (k : Nat) (n : Int), ∀ c ∈ wordL k n, 97 ≤ c ∧ c ≤ 122
  | 0, _, c, h => nomatch h
  | k + 1, n, c, h => by
    unfold wordL at h
    rcases List.mem_cons.mp h with rfl | h
    · omega
    · exact wordL_az k _ c h
theorem wordS_list (n : Int) (k : Nat) (b : Bool) : (wordS n k b).cps.toList = if b = true then (wordL k n).reverse else wordL k n := rfl
theorem wordS_len (n : Int) (k : Nat) (b : Bool) : (wordS n k b).length = k := by
  show (if b = true then (wordL k n).reverse else wordL k n).toArray.size = k
  rw [List.size_toArray]
  split
  · rw [List.length_reverse, wordL_len]
  · rw [wordL_len]
theorem wordS_az {n : Int} {k : Nat} {b : Bool} : ∀ c ∈ (wordS n k b).cps.toList, 97 ≤ c ∧ c ≤ 122 := fun c h => by
  rw [wordS_list] at h
  split at h
  · exact wordL_az k n c (List.mem_reverse.mp h)
  · exact wordL_az k n c h
theorem wordS_inj {n m : Int} {k : Nat} {b : Bool} (hk : 1 ≤ k) (h : wordS n k b = wordS m k b) : n % 26 = m % 26 := by
  have e : wordL k n = wordL k m := by
    have e1 : (wordS n k b).cps.toList = (wordS m k b).cps.toList := by rw [h]
    rw [wordS_list, wordS_list] at e1
    split at e1
    · exact List.reverse_inj.mp e1
    · exact e1
  obtain ⟨j, rfl⟩ : ∃ j, k = j + 1 := ⟨k - 1, by omega⟩
  unfold wordL at e
  have := (List.cons.inj e).1
  omega
theorem nodup_sub {α : Type} [DecidableEq α] : ∀ {l B : List α}, l.Nodup → (∀ x ∈ l, x ∈ B) → l.length ≤ B.length
  | [], B, _, _ => Nat.zero_le _
  | x :: l, B, hn, hs => by
    obtain ⟨h1, h2⟩ := List.nodup_cons.mp hn
    have hx := hs x List.mem_cons_self
    have := nodup_sub (B := B.erase x) h2 fun y hy => (List.mem_erase_of_ne (fun e => h1 (by rw [← e]; exact hy))).mpr (hs y (List.mem_cons_of_mem _ hy))
    rw [List.length_erase_of_mem hx] at this
    have := List.length_pos_of_mem hx
    rw [List.length_cons]
    omega
def barS : List Str := [Str.ofString "rank", Str.ofString "trim", Str.ofString "weigh", Str.ofString "together"]
/-- twenty words one behind the other are not all taken -/
theorem words_free {n : Int} {k : Nat} {b : Bool} (hk : 1 ≤ k) {B : List Str} (hB : B.length < 20) (h : ∀ j : Nat, j < 20 → wordS (n + (j : Int)) k b ∈ B) : False := by
  have := nodup_sub (l := (List.range 20).map fun j : Nat => wordS (n + (j : Int)) k b) (B := B) (by
    rw [List.nodup_iff_pairwise_ne, List.pairwise_map]
    refine List.Pairwise.imp_of_mem (R := (· ≠ ·)) (fun {i j} hi hj hne e => ?_) List.nodup_range
    have q := wordS_inj hk e
    have := List.mem_range.mp hi
    have := List.mem_range.mp hj
    omega) (fun x hx => by
      obtain ⟨j, hj, rfl⟩ := List.mem_map.mp hx
      exact h j (List.mem_range.mp hj))
  rw [List.length_map, List.length_range] at this
  omega
/-- a name that a gauge may have -/
def GoodW (w : Str) : Prop := 1 ≤ w.length ∧ w.length ≤ 12 ∧ (∀ c ∈ w.cps.toList, 97 ≤ c ∧ c ≤ 122) ∧ w ∉ barS
end G
namespace G
open PySem PySem.Spec PyProof.Rows L2 StX
theorem abc_at {i : Int} (h0 : 0 ≤ i) (h1 : i < 26) : atI (Str.ofString "abcdefghijklmnopqrstuvwxyz").cps.toList i = some (97 + i.toNat) := by
  have key : ∀ j : Fin 26, atI (Str.ofString "abcdefghijklmnopqrstuvwxyz").cps.toList ((j.val : Nat) : Int) = some (97 + j.val) := by decide +kernel
  obtain ⟨n, rfl⟩ : ∃ n : Nat, i = n := ⟨i.toNat, by omega⟩
  rw [key ⟨n, by omega⟩, Int.toNat_natCast]
theorem snoc_list (z : Str) (c : Nat) : (z ++ (⟨#[c]⟩ : Str)).cps.toList = z.cps.toList ++ [c] := by
  show (z.cps ++ #[c]).toList = _
  rw [Array.toList_append]
theorem snoc_len (z : Str) (c : Nat) : (z ++ (⟨#[c]⟩ : Str)).length = z.length + 1 := by
  show (z.cps ++ #[c]).size = _
  rw [Array.size_append]
  rfl
theorem str_len (z : Str) : z.length = z.cps.toList.length := by
  show z.cps.size = _
  rw [Array.length_toList]
theorem wordS_of {z : Str} {n : Int} {k : Nat} (h : z.cps.toList = wordL k n) : (wordS n k false = z) ∧ wordS n k true = revS z := by
  constructor
  · unfold wordS
    rw [if_neg (by decide), ← h]
  · unfold wordS revS
    rw [if_pos rfl, ← h]
end G
set_option Elab.async false
set_option linter.all false
set_option maxRecDepth 100000
set_option maxHeartbeats 2000000
namespace G
open PySem PySem.Spec PyProof.Rows L2 StX
end G
set_option Elab.async false
set_option linter.all false
set_option maxRecDepth 100000
set_option maxHeartbeats 2000000
namespace G
open PySem PySem.Spec PyProof.Rows L2 StX
inductive GK where
  | pl | co | la | lc
  deriving DecidableEq
def GK.cn : GK → Cn
  | .pl => .Gauge
  | .co => .CoarseGauge
  | .la => .LateGauge
  | .lc => .LateCoarseGauge
def GK.coarse : GK → Bool
  | .co => true
  | .lc => true
  | _ => false
def GK.late : GK → Bool
  | .la => true
  | .lc => true
  | _ => false
structure Gau where
  k : GK
  nm : Str
  rd : Int
  st : Int
  lt : Int
  pc : Int
  deriving DecidableEq
/-- the fields, in the order in which they are set -/
def gauF (g : Gau) : List (Str × V) := [(("name" : Str), V.str g.nm), ("radius", V.int g.rd)] ++ (if g.k.late = true then [(("late" : Str), V.int g.lt), ("pace", V.int g.pc)] else []) ++ (if g.k.coarse = true then [(("step" : Str), V.int g.st)] else [])
instance : Rep Gau :=
  ⟨fun W H v g => ∃ a dx, v = .ref a ∧ ¬ W.mu a ∧ H a = some (.ins (W.B.cl g.k.cn) dx (gauF g)),
   fun e ⟨a, dx, hv, m, h⟩ => ⟨a, dx, hv, m, e _ _ m h⟩,
   fun D n ⟨a, dx, hv, m, h⟩ => ⟨a, dx, hv, mu_grow n m h, h⟩,
   fun D ⟨a, dx, hv, m, h⟩ => ⟨a, dx, hv, fun z => m (.inl z), h⟩⟩
/-- slacks as the document tells them -/
def sbF (g : Gau) : Int := g.rd + (if g.k.late = true then g.lt * g.pc else 0)
def saF (g : Gau) : Int := g.rd + (if g.k.coarse = true then g.st - 1 else 0) + (if g.k.late = true then g.lt * g.pc else 0)
theorem nk1 : (("radius" : Str) == ("name" : Str)) = false := by decide +kernel
theorem nk2 : (("late" : Str) == ("name" : Str)) = false := by decide +kernel
theorem nk3 : (("late" : Str) == ("radius" : Str)) = false := by decide +kernel
theorem nk4 : (("pace" : Str) == ("name" : Str)) = false := by decide +kernel
theorem nk5 : (("pace" : Str) == ("radius" : Str)) = false := by decide +kernel
theorem nk6 : (("pace" : Str) == ("late" : Str)) = false := by decide +kernel
theorem nk7 : (("step" : Str) == ("name" : Str)) = false := by decide +kernel
theorem nk8 : (("step" : Str) == ("radius" : Str)) = false := by decide +kernel
theorem nk9 : (("step" : Str) == ("late" : Str)) = false := by decide +kernel
theorem nk10 : (("step" : Str) == ("pace" : Str)) = false := by decide +kernel
theorem gau_name (g : Gau) : (gauF g).lookup ("name" : Str) = some (.str g.nm) := by simp [gauF, List.lookup]
theorem gau_radius (g : Gau) : (gauF g).lookup ("radius" : Str) = some (.int g.rd) := by simp [gauF, List.lookup, nk1]
theorem gau_late {g : Gau} (h : g.k.late = true) : (gauF g).lookup ("late" : Str) = some (.int g.lt) := by simp [gauF, List.lookup, h, nk2, nk3]
theorem gau_pace {g : Gau} (h : g.k.late = true) : (gauF g).lookup ("pace" : Str) = some (.int g.pc) := by simp [gauF, List.lookup, h, nk4, nk5, nk6]
theorem gau_step {g : Gau} (h : g.k.coarse = true) : (gauF g).lookup ("step" : Str) = some (.int g.st) := by
  obtain ⟨k, nm, rd, st, lt, pc⟩ := g
  cases k with
  | pl => cases h
  | la => cases h
  | co => simp [gauF, List.lookup, GK.late, GK.coarse, nk7, nk8]
  | lc => simp [gauF, List.lookup, GK.late, GK.coarse, nk7, nk8, nk9, nk10]
/-- what the text says of the four classes -/
structure GauT (B : Bs) : Prop where
  cl : ∀ k : GK, L2.Cls B.K (B.cl k.cn)
  nname : ∀ k : GK, NoAttr B.K (B.cl k.cn) "name"
  nradius : ∀ k : GK, NoAttr B.K (B.cl k.cn) "radius"
  nstep : ∀ k : GK, NoAttr B.K (B.cl k.cn) "step"
  nlate : ∀ k : GK, NoAttr B.K (B.cl k.cn) "late"
  npace : ∀ k : GK, NoAttr B.K (B.cl k.cn) "pace"
section
variable {W : Wd} {Γ : Gam} {te to : TE} {ta : TA} {K : PySem.W.Frag}
theorem ev_gname {k : Str → Prop} (hK : W.B.K = K) (hG : GauT W.B) (h : EvK W te Γ fun g : Gau => k g.nm) : EvK W (tFld K te "name") Γ k := by
  subst hK
  refine fun σ H Q E c => h σ H _ E fun v H1 g e1 ⟨a, dx, hv, m, hH⟩ z => ?_
  exact ⟨a, _, dx, _, _, hv, hH, hG.cl _, hG.nname _, gau_name _, c _ H1 g.nm e1 rfl z⟩
theorem ev_radius {k : Int → Prop} (hK : W.B.K = K) (hG : GauT W.B) (h : EvK W te Γ fun g : Gau => k g.rd) : EvK W (tFld K te "radius") Γ k := by
  subst hK
  refine fun σ H Q E c => h σ H _ E fun v H1 g e1 ⟨a, dx, hv, m, hH⟩ z => ?_
  exact ⟨a, _, dx, _, _, hv, hH, hG.cl _, hG.nradius _, gau_radius _, c _ H1 g.rd e1 rfl z⟩
theorem ev_step {k : Int → Prop} (hK : W.B.K = K) (hG : GauT W.B) (h : EvK W te Γ fun g : Gau => g.k.coarse = true ∧ k g.st) : EvK W (tFld K te "step") Γ k := by
  subst hK
  refine fun σ H Q E c => h σ H _ E fun v H1 g e1 ⟨a, dx, hv, m, hH⟩ ⟨hc, z⟩ => ?_
  exact ⟨a, _, dx, _, _, hv, hH, hG.cl _, hG.nstep _, gau_step hc, c _ H1 g.st e1 rfl z⟩
theorem ev_late {k : Int → Prop} (hK : W.B.K = K) (hG : GauT W.B) (h : EvK W te Γ fun g : Gau => g.k.late = true ∧ k g.lt) : EvK W (tFld K te "late") Γ k := by
  subst hK
  refine fun σ H Q E c => h σ H _ E fun v H1 g e1 ⟨a, dx, hv, m, hH⟩ ⟨hc, z⟩ => ?_
  exact ⟨a, _, dx, _, _, hv, hH, hG.cl _, hG.nlate _, gau_late hc, c _ H1 g.lt e1 rfl z⟩
theorem ev_pace {k : Int → Prop} (hK : W.B.K = K) (hG : GauT W.B) (h : EvK W te Γ fun g : Gau => g.k.late = true ∧ k g.pc) : EvK W (tFld K te "pace") Γ k := by
  subst hK
  refine fun σ H Q E c => h σ H _ E fun v H1 g e1 ⟨a, dx, hv, m, hH⟩ ⟨hc, z⟩ => ?_
  exact ⟨a, _, dx, _, _, hv, hH, hG.cl _, hG.npace _, gau_pace hc, c _ H1 g.pc e1 rfl z⟩
end
end G
set_option Elab.async false
set_option linter.all false
set_option maxRecDepth 100000
set_option maxHeartbeats 2000000
namespace G
open PySem PySem.Spec PyProof.Rows L2 StX
def rInSign : R2 := fun x y H Q => ∃ (c : Nat) (z : Str), x = .str ⟨#[c]⟩ ∧ y = .str z ∧ Q (.bl (decide (c ∈ z.cps.toList))) H
section
variable {W : Wd} {Γ : Gam} {te tb tl : TE} {tt : TT} {g : TG} {K : PySem.W.Frag}
theorem ev_inSign {k : Bool → Prop} (h : EvK W te Γ fun x : Str => ∃ c, x = ⟨#[c]⟩ ∧ EvK W tb Γ fun z : Str => k (decide (c ∈ z.cps.toList))) : EvK W (tOp rInSign te tb) Γ k := by
  refine fun σ H Q G cc => h σ H _ G fun v H1 x e1 d ⟨c, ex, h2⟩ => h2 σ H1 _ (G.ext e1) fun u H2 z e2 d2 q => ?_
  have d' : v = V.str x := d
  have d2' : u = V.str z := d2
  exact ⟨c, z, by rw [d', ex], d2', cc _ H2 _ (e1.trans e2) rfl q⟩
/-- x in a constant tuple of texts -/
theorem ev_inCst {k : Bool → Prop} {C : Addr} {as : List Str} (hC : ∀ H, SqT K H C (as.map V.str)) (h : EvK W te Γ fun x : Str => k (decide (x ∈ as))) : EvK W (tOp (rIn K false) te (tC (.ref C))) Γ k := by
  refine fun σ H Q G c => h σ H _ G fun v H1 x e1 d z => ?_
  have d' : v = V.str x := d
  subst d'
  refine ⟨C, as.map V.str, rfl, .inr (hC H1), rfl, flat_strs as, c _ H1 _ e1 ?_ z⟩
  show V.bl (inV (V.str x) (as.map V.str)) = _
  rw [inV_strs]
/-- C.f, a constant number -/
theorem ev_cvalI {k : Int → Prop} {C : Addr} {mc u : Value} {f : Str} {n : Int} (r : ClX.CRead K C mc) (c : ClX.CVal K C mc f (.int n) u) (h : k n) : EvK W (ClX.tCVal K (tC (.ref C)) f) Γ k := fun σ H Q G cc =>
  ⟨C, mc, _, u, rfl, r, c, cc _ H n (Ext.refl G.ok) rfl h⟩
/-- [te for g in a text if tt] -/
theorem evF_lcS {β : Type} {rβ : Rep β} {vs : List Nat} {k : List β → Prop}
    (h : EvK W tl Γ fun z : Str => z.length ≤ 100000 ∧ ∃ I : Nat → List β → Prop, I 0 [] ∧ (∀ W', Sub W W' → ∀ (i c : Nat) (bs : List β), z.cps.toList[i]? = some c → I i bs → LcTurn W' g tt te vs Γ (⟨#[c]⟩ : Str) (I (i + 1) bs) fun y : β => I (i + 1) (bs ++ [y])) ∧ ∀ bs, I z.length bs → k bs) :
    EvF W (tLc (iStr tl) g tt te vs) Γ k := by
  refine fun σ H Q E c => h σ H _ E fun v H1 z e1 hv ⟨hl, I, h0, hs, hf⟩ => ⟨z, hv, fun D n => ?_⟩
  have G1 := E.ext e1
  have eD : Ext W H1 (upd H1 D (.lst [])) := Ext.new e1.ok n
  refine turns (J := Its z) (n := z.length) (fun i H' => Ext W H1 H' ∧ ∃ acc bs, H' D = some (.lst acc) ∧ Dl (den (W.toWc.plus D) H') acc bs ∧ acc.length ≤ i ∧ I i bs) ⟨eD, [], [], upd_same, .nil, Nat.le_refl _, h0⟩ (fun i H' hi _ => hi) (fun H' _ => Nat.le_refl _) ?_ ?_
  · rintro i H' x H'' hi ⟨e, acc, bs, hD, hb, ha, q⟩ ⟨rfl, cc, hc, rfl⟩
    have hc' : z.cps.toList[i]? = some cc := by rw [Array.getElem?_toList]; exact hc
    exact lc_turn (I := I (i + 1)) (P := fun H' => Ext W H1 H' ∧ ∃ acc bs, H' D = some (.lst acc) ∧ Dl (den (W.toWc.plus D) H') acc bs ∧ acc.length ≤ i + 1 ∧ I (i + 1) bs) (hs _ (Sub.plus (n := n) (o1 := e1.ok) (w1 := G1.wish)) i cc bs hc' q) G1 e hD hb rfl (by omega) fun H2 acc2 bs2 e2 hD2 hb2 hl2 q2 => ⟨e2, acc2, bs2, hD2, hb2, by omega, q2⟩
  · rintro H' ⟨e, acc, bs, hD, hb, ha, q⟩
    exact c D H' acc bs (fresh_back e1.ok e1 n) (e1.trans e) hD hb (hf bs q)
/-- .. of each sign f, none left out -/
theorem ev_lcSF {β : Type} {rβ : Rep β} {vs : List Nat} {k : List β → Prop} (f : Nat → β)
    (h : EvK W tl Γ fun z : Str => z.length ≤ 100000 ∧ (∀ W', Sub W W' → ∀ c ∈ z.cps.toList, LcTurn W' g tt te vs Γ (⟨#[c]⟩ : Str) False fun y : β => y = f c) ∧ k (z.cps.toList.map f)) :
    EvK W (tLc (iStr tl) g tt te vs) Γ k := (evF_lcS (h.imp fun z ⟨hl, hs, q⟩ => ⟨hl, fun i bs => bs = (z.cps.toList.take i).map f, by simp, fun W' s i c bs hc e => by
  have ht : z.cps.toList.take (i + 1) = z.cps.toList.take i ++ [c] := by
    rw [List.take_succ, hc]; rfl
  obtain ⟨js, h1, h2⟩ := hs W' s c (List.mem_of_getElem? hc)
  refine ⟨js, h1, fun σ H v Q E d cc => h2 σ H v Q E d fun σ' Γ' G m q2 => cc σ' Γ' G m ?_⟩
  intro σ2 H2 Q2 E2 c2
  refine q2 σ2 H2 Q2 E2 fun H3 b e3 ⟨hy, hn⟩ => c2 H3 b e3 ⟨fun hb => (hy hb).imp fun y hyf => ?_, fun hb => (hn hb).elim⟩
  have e' : bs = (z.cps.toList.take i).map f := e
  show bs ++ [y] = (z.cps.toList.take (i + 1)).map f
  rw [ht, List.map_append, ← e', hyf]; rfl, fun bs e => by
    have e' : bs = (z.cps.toList.take z.length).map f := e
    rw [e', str_len, List.take_length]
    exact q⟩)).k
end
/-- whether a gauge may have this name -/
def gnB (w : Str) : Bool := !decide (w ∈ barS) && (decide (1 ≤ (w.length : Int)) && decide ((w.length : Int) ≤ 12) && (w.cps.toList.map fun c => decide (c ∈ (Str.ofString "abcdefghijklmnopqrstuvwxyz").cps.toList)).all id)
theorem abc_mem {c : Nat} (h : 97 ≤ c ∧ c ≤ 122) : c ∈ (Str.ofString "abcdefghijklmnopqrstuvwxyz").cps.toList := by
  have key : ∀ j : Fin 26, (97 + j.val) ∈ (Str.ofString "abcdefghijklmnopqrstuvwxyz").cps.toList := by decide +kernel
  have := key ⟨c - 97, by omega⟩
  rw [show 97 + (c - 97) = c by omega] at this
  exact this
theorem gnB_good {w : Str} (h : GoodW w) : gnB w = true := by
  obtain ⟨h1, h2, h3, h4⟩ := h
  unfold gnB
  rw [decide_eq_false h4, decide_eq_true (by omega : 1 ≤ (w.length : Int)), decide_eq_true (by omega : (w.length : Int) ≤ 12)]
  simp only [Bool.not_false, Bool.true_and, List.all_map, List.all_eq_true]
  exact fun c hc => decide_eq_true (abc_mem (h3 c hc))
end G
namespace G
open PySem PySem.Spec PyProof.Rows L2 StX
section
variable {X : Cx}
theorem pe_globE {x : Str} {v : V} {pos : Pos} (hm : ∃ u, X.mg x = some u ∧ L2.RelV v u) (hg : Gl X x := by rfl) (hd : (x == ("__debug__" : Str)) = false := by decide) : L2.PE X (.Name x pos) (tC v) := by
  obtain ⟨u, h1, h2⟩ := hm
  exact pe_glob hg h1 h2 hd
theorem pe_cvalK (K : PySem.W.Frag) {e : Expr} {f : Str} {ta : TE} {pos : Pos} (he : L2.PE X e ta) (hb : attributeBase e f X.env (eval e X.env) = eval e X.env := by rfl) (hK : X.K = K := by rfl) : L2.PE X (.Attribute e f pos) (ClX.tCVal K ta f) := by subst hK; exact ClX.pe_cval he hb
end
end G
namespace G
open PySem PySem.Spec PyProof.Rows L2 StX
theorem ev_lenS {W : Wd} {Γ : Gam} {te : TE} {k : Int → Prop} (h : EvK W te Γ fun z : Str => z.length ≤ 100000 ∧ k (z.length : Int)) : EvK W (tCB (fun xs H Q => ∃ z, xs = [.str z] ∧ z.length ≤ sizeLine ∧ Q (.int (z.length : Nat)) H) (tCons te tNil)) Γ k := fun σ H Q G c =>
  h σ H _ G fun v H1 z e1 d ⟨hl, q⟩ => ⟨z, congrArg (fun x => [x]) d, Nat.le_trans hl (by decide), c _ H1 _ e1 rfl q⟩
end G
namespace G
open PySem PySem.Spec PyProof.Rows L2 StX
/-- Gauge.__init__ at an object of any of the four kinds: name and radius are set -/
def spGI (B : Bs) : Sp := fun vs H Q E => ∃ (W : Wd) (p dx : Addr) (fs : List (Str × V)) (kd : GK) (nm : Str) (rd : Int), vs = [.ref p, .str nm, .int rd] ∧ H p = some (.ins (B.cl kd.cn) dx fs) ∧ W.B = B ∧ W.ok H ∧ ¬ W.mu p ∧ fs.length < 900 ∧ gnB nm = true ∧ nm.length ≤ 100000 ∧ 0 ≤ rd ∧ GauT B ∧
  ∀ H', Ext W H H' → Q .non (upd (upd H' p (.ins (B.cl kd.cn) dx (putF "name" (.str nm) fs))) p (.ins (B.cl kd.cn) dx (putF "radius" (.int rd) (putF "name" (.str nm) fs))))
end G
namespace G
open PySem PySem.Spec PyProof.Rows L2 StX
theorem putF_le (f : Str) (v : V) : ∀ fs : List (Str × V), (putF f v fs).length ≤ fs.length + 1
  | [] => Nat.le_refl _
  | (g, x) :: r => by
    unfold putF
    split
    · exact Nat.le_succ _
    · exact Nat.succ_le_succ (putF_le f v r)
end G
namespace G
open PySem PySem.Spec PyProof.Rows L2 StX
theorem gau_of {W : Wd} {B : Bs} (h : W.B = B) (g : GauT B) : GauT W.B := by rw [h]; exact g
end G
set_option Elab.async false
set_option linter.all false
set_option maxRecDepth 100000
set_option maxHeartbeats 2000000
namespace G
open PySem PySem.Spec PyProof.Rows L2 StX
/-- the main module's file, and no own name super at its top -/
class MainP (P : Program) : Prop where
  file : ((P.main.file : Str) == (Str.ofString "/claim/cut.py")) = true
  top : (P.main.scope.names.lookup ("super" : Str)).isSome = false
end G
namespace G
open PySem PySem.Spec PyProof.Rows L2 StX
end G
namespace G
open PySem PySem.Spec PyProof.Rows L2 StX
def GauOk (g : Gau) : Prop := g.k.late = true → 0 ≤ g.lt ∧ g.lt ≤ 1000000000000
end G
set_option Elab.async false
set_option linter.all false
set_option maxRecDepth 100000
set_option maxHeartbeats 2000000
namespace G
open PySem PySem.Spec PyProof.Rows L2 StX
section
variable {X : Cx} {CX : CXT} {k n : Nat} {f C : Addr} {fd : FuncData} {ps ks : List Str} {sp : Sp} {E : XK} {x : Str} {p p2 pos : Pos} {e : Expr} {es : List Expr} {kws : List Keyword} {t tk : TA} {g : List Value → List Value → List Value} {gV : List V → List V → List V}
theorem pe_cinitK {pl : Sem Bool} (T : CliT X.K C f) (F : FnOk X.prog X.w X.K X.mg X.base CX k f fd ps sp) (hr : Room k X.A) (hb : KBn X.K fd ps n ks g gV) (hx : Passes CX X E) (hm : X.mg x = some (.ref C)) (ha : PA X (e :: es) t) (hkw : PK X kws tk) (hg : Gl X x := by rfl) (hdb : (x == ("__debug__" : Str)) = false := by decide)
    (hc : eval (.Call (.Attribute (.Name x p) "__init__" p2) (e :: es) kws pos) X.env = (do
      let ov ← eval (.Name x p) X.env
      standAt p2.atName
      let (f, first) ← holding [ov] (getMethod ov "__init__" pl)
      callWith pos f first (backTo pos (starEach (e :: es) X.env)) (backToKw pos (keywordEach kws X.env))) := by rfl)
    (hall : (backToKw pos (keywordEach kws X.env)).all (·.1.isSome) = true := by rfl) (hks : (backToKw pos (keywordEach kws X.env)).filterMap (·.1) = ks := by rfl)
    (he : starEach (e :: es) X.env = (false, eval e X.env) :: starEach es X.env := by rfl)
    (hpl : ((backTo pos (starEach (e :: es) X.env)).any (·.1) || (backToKw pos (keywordEach kws X.env)).any (·.1.isNone)) = false := by rfl) :
    L2.PE X (.Call (.Attribute (.Name x p) "__init__" p2) (e :: es) kws pos) (tCallN n ks.length sp gV E t tk) := by
  refine ⟨fun pins s σ H Q I h => ?_⟩
  refine PySem.W.methodCall_KW (ld_glob I hg hm ?_ hdb) hc
  refine PySem.W.method_cls I.kIn T.ga (PySem.W.cls_value I.kIn T.rd T.at_ (by rfl) ?_)
  show wpAny _ _ (callWith pos (Value.ref f) [] (backTo pos (starEach (e :: es) X.env)) (backToKw pos (keywordEach kws X.env))) _ _ _
  refine PySem.W.callWith_KW (h₀ := X.base) I.ok.mod.kin T.kp hall (thn (ha.run pos pins _ σ H _ (I.tok _) h) fun us s1 ⟨vs, H1, I1, r, q⟩ => ?_) hpl he
  refine thn (hkw.run pos pins s1 σ H1 _ I1 q) fun ws s2 ⟨zs, H2, I2, rz, l1, l2, q2⟩ => ⟨I2.kIn, ?_⟩
  rw [hks]
  exact run_fnN F hr hb hx I2 r rz l1 l2 q2
end
/-- a def with n positional and then keyword-only parameters ks, none with a default -/
structure DefK (K : PySem.W.Frag) (name qual : Str) (st : Stmt) (ps : List Str) (n : Nat) (ks : List Str) (f : Addr) : Prop where
  ex : ∃ fd, Fun K name qual st f fd ∧ KBn K fd ps n ks (fun us ws => us ++ ws) (fun vs zs => vs ++ zs)
theorem kbn_mk {K : PySem.W.Frag} {fd : FuncData} {ps : List Str} {n : Nat} {ks : List Str} (h : ∀ (s : Shared) (us ws : List Value), us.length = n → ws.length = ks.length → BindsTo s fd ⟨us, ks.zip ws⟩ (ps.zip (us ++ ws))) : KBn K fd ps n ks (fun us ws => us ++ ws) (fun vs zs => vs ++ zs) :=
  ⟨fun s us ws _ l1 l2 => h s us ws l1 l2, fun r1 r2 => r1.append r2⟩
end G
namespace G
open PySem PySem.Spec PyProof.Rows L2 StX
/-- CoarseGauge.__init__ at an object of any kind: name, radius and step are set -/
def spCI (B : Bs) : Sp := fun vs H Q E => ∃ (W : Wd) (p dx : Addr) (fs : List (Str × V)) (kd : GK) (nm : Str) (rd st : Int), vs = [.ref p, .str nm, .int rd, .int st] ∧ H p = some (.ins (B.cl kd.cn) dx fs) ∧ W.B = B ∧ W.ok H ∧ ¬ W.mu p ∧ fs.length < 800 ∧ gnB nm = true ∧ nm.length ≤ 100000 ∧ 0 ≤ rd ∧ 1 ≤ st ∧ GauT B ∧
  ∀ H', Ext W H H' → Q .non (upd (upd (upd H' p (.ins (B.cl kd.cn) dx (putF "name" (.str nm) fs))) p (.ins (B.cl kd.cn) dx (putF "radius" (.int rd) (putF "name" (.str nm) fs)))) p (.ins (B.cl kd.cn) dx (putF "step" (.int st) (putF "radius" (.int rd) (putF "name" (.str nm) fs)))))
end G
namespace G
open PySem PySem.Spec PyProof.Rows L2 StX
/-- LateGauge.__init__ at an object of any kind: name, radius, late and pace are set -/
def spTI (B : Bs) : Sp := fun vs H Q E => ∃ (W : Wd) (p dx : Addr) (fs : List (Str × V)) (kd : GK) (nm : Str) (rd lt pc : Int), vs = [.ref p, .str nm, .int rd, .int lt, .int pc] ∧ H p = some (.ins (B.cl kd.cn) dx fs) ∧ W.B = B ∧ W.ok H ∧ ¬ W.mu p ∧ fs.length < 700 ∧ gnB nm = true ∧ nm.length ≤ 100000 ∧ 0 ≤ rd ∧ 0 ≤ lt ∧ 0 ≤ pc ∧ GauT B ∧
  ∀ H', Ext W H H' → Q .non (upd (upd (upd (upd H' p (.ins (B.cl kd.cn) dx (putF "name" (.str nm) fs))) p (.ins (B.cl kd.cn) dx (putF "radius" (.int rd) (putF "name" (.str nm) fs)))) p (.ins (B.cl kd.cn) dx (putF "late" (.int lt) (putF "radius" (.int rd) (putF "name" (.str nm) fs))))) p (.ins (B.cl kd.cn) dx (putF "pace" (.int pc) (putF "late" (.int lt) (putF "radius" (.int rd) (putF "name" (.str nm) fs))))))
end G
namespace G
open PySem PySem.Spec PyProof.Rows L2 StX
/-- LateCoarseGauge.__init__ at a new object -/
def spQI (B : Bs) : Sp := fun vs H Q E => ∃ (W : Wd) (p dx : Addr) (nm : Str) (rd st lt pc : Int), vs = [.ref p, .str nm, .int rd, .int st, .int lt, .int pc] ∧ H p = some (.ins (B.cl .LateCoarseGauge) dx []) ∧ W.B = B ∧ W.ok H ∧ ¬ W.mu p ∧ gnB nm = true ∧ nm.length ≤ 100000 ∧ 0 ≤ rd ∧ 1 ≤ st ∧ 0 ≤ lt ∧ 0 ≤ pc ∧ GauT B ∧
  ∀ H', (∀ a o, ¬ W.mu a → a ≠ p → H a = some o → H' a = some o) → W.ok H' → H' p = some (.ins (B.cl .LateCoarseGauge) dx (gauF ⟨.lc, nm, rd, st, lt, pc⟩)) → Q .non H'
theorem gauF_lc (nm : Str) (rd st lt pc : Int) : putF "step" (.int st) (putF "radius" (.int rd) (putF "name" (.str nm) (putF "pace" (.int pc) (putF "late" (.int lt) (putF "radius" (.int rd) (putF "name" (.str nm) [])))))) = gauF ⟨.lc, nm, rd, st, lt, pc⟩ := by
  have k1 : ¬ (("name" : Str) = "radius") := by decide +kernel
  have k2 : ¬ (("name" : Str) = "late") := by decide +kernel
  have k3 : ¬ (("radius" : Str) = "late") := by decide +kernel
  have k4 : ¬ (("name" : Str) = "pace") := by decide +kernel
  have k5 : ¬ (("radius" : Str) = "pace") := by decide +kernel
  have k6 : ¬ (("late" : Str) = "pace") := by decide +kernel
  have k7 : ¬ (("name" : Str) = "step") := by decide +kernel
  have k8 : ¬ (("radius" : Str) = "step") := by decide +kernel
  have k9 : ¬ (("late" : Str) = "step") := by decide +kernel
  have k10 : ¬ (("pace" : Str) = "step") := by decide +kernel
  simp [putF, gauF, GK.late, GK.coarse, k1, k2, k3, k4, k5, k6, k7, k8, k9, k10]
end G
namespace G
open PySem PySem.Spec PyProof.Rows L2 StX
/-- name and radius set at a new object -/
theorem gauF_pl (nm : Str) (rd st lt pc : Int) : putF "radius" (.int rd) (putF "name" (.str nm) []) = gauF ⟨.pl, nm, rd, st, lt, pc⟩ := by
  have k1 : ¬ (("name" : Str) = "radius") := by decide +kernel
  simp [putF, gauF, GK.late, GK.coarse, k1]
theorem gauF_co (nm : Str) (rd st lt pc : Int) : putF "step" (.int st) (putF "radius" (.int rd) (putF "name" (.str nm) [])) = gauF ⟨.co, nm, rd, st, lt, pc⟩ := by
  have k1 : ¬ (("name" : Str) = "radius") := by decide +kernel
  have k7 : ¬ (("name" : Str) = "step") := by decide +kernel
  have k8 : ¬ (("radius" : Str) = "step") := by decide +kernel
  simp [putF, gauF, GK.late, GK.coarse, k1, k7, k8]
theorem gauF_la (nm : Str) (rd st lt pc : Int) : putF "pace" (.int pc) (putF "late" (.int lt) (putF "radius" (.int rd) (putF "name" (.str nm) []))) = gauF ⟨.la, nm, rd, st, lt, pc⟩ := by
  have k1 : ¬ (("name" : Str) = "radius") := by decide +kernel
  have k2 : ¬ (("name" : Str) = "late") := by decide +kernel
  have k3 : ¬ (("radius" : Str) = "late") := by decide +kernel
  have k4 : ¬ (("name" : Str) = "pace") := by decide +kernel
  have k5 : ¬ (("radius" : Str) = "pace") := by decide +kernel
  have k6 : ¬ (("late" : Str) = "pace") := by decide +kernel
  simp [putF, gauF, GK.late, GK.coarse, k1, k2, k3, k4, k5, k6]
section
variable {W : Wd} {Γ : Gam} {ta tb : TE} {B : Bs} {C : Addr} {E : XK}
/-- Gauge(name, radius), a good name and number -/
theorem ev_gauge {k : Gau → Prop} (st lt pc : Int) (hB : W.B = B) (hC : B.cl .Gauge = C) (hT : GauT B) (h : EvK W ta Γ fun nm : Str => EvK W tb Γ fun rd : Int => (gnB nm = true ∧ nm.length ≤ 100000 ∧ 0 ≤ rd) ∧ k ⟨.pl, nm, rd, st, lt, pc⟩) : EvK W (tMakeR C (spGI B) E (tCons ta (tCons tb tNil))) Γ k := by
  subst hB
  subst hC
  refine fun σ H Q G c => h σ H _ G fun v H1 nm e1 d1 h1 => h1 σ H1 _ (G.ext e1) fun u H2 rd e2 d2 ⟨⟨hg, hn, hr⟩, z⟩ => ?_
  have d1' : v = V.str nm := d1
  have d2' : u = V.int rd := d2
  subst d1' d2'
  intro x dx nx ndx nex
  have e := e1.trans e2
  have m1 := fresh_mu e.ok ndx
  have m2 := fresh_mu e.ok nx
  have ok3 : W.ok (upd (upd H2 dx (.own x)) x (.ins (W.B.cl .Gauge) dx [])) := W.st _ _ _ (W.st _ _ _ e.ok m1) m2
  have e3 : Ext W H2 (upd (upd H2 dx (.own x)) x (.ins (W.B.cl .Gauge) dx [])) := ⟨fun a o _ q => by rw [upd_ne (ne_of_none q nx), upd_ne (ne_of_none q ndx)]; exact q, ok3⟩
  refine ⟨W, x, dx, [], .pl, nm, rd, rfl, upd_same, rfl, ok3, m2, by decide, hg, hn, hr, hT, fun H' e4 => ⟨rfl, ?_⟩⟩
  have e5 := e3.trans e4
  have k7 : Kp W.toWc H2 (upd (upd H' x (.ins (W.B.cl .Gauge) dx (putF "name" (.str nm) []))) x (.ins (W.B.cl .Gauge) dx (putF "radius" (.int rd) (putF "name" (.str nm) [])))) := fun a o m q => by
    rw [upd_ne (ne_of_none q nx), upd_ne (ne_of_none q nx)]
    exact e5.keep a o m q
  refine c (.ref x) _ ⟨.pl, nm, rd, st, lt, pc⟩ (e.trans ⟨k7, W.st _ _ _ (W.st _ _ _ e5.ok m2) m2⟩) ⟨x, dx, rfl, m2, ?_⟩ z
  rw [upd_same]
  show some (HO.ins _ _ (putF "radius" (.int rd) (putF "name" (.str nm) []))) = _
  rw [gauF_pl nm rd st lt pc]
/-- CoarseGauge(name, radius, step=..) -/
theorem ev_coarseG {tc : TE} {k : Gau → Prop} (lt pc : Int) (hB : W.B = B) (hC : B.cl .CoarseGauge = C) (hT : GauT B) (h : EvK W ta Γ fun nm : Str => EvK W tb Γ fun rd : Int => EvK W tc Γ fun st : Int => (gnB nm = true ∧ nm.length ≤ 100000 ∧ 0 ≤ rd ∧ 1 ≤ st) ∧ k ⟨.co, nm, rd, st, lt, pc⟩) : EvK W (tMakeK C 2 1 (spCI B) (fun vs zs => vs ++ zs) E (tCons ta (tCons tb tNil)) (tCons tc tNil)) Γ k := by
  subst hB
  subst hC
  refine fun σ H Q G c => h σ H _ G fun v H1 nm e1 d1 h1 => h1 σ H1 _ (G.ext e1) fun u H2' rd e2' d2 h2 => h2 σ H2' _ ((G.ext e1).ext e2') fun u3 H2 st e3' d3 ⟨⟨hg, hn, hr, hs⟩, z⟩ => ?_
  have d1' : v = V.str nm := d1
  have d2' : u = V.int rd := d2
  have d3' : u3 = V.int st := d3
  subst d1' d2' d3'
  refine ⟨rfl, rfl, ?_⟩
  intro x dx nx ndx nex
  have e := (e1.trans e2').trans e3'
  have m1 := fresh_mu e.ok ndx
  have m2 := fresh_mu e.ok nx
  have ok3 : W.ok (upd (upd H2 dx (.own x)) x (.ins (W.B.cl .CoarseGauge) dx [])) := W.st _ _ _ (W.st _ _ _ e.ok m1) m2
  have e3 : Ext W H2 (upd (upd H2 dx (.own x)) x (.ins (W.B.cl .CoarseGauge) dx [])) := ⟨fun a o _ q => by rw [upd_ne (ne_of_none q nx), upd_ne (ne_of_none q ndx)]; exact q, ok3⟩
  refine ⟨W, x, dx, [], .co, nm, rd, st, rfl, upd_same, rfl, ok3, m2, by decide, hg, hn, hr, hs, hT, fun H' e4 => ⟨rfl, ?_⟩⟩
  have e5 := e3.trans e4
  refine c (.ref x) _ ⟨.co, nm, rd, st, lt, pc⟩ (e.trans ⟨fun a o m q => ?_, W.st _ _ _ (W.st _ _ _ (W.st _ _ _ e5.ok m2) m2) m2⟩) ⟨x, dx, rfl, m2, ?_⟩ z
  · rw [upd_ne (ne_of_none q nx), upd_ne (ne_of_none q nx), upd_ne (ne_of_none q nx)]
    exact e5.keep a o m q
  · rw [upd_same]
    show some (HO.ins _ _ (putF "step" (.int st) (putF "radius" (.int rd) (putF "name" (.str nm) [])))) = _
    rw [gauF_co nm rd st lt pc]
/-- LateGauge(name, radius, late=.., pace=..) -/
theorem ev_lateG {tc td : TE} {k : Gau → Prop} (st : Int) (hB : W.B = B) (hC : B.cl .LateGauge = C) (hT : GauT B) (h : EvK W ta Γ fun nm : Str => EvK W tb Γ fun rd : Int => EvK W tc Γ fun lt : Int => EvK W td Γ fun pc : Int => (gnB nm = true ∧ nm.length ≤ 100000 ∧ 0 ≤ rd ∧ 0 ≤ lt ∧ 0 ≤ pc) ∧ k ⟨.la, nm, rd, st, lt, pc⟩) : EvK W (tMakeK C 2 2 (spTI B) (fun vs zs => vs ++ zs) E (tCons ta (tCons tb tNil)) (tCons tc (tCons td tNil))) Γ k := by
  subst hB
  subst hC
  refine fun σ H Q G c => h σ H _ G fun v H1 nm e1 d1 h1 => h1 σ H1 _ (G.ext e1) fun u H2' rd e2' d2 h2 => h2 σ H2' _ ((G.ext e1).ext e2') fun u3 H3' lt e3' d3 h3 => h3 σ H3' _ (((G.ext e1).ext e2').ext e3') fun u4 H2 pc e4' d4 ⟨⟨hg, hn, hr, hs, hs2⟩, z⟩ => ?_
  have d1' : v = V.str nm := d1
  have d2' : u = V.int rd := d2
  have d3' : u3 = V.int lt := d3
  have d4' : u4 = V.int pc := d4
  subst d1' d2' d3' d4'
  refine ⟨rfl, rfl, ?_⟩
  intro x dx nx ndx nex
  have e := ((e1.trans e2').trans e3').trans e4'
  have m1 := fresh_mu e.ok ndx
  have m2 := fresh_mu e.ok nx
  have ok3 : W.ok (upd (upd H2 dx (.own x)) x (.ins (W.B.cl .LateGauge) dx [])) := W.st _ _ _ (W.st _ _ _ e.ok m1) m2
  have e3 : Ext W H2 (upd (upd H2 dx (.own x)) x (.ins (W.B.cl .LateGauge) dx [])) := ⟨fun a o _ q => by rw [upd_ne (ne_of_none q nx), upd_ne (ne_of_none q ndx)]; exact q, ok3⟩
  refine ⟨W, x, dx, [], .la, nm, rd, lt, pc, rfl, upd_same, rfl, ok3, m2, by decide, hg, hn, hr, hs, hs2, hT, fun H' e4 => ⟨rfl, ?_⟩⟩
  have e5 := e3.trans e4
  refine c (.ref x) _ ⟨.la, nm, rd, st, lt, pc⟩ (e.trans ⟨fun a o m q => ?_, W.st _ _ _ (W.st _ _ _ (W.st _ _ _ (W.st _ _ _ e5.ok m2) m2) m2) m2⟩) ⟨x, dx, rfl, m2, ?_⟩ z
  · rw [upd_ne (ne_of_none q nx), upd_ne (ne_of_none q nx), upd_ne (ne_of_none q nx), upd_ne (ne_of_none q nx)]
    exact e5.keep a o m q
  · rw [upd_same]
    show some (HO.ins _ _ (putF "pace" (.int pc) (putF "late" (.int lt) (putF "radius" (.int rd) (putF "name" (.str nm) []))))) = _
    rw [gauF_la nm rd st lt pc]
/-- LateCoarseGauge(..), gV tells how the keywords as they were written come to their places -/
theorem ev_lcG {k : Gau → Prop} {t tk : TA} {gV : List V → List V → List V} (hB : W.B = B) (hC : B.cl .LateCoarseGauge = C) (hT : GauT B)
    (h : EvA W t Γ fun ts => ∃ (nm : Str) (rd : Int), ts = [T nm, T rd] ∧ EvA W tk Γ fun us => ∃ a b c st lt pc : Int, us = [T a, T b, T c] ∧ (∀ x y q : V, gV [x, y, q] [.int a, .int b, .int c] = [x, y, q, .int st, .int lt, .int pc]) ∧ (gnB nm = true ∧ nm.length ≤ 100000 ∧ 0 ≤ rd ∧ 1 ≤ st ∧ 0 ≤ lt ∧ 0 ≤ pc) ∧ k ⟨.lc, nm, rd, st, lt, pc⟩) : EvK W (tMakeK C 2 3 (spQI B) gV E t tk) Γ k := by
  subst hB
  subst hC
  refine fun σ H Q G cc => h σ H _ G fun vs H1 ts e1 d1 ⟨nm, rd, et, h1⟩ => h1 σ H1 _ (G.ext e1) fun zs H2 us e2 d2 ⟨a, b, c, st, lt, pc, eu, hv, ⟨hg, hn, hr, hs, hl, hp⟩, z⟩ => ?_
  subst et eu
  cases d1 with
  | cons x1 d1 =>
  cases d1 with
  | cons x2 d1 =>
  cases d1
  cases d2 with
  | cons y1 d2 =>
  cases d2 with
  | cons y2 d2 =>
  cases d2 with
  | cons y3 d2 =>
  cases d2
  rw [show _ = V.str nm from x1, show _ = V.int rd from x2, show _ = V.int a from y1, show _ = V.int b from y2, show _ = V.int c from y3]
  refine ⟨rfl, rfl, ?_⟩
  intro x dx nx ndx nex
  rw [hv]
  have e := e1.trans e2
  have m1 := fresh_mu e.ok ndx
  have m2 := fresh_mu e.ok nx
  have ok3 : W.ok (upd (upd H2 dx (.own x)) x (.ins (W.B.cl .LateCoarseGauge) dx [])) := W.st _ _ _ (W.st _ _ _ e.ok m1) m2
  have e3 : Ext W H2 (upd (upd H2 dx (.own x)) x (.ins (W.B.cl .LateCoarseGauge) dx [])) := ⟨fun a o _ q => by rw [upd_ne (ne_of_none q nx), upd_ne (ne_of_none q ndx)]; exact q, ok3⟩
  refine ⟨W, x, dx, nm, rd, st, lt, pc, rfl, upd_same, rfl, ok3, m2, hg, hn, hr, hs, hl, hp, hT, fun H' hk ho hx => ⟨rfl, ?_⟩⟩
  refine cc (.ref x) _ ⟨.lc, nm, rd, st, lt, pc⟩ (e.trans ⟨fun a o m q => ?_, ho⟩) ⟨x, dx, rfl, m2, hx⟩ z
  exact hk a o m (ne_of_none q nx) (e3.keep a o m q)
end
end G
set_option Elab.async false
set_option linter.all false
set_option maxRecDepth 100000
set_option maxHeartbeats 2000000
namespace G
open PySem PySem.Spec PyProof.Rows L2 StX
structure Spc where
  nm : Str
  so : Int
  rd : Int
  gr : Int
  la : Int
  dr : Int
  deriving DecidableEq
def Spc.vs (s : Spc) : List V := [.str s.nm, .int s.so, .int s.rd, .int s.gr, .int s.la, .int s.dr]
instance : Rep Spc :=
  ⟨fun W H v s => ∃ p, v = .ref p ∧ Tq W H p s.vs,
   fun e ⟨p, hv, s⟩ => ⟨p, hv, s.mono e⟩,
   fun D n ⟨p, hv, s⟩ => ⟨p, hv, s.grow D n⟩,
   fun D ⟨p, hv, s⟩ => ⟨p, hv, s.shrink D⟩⟩
section
variable {W : Wd} {Γ : Gam} {ta t1 t2 t3 t4 t5 t6 : TE} {K : PySem.W.Frag}
theorem ev_ixSp0 {k : Str → Prop} (hK : W.B.K = K) (h : EvK W ta Γ fun s : Spc => k s.nm) : EvK W (tOp (rIxT K) ta (tC (.int 0))) Γ k := by
  subst hK
  refine fun σ H Q E c => h σ H _ E fun v H1 a e1 ⟨p, hv, s⟩ q => ?_
  exact ⟨p, _, 0, _, hv, rfl, s.sq, rfl, c _ H1 a.nm e1 rfl q⟩
theorem ev_ixSp {k : Int → Prop} (j : Int) (f : Spc → Int) (hf : ∀ s : Spc, atI s.vs j = some (.int (f s))) (hK : W.B.K = K) (h : EvK W ta Γ fun s : Spc => k (f s)) : EvK W (tOp (rIxT K) ta (tC (.int j))) Γ k := by
  subst hK
  refine fun σ H Q E c => h σ H _ E fun v H1 a e1 ⟨p, hv, s⟩ q => ?_
  exact ⟨p, _, j, _, hv, rfl, s.sq, hf a, c _ H1 (f a) e1 rfl q⟩
theorem ev_ixSp1 {k : Int → Prop} (hK : W.B.K = K) (h : EvK W ta Γ fun s : Spc => k s.so) : EvK W (tOp (rIxT K) ta (tC (.int 1))) Γ k := ev_ixSp 1 Spc.so (fun _ => rfl) hK h
theorem ev_ixSp2 {k : Int → Prop} (hK : W.B.K = K) (h : EvK W ta Γ fun s : Spc => k s.rd) : EvK W (tOp (rIxT K) ta (tC (.int 2))) Γ k := ev_ixSp 2 Spc.rd (fun _ => rfl) hK h
theorem ev_ixSp3 {k : Int → Prop} (hK : W.B.K = K) (h : EvK W ta Γ fun s : Spc => k s.gr) : EvK W (tOp (rIxT K) ta (tC (.int 3))) Γ k := ev_ixSp 3 Spc.gr (fun _ => rfl) hK h
theorem ev_ixSp4 {k : Int → Prop} (hK : W.B.K = K) (h : EvK W ta Γ fun s : Spc => k s.la) : EvK W (tOp (rIxT K) ta (tC (.int 4))) Γ k := ev_ixSp 4 Spc.la (fun _ => rfl) hK h
theorem ev_ixSp5 {k : Int → Prop} (hK : W.B.K = K) (h : EvK W ta Γ fun s : Spc => k s.dr) : EvK W (tOp (rIxT K) ta (tC (.int 5))) Γ k := ev_ixSp 5 Spc.dr (fun _ => rfl) hK h
/-- (name, sort, radius, grain, late, drift) -/
theorem ev_tupSp {k : Spc → Prop} (h : EvK W t1 Γ fun a : Str => EvK W t2 Γ fun b : Int => EvK W t3 Γ fun c : Int => EvK W t4 Γ fun d : Int => EvK W t5 Γ fun e : Int => EvK W t6 Γ fun f : Int => k ⟨a, b, c, d, e, f⟩) :
    EvK W (tTup (tCons t1 (tCons t2 (tCons t3 (tCons t4 (tCons t5 (tCons t6 tNil))))))) Γ k := fun σ H Q E cc =>
  h σ H _ E fun x1 H1 a e1 d1 h1 => h1 σ H1 _ (E.ext e1) fun x2 H2 b e2 d2 h2 => h2 σ H2 _ ((E.ext e1).ext e2) fun x3 H3 c e3 d3 h3 => h3 σ H3 _ (((E.ext e1).ext e2).ext e3) fun x4 H4 d e4 d4 h4 =>
    h4 σ H4 _ ((((E.ext e1).ext e2).ext e3).ext e4) fun x5 H5 e e5 d5 h5 => h5 σ H5 _ (((((E.ext e1).ext e2).ext e3).ext e4).ext e5) fun x6 H6 f e6 d6 z => ⟨by show 6 ≤ sizeLine; decide, fun p hp => by
      have e7 := Ext.new (o := .tup [x1, x2, x3, x4, x5, x6]) e6.ok hp
      refine cc _ _ ⟨a, b, c, d, e, f⟩ ((((((e1.trans e2).trans e3).trans e4).trans e5).trans e6).trans e7) ⟨p, rfl, ?_⟩ z
      rw [show (Spc.vs ⟨a, b, c, d, e, f⟩) = [x1, x2, x3, x4, x5, x6] by
        rw [show x1 = V.str a from d1, show x2 = V.int b from d2, show x3 = V.int c from d3, show x4 = V.int d from d4, show x5 = V.int e from d5, show x6 = V.int f from d6]
        rfl]
      exact Tq.new (fresh_mu e6.ok hp) upd_same⟩
end
end G
namespace G
open PySem PySem.Spec PyProof.Rows L2 StX
/-- int(b), b a bool -/
theorem ev_intB {W : Wd} {Γ : Gam} {te : TE} {k : Int → Prop} (h : EvK W te Γ fun b : Bool => k (if b = true then 1 else 0)) : EvK W (tCB (fun xs H Q => (∃ i, xs = [.int i] ∧ Q (.int i) H) ∨ ∃ k, xs = [.bl k] ∧ Q (.int (if k = true then 1 else 0)) H) (tCons te tNil)) Γ k := fun σ H Q G c =>
  h σ H _ G fun v H1 b e1 d q => .inr ⟨b, congrArg (fun x => [x]) d, c _ H1 _ e1 rfl q⟩
end G
set_option Elab.async false
set_option linter.all false
set_option maxRecDepth 100000
set_option maxHeartbeats 2000000
namespace G
open PySem PySem.Spec PyProof.Rows L2 StX
def rot3 {α : Type} : List α → List α
  | [a, b, c] => [b, c, a]
  | l => l
theorem rot3_vals : ∀ {zs : List V} {ws : List Value}, Vals zs ws → Vals (rot3 zs) (rot3 ws)
  | _, _, .nil => .nil
  | _, _, .cons a .nil => .cons a .nil
  | _, _, .cons a (.cons b .nil) => .cons a (.cons b .nil)
  | _, _, .cons a (.cons b (.cons c .nil)) => .cons b (.cons c (.cons a .nil))
  | _, _, .cons a (.cons b (.cons c (.cons d e))) => .cons a (.cons b (.cons c (.cons d e)))
theorem kbn_mkR {K : PySem.W.Frag} {fd : FuncData} {ps : List Str} {n : Nat} {ks : List Str} (h : ∀ (s : Shared) (us ws : List Value), us.length = n → ws.length = ks.length → BindsTo s fd ⟨us, ks.zip ws⟩ (ps.zip (us ++ rot3 ws))) : KBn K fd ps n ks (fun us ws => us ++ rot3 ws) (fun vs zs => vs ++ rot3 zs) :=
  ⟨fun s us ws _ l1 l2 => h s us ws l1 l2, fun r1 r2 => r1.append (rot3_vals r2)⟩
/-- a def with n positional and then keyword-only parameters, called with these in two orders -/
structure DefKR (K : PySem.W.Frag) (name qual : Str) (st : Stmt) (ps : List Str) (n : Nat) (ks kr : List Str) (f : Addr) : Prop where
  ex : ∃ fd, Fun K name qual st f fd ∧ KBn K fd ps n ks (fun us ws => us ++ ws) (fun vs zs => vs ++ zs) ∧ KBn K fd ps n kr (fun us ws => us ++ rot3 ws) (fun vs zs => vs ++ rot3 zs)
def kdS (n : Int) : GK := if n = 1 then .co else if n = 2 then .la else if n = 3 then .lc else .pl
def gauS (s : Spc) : Gau := ⟨kdS s.so, s.nm, s.rd, s.gr, s.la, s.dr⟩
structure SpcOk (s : Spc) : Prop where
  nm : GoodW s.nm
  so : s.so = 0 ∨ s.so = 1 ∨ s.so = 2 ∨ s.so = 3
  rd : 0 ≤ s.rd ∧ s.rd ≤ 1000000000
  gr : 1 ≤ s.gr ∧ s.gr ≤ 1000000000
  la : 0 ≤ s.la ∧ s.la ≤ 1000
  dr : 0 ≤ s.dr ∧ s.dr ≤ 1000000000
theorem goodW_ok {w : Str} (h : GoodW w) : PyData.strOk w = true := by
  obtain ⟨_, _, h3, _⟩ := h
  unfold PyData.strOk
  rw [← Array.all_toList, List.all_eq_true]
  intro c hc
  have := h3 c hc
  simp
  omega
theorem gauS_ok {s : Spc} (h : SpcOk s) : GauOk (gauS s) := fun _ => ⟨h.la.1, by have := h.la.2; show s.la ≤ 1000000000000; omega⟩
theorem mul_ge0 {a b : Int} (h1 : 0 ≤ a) (h2 : 0 ≤ b) : 0 ≤ a * b := Int.mul_nonneg h1 h2
theorem mul_le2 {a b A B : Int} (h1 : 0 ≤ a) (h2 : 0 ≤ b) (h3 : a ≤ A) (h4 : b ≤ B) : a * b ≤ A * B := Int.mul_le_mul h3 h4 h2 (by omega)
section
variable {W : Wd} {Γ : Gam} {te : TE}
/-- .., for the walk -/
theorem ev_isiGv {K : PySem.W.Frag} {C2 : Addr} {k : Bool → Prop} (hK : W.B.K = K) (h : EvK W te Γ fun g : Gau => ∃ f : GK → Bool, (∀ kd : GK, IsT K (W.B.cl kd.cn)) ∧ (∀ kd : GK, PySem.W.kitOne K (.ref (W.B.cl kd.cn)) (.ref C2) = some (f kd)) ∧ k (f g.k)) :
    EvK W (tCB (rIsi K) (tCons te (tCons (tC (.ref C2)) tNil))) Γ k := by
  subst hK
  refine fun σ H Q E q => h σ H _ E fun v H1 g e1 ⟨p, dp, hv, _, hH⟩ ⟨f, hT, hk, z⟩ => ?_
  subst hv
  exact ⟨.ref p, .ref C2, _, _, _, rfl, .own C2, .base (.ins hH (hT g.k).c (hT g.k).f (hT g.k).s (hT g.k).t (hT g.k).m), hk g.k, q _ H1 _ e1 rfl z⟩
end
end G
set_option Elab.async false
set_option linter.all false
set_option maxRecDepth 100000
set_option maxHeartbeats 2000000
namespace G
open PySem PySem.Spec PyProof.Rows L2 StX
end G
set_option Elab.async false
set_option linter.all false
set_option maxRecDepth 100000
set_option maxHeartbeats 2000000
namespace G
open PySem PySem.Spec PyProof.Rows L2 StX
/-- nothing or one new thing -/
def Nw (H H' : Hp) : Prop := H' = H ∨ ∃ t o, H t = none ∧ H' = upd H t o
theorem Nw.gr {H H' : Hp} (h : Nw H H') {a : Addr} {o : HO} (e : H a = some o) : H' a = some o := by
  rcases h with rfl | ⟨t, u, ht, rfl⟩
  · exact e
  · rw [upd_ne (ne_of_none e ht)]
    exact e
theorem Nw.ext {W : Wd} {H H' : Hp} (h : Nw H H') (o : W.ok H) : Ext W H H' := by
  rcases h with rfl | ⟨t, u, ht, rfl⟩
  · exact Ext.refl o
  · exact Ext.new o ht
theorem Nw.kp {W : Wc} {H H' : Hp} (h : Nw H H') : Kp W H H' := fun _ _ _ e => h.gr e
/-- an iteration over as, begun at H1 -/
structure ItOk {α : Type} [Rep α] (W : Wd) (H1 : Hp) (J : It) (as : List α) : Prop where
  go : ∀ i H', Kp W.toWc H1 H' → i < as.length → J.go i H'
  stop : ∀ H', Kp W.toWc H1 H' → J.stop as.length H'
  yld : ∀ i H' x H'', Kp W.toWc H1 H' → (∀ a, W.mu a → ∃ o, H' a = some o) → i < as.length → J.yld i H' x H'' → ∃ a, as[i]? = some a ∧ Nw H' H'' ∧ den W.toWc H'' x a ∧ ∀ D o, H1 D = none → H' D = some o → den (W.toWc.plus D) H'' x a
def EvI {α : Type} [Rep α] (W : Wd) (wi : TI) (Γ : Gam) (k : List α → Prop) : Prop :=
  ∀ σ H (R : It → Hp → Prop), GOk W H σ Γ → (∀ J H1 (as : List α), Ext W H H1 → ItOk W H1 J as → k as → R J H1) → wi σ H R
section
variable {W : Wd} {Γ : Gam} {ta : TA} {te tl : TE} {tt tt2 : TT} {g g2 : TG} {wi wi2 : TI} {K : PySem.W.Frag}
theorem ei_list {α : Type} {rα : Rep α} {k : List α → Prop} (hK : W.B.K = K) (h : EvK W te Γ fun as : List α => k as) : EvI W (iList K te) Γ k := by
  subst hK
  refine fun σ H R G c => h σ H _ G fun v H1 as e1 ⟨p, xs, hv, hp, hd⟩ z => ⟨p, hv, ⟨xs, hp.sq⟩, c _ H1 as e1 ⟨?_, ?_, ?_⟩ z⟩
  · intro i H' kp hi
    rw [← hd.length] at hi
    exact ⟨xs, xs[i], (hp.mono kp).sq, List.getElem?_eq_getElem hi⟩
  · intro H' kp
    exact ⟨xs, (hp.mono kp).sq, by rw [hd.length]; exact Nat.le_refl _⟩
  · rintro i H' x H'' kp _ hi ⟨rfl, hx⟩
    obtain ⟨a, ea, da⟩ := hd.at (hx xs (hp.mono kp).sq)
    exact ⟨a, ea, .inl rfl, Rep.mono kp da, fun D o nD _ => Rep.mono (W := W.toWc.plus D) (fun b o mb z => kp b o (fun q => mb (.inl q)) z) (Rep.grow D nD da)⟩
theorem ei_rng1 {k : List Int → Prop} (h : EvK W te Γ fun m : Int => (-(2 ^ 62) ≤ m ∧ m < 2 ^ 62) ∧ k ((List.range m.toNat).map fun i : Nat => (i : Int))) : EvI W (iRng1 (tCons te tNil)) Γ k := by
  refine fun σ H R G c => h σ H _ G fun v H1 m e1 hv ⟨⟨b1, b2⟩, z⟩ => ⟨m, congrArg (fun x => [x]) hv, b1, b2, c _ H1 _ e1 ⟨?_, ?_, ?_⟩ z⟩
  · intro i H' kp hi
    rw [List.length_map, List.length_range] at hi
    exact hi
  · intro H' kp
    show m.toNat ≤ _
    rw [List.length_map, List.length_range]
    exact Nat.le_refl _
  · rintro i H' x H'' kp _ hi ⟨rfl, hx⟩
    rw [List.length_map, List.length_range] at hi
    have hx' : x = V.int (i : Nat) := by rw [hx, Int.zero_add]
    exact ⟨(i : Int), by rw [List.getElem?_map, List.getElem?_range hi]; rfl, .inl rfl, hx', fun D o _ _ => hx'⟩
/-- a turn of the outer clause -/
def Lc2TurnG {α β γ : Type} [Rep α] [Rep β] [Rep γ] (W0 W : Wd) (g : TG) (tt : TT) (wi2 : TI) (g2 : TG) (tt2 : TT) (te : TE) (vs vs1 : List Nat) (Γ : Gam) (a : α) (f : List γ) : Prop :=
  ∃ js : List Nat, (js.all fun j => vs.contains j) = true ∧ Tj W js g (wipeE Γ vs) a fun Γ1 => EvT W tt Γ1 fun b => (b = false → f = []) ∧ (b = true → EvI W wi2 Γ1 fun bs : List β => ∃ (p : β → Bool) (h : β → γ), (bs.filter p).map h = f ∧
    ∀ W', Sub W0 W' → ∀ b ∈ bs, ∃ js2 : List Nat, (js2.all fun j => vs1.contains j) = true ∧ Tj W' js2 g2 (wipeE Γ1 vs1) b fun Γ2 => EvT W' tt2 Γ2 fun c => c = p b ∧ (c = true → EvK W' te Γ2 fun y : γ => y = h b))
theorem evF_lc2G {α β γ : Type} {rα : Rep α} {rβ : Rep β} {rγ : Rep γ} {vs vs1 : List Nat} (f : α → List γ) {k : List γ → Prop}
    (h : EvI W wi Γ fun as : List α => ((as.flatMap f).length ≤ 100000) ∧ (∀ W', Sub W W' → ∀ a ∈ as, Lc2TurnG (β := β) W W' g tt wi2 g2 tt2 te vs vs1 Γ a (f a)) ∧ k (as.flatMap f)) :
    EvF W (tLc2 wi g tt wi2 g2 tt2 te vs vs1) Γ k := by
  intro σ H Q G c
  refine h σ H _ G fun J H1 as e1 it ⟨hbig, hs, hk⟩ D n => ?_
  have G1 := G.ext e1
  have nm : ¬ W.mu D := fresh_mu e1.ok n
  have big : ∀ {m : Nat}, m ≤ 100000 → m < sizeLine := fun h => Nat.lt_of_le_of_lt h (by decide)
  let P : List γ → Hp → Prop := fun ys H' => Ext W H1 H' ∧ ∃ us, H' D = some (.lst us) ∧ Dl (den (W.toWc.plus D) H') us ys
  refine turns (J := J) (n := as.length) (fun i H' => P ((as.take i).flatMap f) H') ⟨Ext.new e1.ok n, [], upd_same, .nil⟩ (fun i H' hi ⟨e, _⟩ => it.go i H' e.keep hi) (fun H' ⟨e, _⟩ => it.stop H' e.keep) ?_ ?_
  · rintro i H' x H'' hi ⟨e, ws, hD, hw⟩ hy
    obtain ⟨a, ea, nw, -, dpl⟩ := it.yld i H' x H'' e.keep (fun a m => W.live H' a e.ok m) hi hy
    have da := dpl D _ n hD
    have e2 : Ext W H1 H'' := e.trans (nw.ext e.ok)
    have hD2 : H'' D = some (.lst ws) := nw.gr hD
    have hw2 : Dl (den (W.toWc.plus D) H'') ws ((as.take i).flatMap f) := hw.imp fun _ _ d => Rep.mono (W := W.toWc.plus D) nw.kp d
    have ham : a ∈ as := List.mem_of_getElem? ea
    have htk : (as.take (i + 1)).flatMap f = (as.take i).flatMap f ++ f a := by
      rw [List.take_succ, ea, List.flatMap_append]
      simp
    have hlen : ((as.take (i + 1)).flatMap f).length ≤ 100000 := by
      have e2 : (as.flatMap f).length = ((as.take (i + 1)).flatMap f).length + ((as.drop (i + 1)).flatMap f).length := by
        rw [← List.length_append, ← List.flatMap_append, List.take_append_drop]
      omega
    have kp : Kp (W.toWc.plus D) H1 H'' := fun b o mb z => e2.keep b o (fun z => mb (.inl z)) z
    obtain ⟨js, hjs, tj⟩ := hs _ (Sub.plusO (o := .lst ws) (n := n) (o1 := e1.ok) (w1 := G1.wish)) a ham
    have G2 : GOk (W.plusO D (.lst ws) H1 n e1.ok G1.wish) H'' σ Γ := ⟨⟨e2.ok, hD2⟩, fun b o mb z => e2.keep b o mb z, fun j t hj => by
      obtain ⟨u, h1, h2⟩ := G1.at_ j t hj
      exact ⟨u, h1, Ty.mono kp (t.r.grow D n h2)⟩, G1.len⟩
    refine tj (wipe σ vs) H'' x _ (G2.wipe vs) da fun σ2 Γ2 G3 m2 q2 => ⟨wipe_same m2 (js_in hjs), ?_⟩
    refine q2 σ2 H'' _ G3 fun H3 b e3 ⟨hbf, hbt⟩ => ?_
    have back3 : Ext W H1 H3 := ⟨fun b o mb z => by
      have hne : b ≠ D := fun q => by rw [q, n] at z; cases z
      exact e3.keep b o (fun q => q.elim mb hne) (e2.keep b o mb z), e3.ok.1⟩
    have hD3 : H3 D = some (.lst ws) := e3.ok.2
    have hw3 : Dl (den (W.toWc.plus D) H3) ws ((as.take i).flatMap f) := hw2.imp fun _ _ d => Rep.mono (W := W.toWc.plus D) e3.keep d
    have G3' := G3.ext e3
    cases b with
    | false =>
      show P _ _
      rw [htk, hbf rfl, List.append_nil]
      exact ⟨back3, ws, hD3, hw3⟩
    | true =>
      show wi2 σ2 H3 _
      refine hbt rfl σ2 H3 _ G3' fun J1 H4 bs e4 it2 ⟨p, hf, hmap, turn⟩ => ?_
      have back4 : Ext W H1 H4 := ⟨fun b o mb z => by
        have hne : b ≠ D := fun q => by rw [q, n] at z; cases z
        exact e4.keep b o (fun q => q.elim mb hne) (back3.keep b o mb z), e4.ok.1⟩
      have hD4 : H4 D = some (.lst ws) := e4.ok.2
      have hw4 : Dl (den (W.toWc.plus D) H4) ws ((as.take i).flatMap f) := hw3.imp fun _ _ d => Rep.mono (W := W.toWc.plus D) e4.keep d
      refine turns (J := J1) (n := bs.length) (fun j H' => Kp (W.toWc.plus D) H4 H' ∧ P ((as.take i).flatMap f ++ ((bs.take j).filter p).map hf) H') ⟨fun _ _ _ z => z, back4, ws, hD4, by simpa using hw4⟩ (fun j H' hj ⟨k, _⟩ => it2.go j H' k hj) (fun H' ⟨k, _⟩ => it2.stop H' k) ?_ ?_
      · rintro j H5 y H6 hj ⟨k5, e5, ws5, hD5, hw5⟩ hy2
        obtain ⟨b, eb, nw2, db, -⟩ := it2.yld j H5 y H6 k5 (fun a m => m.elim (fun m => W.live H5 a e5.ok m) fun e => ⟨_, (congrArg H5 e).trans hD5⟩) hj hy2
        have hbm : b ∈ bs := List.mem_of_getElem? eb
        have htk2 : ((bs.take (j + 1)).filter p).map hf = ((bs.take j).filter p).map hf ++ (if p b = true then [hf b] else []) := by
          rw [List.take_succ, eb, List.filter_append, List.map_append]
          congr 1
          cases hpb : p b <;> simp [hpb]
        have hlen5 : ((as.take i).flatMap f ++ ((bs.take j).filter p).map hf).length ≤ 100000 := by
          have h1 : (((bs.take j).filter p).map hf).length ≤ (f a).length := by
            rw [← hmap, List.length_map, List.length_map]
            exact ((List.take_sublist j bs).filter p).length_le
          rw [htk, List.length_append] at hlen
          rw [List.length_append]
          omega
        have e6 : Ext W H1 H6 := e5.trans (nw2.ext e5.ok)
        have hD6 : H6 D = some (.lst ws5) := nw2.gr hD5
        have k6 : Kp (W.toWc.plus D) H4 H6 := fun b o mb z => nw2.kp b o mb (k5 b o mb z)
        have hw6 : Dl (den (W.toWc.plus D) H6) ws5 ((as.take i).flatMap f ++ ((bs.take j).filter p).map hf) := hw5.imp fun _ _ d => Rep.mono (W := W.toWc.plus D) nw2.kp d
        obtain ⟨js2, hjs2, tj2⟩ := turn _ (Sub.plusO (o := .lst ws5) (n := n) (o1 := e1.ok) (w1 := G1.wish)) b hbm
        have G4 := G3'.ext e4
        have G6 : GOk (W.plusO D (.lst ws5) H1 n e1.ok G1.wish) H6 σ2 Γ2 := ⟨⟨e6.ok, hD6⟩, fun b o mb z => e6.keep b o mb z, fun q t hq => by
          obtain ⟨u, h1, h2⟩ := G4.at_ q t hq
          exact ⟨u, h1, Ty.mono (W := W.toWc.plus D) k6 h2⟩, G4.len⟩
        refine tj2 (wipe σ2 vs1) H6 y _ (G6.wipe vs1) db fun σ3 Γ3 G7 m3 q3 => ⟨wipe_same m3 (js_in hjs2), ?_⟩
        refine q3 σ3 H6 _ G7 fun H7 b' e7 ⟨hb, hte⟩ => ?_
        have e7' : Ext W H1 H7 := ⟨fun b o mb z => by
          have hne : b ≠ D := fun q => by rw [q, n] at z; cases z
          exact e7.keep b o (fun q => q.elim mb hne) (e6.keep b o mb z), e7.ok.1⟩
        cases b' with
        | false =>
          show Kp _ _ _ ∧ P _ _
          rw [htk2, if_neg (by rw [← hb]; decide), List.append_nil]
          exact ⟨fun b o mb z => e7.keep b o mb (k6 b o mb z), e7', ws5, e7.ok.2, hw6.imp fun _ _ d => Rep.mono (W := W.toWc.plus D) e7.keep d⟩
        | true =>
          show te σ3 H7 _
          refine hte rfl σ3 H7 _ (G7.ext e7) fun yv H8 c0 e8 hc0 hcb => ⟨ws5, e8.ok.2, big (by rw [hw5.length]; exact hlen5), ?_⟩
          have e8' : Ext W H1 H8 := ⟨fun b o mb z => by
            have hne : b ≠ D := fun q => by rw [q, n] at z; cases z
            exact e8.keep b o (fun q => q.elim mb hne) (e7'.keep b o mb z), e8.ok.1⟩
          have kU : Kp (W.toWc.plus D) H8 (upd H8 D (.lst (ws5 ++ [yv]))) := fun b o mb z => by
            have hne : b ≠ D := fun q => mb (.inr q)
            rw [upd_ne hne]
            exact z
          refine ⟨fun b o mb z => kU b o mb (e8.keep b o mb (e7.keep b o mb (k6 b o mb z))), ⟨fun b o mb z => ?_, W.st _ _ _ e8'.ok nm⟩, ws5 ++ [yv], upd_same, ?_⟩
          · have hne : b ≠ D := fun q => by rw [q, n] at z; cases z
            rw [upd_ne hne]
            exact e8'.keep b o mb z
          · rw [htk2, if_pos hb.symm, ← List.append_assoc]
            refine Dl.append (hw6.imp fun _ _ d => Rep.mono (W := W.toWc.plus D) kU (Rep.mono (W := W.toWc.plus D) e8.keep (Rep.mono (W := W.toWc.plus D) e7.keep d))) (.cons ?_ .nil)
            rw [← hcb]
            exact Rep.mono (W := W.toWc.plus D) kU hc0
      · rintro H' ⟨k', p'⟩
        rw [List.take_length, hmap, ← htk] at p'
        exact p'
  · rintro H' ⟨e, us, hD, hw⟩
    rw [List.take_length] at hw
    exact c D H' us (as.flatMap f) (fresh_back e1.ok e1 n) (e1.trans e) hD hw hk
end
section
variable {W : Wd} {Γ : Gam} {te ta tb : TE} {K : PySem.W.Frag}
/-- data that is not None -/
class NotNon (α : Type) [Rep α] : Prop where
  no : ∀ {W : Wc} {H : Hp} {v : V} {a : α}, den W H v a → v ≠ .non
instance : NotNon Int := ⟨fun h e => by have h : _ = V.int _ := h; rw [h] at e; cases e⟩
instance : NotNon Str := ⟨fun h e => by have h : _ = V.str _ := h; rw [h] at e; cases e⟩
end
section
variable {W : Wd} {Γ : Gam} {ta : TE} {K : PySem.W.Frag}
theorem ev_ixT3a {α β γ : Type} {rα : Rep α} {rβ : Rep β} {rγ : Rep γ} {k : α → Prop} (hK : W.B.K = K) (h : EvK W ta Γ fun p : T3 α β γ => k p.a) : EvK W (tOp (rIxT K) ta (tC (.int 0))) Γ k := by
  subst hK
  refine fun σ H Q E c => h σ H _ E fun v H1 a e1 ⟨p, x, y, z, hv, s, d1, d2, d3⟩ q => ?_
  exact ⟨p, _, 0, x, hv, rfl, s.sq, rfl, c _ H1 _ e1 d1 q⟩
theorem ev_ixT3b {α β γ : Type} {rα : Rep α} {rβ : Rep β} {rγ : Rep γ} {k : β → Prop} (hK : W.B.K = K) (h : EvK W ta Γ fun p : T3 α β γ => k p.b) : EvK W (tOp (rIxT K) ta (tC (.int 1))) Γ k := by
  subst hK
  refine fun σ H Q E c => h σ H _ E fun v H1 a e1 ⟨p, x, y, z, hv, s, d1, d2, d3⟩ q => ?_
  exact ⟨p, _, 1, y, hv, rfl, s.sq, rfl, c _ H1 _ e1 d2 q⟩
end
end G
set_option Elab.async false
set_option linter.all false
set_option maxRecDepth 100000
set_option maxHeartbeats 2000000
namespace G
open PySem PySem.Spec PyProof.Rows L2 StX
structure Dc (β : Type) where
  l : List (Str × β)
inductive Dk {β : Type} (f : V → β → Prop) : List (Key × V) → List (Str × β) → Prop
  | nil : Dk f [] []
  | cons {k : Str} {v : V} {b : β} {r : List (Key × V)} {s : List (Str × β)} : f v b → Dk f r s → Dk f ((.inr k, v) :: r) ((k, b) :: s)
theorem Dk.imp {β : Type} {f g : V → β → Prop} (h : ∀ v b, f v b → g v b) : ∀ {kvs : List (Key × V)} {l : List (Str × β)}, Dk f kvs l → Dk g kvs l
  | _, _, .nil => .nil
  | _, _, .cons a r => .cons (h _ _ a) (r.imp h)
theorem Dk.length {β : Type} {f : V → β → Prop} : ∀ {kvs : List (Key × V)} {l : List (Str × β)}, Dk f kvs l → kvs.length = l.length
  | _, _, .nil => rfl
  | _, _, .cons _ r => congrArg (· + 1) r.length
def getDc {β : Type} (l : List (Str × β)) (k : Str) : Option β := (l.find? fun e => decide (e.1 = k)).map (·.2)
def putDc {β : Type} (l : List (Str × β)) (k : Str) (b : β) : List (Str × β) := if (l.any fun e => decide (e.1 = k)) = true then l.map (fun e => if e.1 = k then (e.1, b) else e) else l ++ [(k, b)]
theorem inr_iff {a k : Str} : ((Sum.inr a : Key) = Sum.inr k) ↔ a = k := ⟨fun h => by injection h, fun h => by rw [h]⟩
theorem Dk.get {β : Type} {f : V → β → Prop} (k : Str) : ∀ {kvs : List (Key × V)} {l : List (Str × β)}, Dk f kvs l → (valV kvs (Sum.inr k : Key) = none ∧ getDc l k = none) ∨ ∃ v b, valV kvs (Sum.inr k : Key) = some v ∧ getDc l k = some b ∧ f v b
  | _, _, .nil => .inl ⟨rfl, rfl⟩
  | _, _, .cons (k := a) (v := v) (b := b) (r := r) (s := s) h t => by
    by_cases e : a = k
    · exact .inr ⟨v, b, valV_pos (p := ((Sum.inr a : Key), v)) (inr_iff.mpr e), by unfold getDc; rw [List.find?_cons_of_pos (by exact decide_eq_true e)]; rfl, h⟩
    · have e1 : valV (((Sum.inr a : Key), v) :: r) (Sum.inr k : Key) = valV r (Sum.inr k : Key) := valV_neg (p := ((Sum.inr a : Key), v)) (fun z => e (inr_iff.mp z))
      have e2 : getDc ((a, b) :: s) k = getDc s k := by unfold getDc; rw [List.find?_cons_of_neg (by rw [decide_eq_true_iff]; exact e)]
      rw [e1, e2]
      exact t.get k
theorem Dk.any {β : Type} {f : V → β → Prop} (k : Str) : ∀ {kvs : List (Key × V)} {l : List (Str × β)}, Dk f kvs l → (kvs.any fun kv => decide (kv.1 = (.inr k : Key))) = l.any fun e => decide (e.1 = k)
  | _, _, .nil => rfl
  | _, _, .cons (k := a) _ t => by
    rw [List.any_cons, List.any_cons, t.any k]
    congr 1
    exact decide_eq_decide.mpr inr_iff
theorem Dk.map {β : Type} {f : V → β → Prop} (k : Str) {v : V} {b : β} (h : f v b) : ∀ {kvs : List (Key × V)} {l : List (Str × β)}, Dk f kvs l → Dk f (kvs.map fun kv => if kv.1 = (.inr k : Key) then (kv.1, v) else kv) (l.map fun e => if e.1 = k then (e.1, b) else e)
  | _, _, .nil => .nil
  | _, _, .cons (k := a) h2 t => by
    rw [List.map_cons, List.map_cons]
    by_cases e : a = k
    · rw [if_pos (inr_iff.mpr e), if_pos e]
      exact .cons h (t.map k h)
    · rw [if_neg (fun z => e (inr_iff.mp z)), if_neg e]
      exact .cons h2 (t.map k h)
theorem Dk.snoc {β : Type} {f : V → β → Prop} {k : Str} {v : V} {b : β} (h : f v b) : ∀ {kvs : List (Key × V)} {l : List (Str × β)}, Dk f kvs l → Dk f (kvs ++ [(.inr k, v)]) (l ++ [(k, b)])
  | _, _, .nil => .cons h .nil
  | _, _, .cons h2 t => .cons h2 (t.snoc h)
theorem Dk.put {β : Type} {f : V → β → Prop} {k : Str} {v : V} {b : β} (h : f v b) {kvs : List (Key × V)} {l : List (Str × β)} (t : Dk f kvs l) : Dk f (putK kvs (.inr k) v) (putDc l k b) := by
  unfold putK putDc
  rw [t.any k]
  split
  · exact t.map k h
  · exact t.snoc h
instance {β : Type} [Rep β] : Rep (Dc β) :=
  ⟨fun W H v d => ∃ p kvs, v = .ref p ∧ (¬ W.mu p ∧ H p = some (.dK kvs)) ∧ Dk (den W H) kvs d.l,
   fun e ⟨p, kvs, hv, hp, h⟩ => ⟨p, kvs, hv, ⟨hp.1, e _ _ hp.1 hp.2⟩, h.imp fun _ _ d => Rep.mono e d⟩,
   fun D n ⟨p, kvs, hv, hp, h⟩ => ⟨p, kvs, hv, ⟨mu_grow n hp.1 hp.2, hp.2⟩, h.imp fun _ _ d => Rep.grow D n d⟩,
   fun D ⟨p, kvs, hv, hp, h⟩ => ⟨p, kvs, hv, ⟨fun z => hp.1 (.inl z), hp.2⟩, h.imp fun _ _ d => Rep.shrink D d⟩⟩
section
variable {W : Wd} {Γ : Gam} {td ty : TE}
theorem dget_ex {β : Type} [Rep β] {W : Wc} {H : Hp} {v : V} {d : Dc β} (k : Str) (h : den W H v d) : ∃ p o, v = .ref p ∧ DGet H p (.str k) o ∧ ((o = none ∧ getDc d.l k = none) ∨ ∃ u b, o = some u ∧ getDc d.l k = some b ∧ den W H u b) := by
  obtain ⟨p, kvs, hv, hp, hd⟩ := h
  refine ⟨p, _, hv, .inl ⟨kvs, .inr k, .inl hp.2, rfl, rfl⟩, ?_⟩
  rcases hd.get k with ⟨e1, e2⟩ | ⟨u, b, e1, e2, e3⟩
  · exact .inl ⟨e1, e2⟩
  · exact .inr ⟨u, b, e1, e2, e3⟩
end
abbrev OwnH := List (Addr × HO)
abbrev keysH (L : OwnH) : List Addr := L.map (·.1)
def Wd.ownH (W : Wd) (F : Hp) (L : OwnH) (oF : W.ok F) (nF : ∀ k ∈ keysH L, F k = none) : Wd where
  toWc := W.toWc.plusL (keysH L)
  ok := fun H => W.ok H ∧ ∀ x ∈ L, H x.1 = some x.2
  live := fun H a ⟨h, e⟩ m => by
    rcases plusL_mu.mp m with m | m
    · exact W.live H a h m
    · obtain ⟨x, hx, rfl⟩ := List.mem_map.mp m
      exact ⟨_, e x hx⟩
  st := fun H p o ⟨h, e⟩ m => ⟨W.st H p o h fun z => m (plusL_mu.mpr (.inl z)), fun x hx => by
    have hne : x.1 ≠ p := fun z => m (plusL_mu.mpr (.inr (by rw [← z]; exact List.mem_map.mpr ⟨x, hx, rfl⟩)))
    rw [upd_ne hne]
    exact e x hx⟩
  wish := fun H => Kp W.toWc F H
  wst := fun H H' k _ w a o m e => k a o (fun z => (plusL_mu.mp z).elim m fun z => by rw [nF a z] at e; cases e) (w a o m e)
  hasbox := fun H b ⟨h, _⟩ hb => W.hasbox H b h (by rw [plusL_box] at hb; exact hb)
  boxset := fun H b c i p s i' p' s' ⟨h, e⟩ hb q h1 h2 => by
    rw [plusL_box] at hb
    refine ⟨W.boxset H b c i p s i' p' s' h hb q h1 h2, fun x hx => ?_⟩
    have z : x.1 ≠ b := fun z => by
      have h3 := nF x.1 (List.mem_map.mpr ⟨x, hx, rfl⟩)
      rw [z] at h3
      exact fresh_mu oF h3 (W.boxmu b hb)
    rw [upd_ne z]
    exact e x hx
  boxmu := fun b hb => plusL_mu.mpr (.inl (W.boxmu b (by rw [plusL_box] at hb; exact hb)))
  oke := fun H H' ⟨h, e⟩ k => ⟨W.oke H H' h k, fun x hx => k _ _ (e x hx)⟩
/-- the world Wo is W with the own lists L kept apart -/
structure OwnHW (W : Wd) (L : OwnH) (Wo : Wd) : Prop where
  B : Wo.B = W.B
  pin : ∀ H, Wo.ok H → ∀ x ∈ L, H x.1 = some x.2
  err : ∀ (E : XK) (x : Xn → Prop), (∀ H', W.ok H' → W.wish H' → XOk W H' E x) → ∀ H', Wo.ok H' → Wo.wish H' → XOk Wo H' E x
  okd : ∀ H, Wo.ok H → W.ok H
section
variable {W : Wd} {F : Hp} {L L' : OwnH} {oF : W.ok F} {nF : ∀ k ∈ keysH L, F k = none}
theorem ownH_ext {H H' : Hp} (o : (W.ownH F L oF nF).ok H) (e : Ext (W.ownH F L oF nF) H H') : Ext W H H' := ⟨fun a u m z => by
  by_cases h : a ∈ keysH L
  · obtain ⟨x, hx, rfl⟩ := List.mem_map.mp h
    have h1 := o.2 x hx
    have h2 := e.ok.2 x hx
    rw [h1] at z
    cases z
    exact h2
  · exact e.keep a u (fun z => (plusL_mu.mp z).elim m h) z, e.ok.1⟩
theorem xdenLH {H : Hp} {d : Option Addr} {fs : List (Str × Fv)} {ks : List Addr} (h : xden (W.toWc.plusL ks) H d fs) : xden W.toWc H d fs :=
  h.imp (fun h => h) fun ⟨dd, vs, h1, h2, h3, h4⟩ => ⟨dd, vs, h1, fun z => h2 (plusL_mu.mpr (.inl z)), h3, h4.imp fun _ _ z => fshrinkL z⟩
theorem ownH_w (wF : W.wish F) : OwnHW W L (W.ownH F L oF nF) := by
  refine ⟨plusL_B, fun H o x hx => o.2 x hx, fun E x h H' o w n d H2 e xd xn => ?_, fun H o => o.1⟩
  have wH : W.wish H' := W.wst F H' w o.1 wF
  have := h H' o.1 wH n d H2 (ownH_ext o e) (xdenLH xd) xn
  have hB : (W.ownH F L oF nF).B = W.B := plusL_B
  rw [hB]
  exact this
end
/-- from L at H to L' at H' -/
def StpH (W : Wd) (L : OwnH) (H : Hp) (L' : OwnH) (H' : Hp) : Prop := Kp (W.toWc.plusL (keysH L)) H H' ∧ ∀ k ∈ keysH L', k ∈ keysH L ∨ H k = none
theorem StpH.refl {W : Wd} {L : OwnH} {H : Hp} : StpH W L H L H := ⟨fun _ _ _ z => z, fun _ h => .inl h⟩
theorem StpH.trans {W : Wd} {L L1 L2 : OwnH} {H H1 H2 : Hp} (o1 : W.ok H1) (a : StpH W L H L1 H1) (b : StpH W L1 H1 L2 H2) : StpH W L H L2 H2 := by
  refine ⟨fun x o m z => b.1 x o (fun q => ?_) (a.1 x o m z), fun k hk => ?_⟩
  · rcases plusL_mu.mp q with q | q
    · exact m (plusL_mu.mpr (.inl q))
    · rcases a.2 x q with q | q
      · exact m (plusL_mu.mpr (.inr q))
      · rw [q] at z; cases z
  · rcases b.2 k hk with h | h
    · exact a.2 k h
    · by_cases hm : k ∈ keysH L
      · exact .inl hm
      · refine .inr ?_
        cases q : H k with
        | none => rfl
        | some u =>
          by_cases hw : W.mu k
          · obtain ⟨o, e⟩ := W.live H1 k o1 hw
            rw [h] at e; cases e
          · rw [a.1 k u (fun z => (plusL_mu.mp z).elim hw hm) q] at h
            cases h
structure PoH where
  nx : OwnH → Gam → Prop
  rt : Ty → Prop
  bk : OwnH → Gam → Prop := fun _ _ => False
  ct : OwnH → Gam → Prop := fun _ _ => False
structure EOkH (W : Wd) (F : Hp) (L : OwnH) (H : Hp) (D : Ends) (R : PoH) : Prop where
  nx : ∀ L' oF nF σ' H' Γ', StpH W L H L' H' → (keysH L').Nodup → GOk (W.ownH F L' oF nF) H' σ' Γ' → R.nx L' Γ' → D.nx σ' H'
  rt : ∀ v H' (t : Ty), Ext W F H' → t.den W H' v → R.rt t → D.rt v H'
  bk : ∀ L' oF nF σ' H' Γ', StpH W L H L' H' → (keysH L').Nodup → GOk (W.ownH F L' oF nF) H' σ' Γ' → R.bk L' Γ' → D.bk σ' H'
  ct : ∀ L' oF nF σ' H' Γ', StpH W L H L' H' → (keysH L').Nodup → GOk (W.ownH F L' oF nF) H' σ' Γ' → R.ct L' Γ' → D.ct σ' H'
theorem EOkH.step {W : Wd} {F : Hp} {L L1 : OwnH} {H H1 : Hp} {D : Ends} {R : PoH} (h : EOkH W F L H D R) (o1 : W.ok H1) (s : StpH W L H L1 H1) : EOkH W F L1 H1 D R :=
  ⟨fun L' oF nF σ' H' Γ' s' => h.nx L' oF nF σ' H' Γ' (s.trans o1 s'), h.rt, fun L' oF nF σ' H' Γ' s' => h.bk L' oF nF σ' H' Γ' (s.trans o1 s'), fun L' oF nF σ' H' Γ' s' => h.ct L' oF nF σ' H' Γ' (s.trans o1 s')⟩
/-- a statement in a def with own lists L; F: the heap ahead of the first of them -/
def SxH (W : Wd) (F : Hp) (t : TS) (L : OwnH) (Γ : Gam) (R : PoH) : Prop :=
  ∀ D σ H oF nF, W.wish F → (keysH L).Nodup → GOk (W.ownH F L oF nF) H σ Γ → EOkH W F L H D R → t D σ H
theorem ownH_gok_nil {W : Wd} {F H : Hp} {σ : L2.St} {Γ : Gam} {oF : W.ok F} {nF : ∀ k ∈ keysH [], F k = none} (k : Kp W.toWc F H) (G : GOk W H σ Γ) : GOk (W.ownH F [] oF nF) H σ Γ := ⟨⟨G.ok, fun _ h => nomatch h⟩, k, G.at_, G.len⟩
theorem ownH_gok_out {W : Wd} {F H : Hp} {L : OwnH} {σ : L2.St} {Γ : Gam} {oF : W.ok F} {nF : ∀ k ∈ keysH L, F k = none} (wF : W.wish F) (G : GOk (W.ownH F L oF nF) H σ Γ) : GOk W H σ Γ :=
  ⟨G.ok.1, W.wst F H G.wish G.ok.1 wF, fun i t h => let ⟨v, h1, h2⟩ := G.at_ i t h; ⟨v, h1, shrinkL h2⟩, G.len⟩
theorem ownH_stp {W : Wd} {F H H' : Hp} {L : OwnH} {oF : W.ok F} {nF : ∀ k ∈ keysH L, F k = none} (e : Ext (W.ownH F L oF nF) H H') : StpH W L H L H' := ⟨e.keep, fun _ h => .inl h⟩
section
variable {W : Wd} {F : Hp} {L : OwnH} {Γ : Gam} {ta tb te : TE} {tt : TT} {t u : TS} {R : PoH} {g : TG}
/-- into the part with own lists -/
theorem sx_ownH {R : Po} (h : ∀ F, SxH W F t [] Γ { nx := fun _ => R.nx, rt := R.rt, bk := fun _ => R.bk, ct := fun _ => R.ct }) : Sx W t Γ R := fun D σ H G O =>
  h H D σ H G.ok (fun _ z => nomatch z) G.wish .nil (ownH_gok_nil (fun _ _ _ z => z) G)
    ⟨fun L' oF nF σ' H' Γ' s _ G' q => O.nx σ' H' Γ' ⟨G'.wish, G'.ok.1⟩ (ownH_gok_out G.wish G') q, fun v H' t e d q => O.rt v H' t e d q,
     fun L' oF nF σ' H' Γ' s _ G' q => O.bk σ' H' Γ' ⟨G'.wish, G'.ok.1⟩ (ownH_gok_out G.wish G') q, fun L' oF nF σ' H' Γ' s _ G' q => O.ct σ' H' Γ' ⟨G'.wish, G'.ok.1⟩ (ownH_gok_out G.wish G') q⟩
theorem eokH_un {D : Ends} {H : Hp} {oF : W.ok F} {nF : ∀ k ∈ keysH L, F k = none} (nd : (keysH L).Nodup) (O : EOkH W F L H D R) (wk : Kp W.toWc F H) (o : (W.ownH F L oF nF).ok H) : EOk (W.ownH F L oF nF) H D { nx := R.nx L, rt := R.rt, bk := R.bk L, ct := R.ct L } :=
  ⟨fun σ' H' Γ' e G q => O.nx L oF nF σ' H' Γ' (ownH_stp e) nd G q, fun v H' t e d q => O.rt v H' t (Ext.trans (W := W) ⟨wk, o.1⟩ (ownH_ext o e)) (shrinkL d) q,
   fun σ' H' Γ' e G q => O.bk L oF nF σ' H' Γ' (ownH_stp e) nd G q, fun σ' H' Γ' e G q => O.ct L oF nF σ' H' Γ' (ownH_stp e) nd G q⟩
/-- a statement that leaves the own lists -/
theorem sxh_pure (h : ∀ Wo, OwnHW W L Wo → Sx Wo t Γ { nx := R.nx L, rt := R.rt, bk := R.bk L, ct := R.ct L }) : SxH W F t L Γ R := fun D σ H oF nF wF nd G O =>
  h _ (ownH_w wF) D σ H G (eokH_un nd O G.wish G.ok)
theorem sxh_seq (h : SxH W F t L Γ { R with nx := fun L' Γ' => SxH W F u L' Γ' R }) : SxH W F (tSeq t u) L Γ R := fun D σ H oF nF wF nd G O =>
  h _ σ H oF nF wF nd G ⟨fun L' oF nF σ' H' Γ' s nd' G' q => q D σ' H' oF nF wF nd' G' (O.step G'.ok.1 s), O.rt, O.bk, O.ct⟩
theorem SxH.imp {R' : PoH} (h : SxH W F t L Γ R') (n : ∀ L Γ', R'.nx L Γ' → R.nx L Γ') (r : ∀ v, R'.rt v → R.rt v) (b : ∀ L Γ', R'.bk L Γ' → R.bk L Γ') (c : ∀ L Γ', R'.ct L Γ' → R.ct L Γ') : SxH W F t L Γ R := fun D σ H oF nF wF nd G O =>
  h D σ H oF nF wF nd G ⟨fun L' oF nF σ' H' Γ' s nd' G' q => O.nx L' oF nF σ' H' Γ' s nd' G' (n _ _ q), fun v H' t e d q => O.rt v H' t e d (r _ q), fun L' oF nF σ' H' Γ' s nd' G' q => O.bk L' oF nF σ' H' Γ' s nd' G' (b _ _ q), fun L' oF nF σ' H' Γ' s nd' G' q => O.ct L' oF nF σ' H' Γ' s nd' G' (c _ _ q)⟩
theorem sxh_next (q : R.nx L Γ) : SxH W F tNext L Γ R := sxh_pure fun Wo _ => sx_next q
theorem fresh_FH {H : Hp} {p : Addr} (oH : W.ok H) (wk : Kp W.toWc F H) (n : H p = none) : F p = none := by
  cases q : F p with
  | none => rfl
  | some u =>
    rw [wk p u (fresh_mu oH n) q] at n
    cases n
/-- an own dict -/
structure Od (β : Type) where
  p : Addr
  kvs : List (Key × V)
  ds : List (Str × β)
instance {β : Type} [Rep β] : Rep (Od β) :=
  ⟨fun W H v a => v = .ref a.p ∧ Dk (den W H) a.kvs a.ds, fun e h => ⟨h.1, h.2.imp fun _ _ d => Rep.mono e d⟩, fun D n h => ⟨h.1, h.2.imp fun _ _ d => Rep.grow D n d⟩, fun D h => ⟨h.1, h.2.imp fun _ _ d => Rep.shrink D d⟩⟩
theorem keysH_set {k : Nat} {p : Addr} {o o' : HO} (h : L[k]? = some (p, o)) : keysH (L.set k (p, o')) = keysH L := by
  refine List.ext_getElem? fun i => ?_
  rw [List.getElem?_map, List.getElem?_map, List.getElem?_set]
  by_cases e : k = i
  · subst e
    rw [if_pos rfl]
    have hl : k < L.length := (List.getElem?_eq_some_iff.mp h).1
    rw [if_pos hl, h]
    rfl
  · rw [if_neg e]
/-- an own thing changes at its place -/
theorem ownH_put {H : Hp} {σ : L2.St} {D : Ends} {oF : W.ok F} {nF : ∀ k ∈ keysH L, F k = none} {k i : Nat} {p : Addr} {o o' : HO} {v0 : V} (t : Ty) (nd : (keysH L).Nodup) (G : GOk (W.ownH F L oF nF) H σ Γ) (O : EOkH W F L H D R)
    (hk : L[k]? = some (p, o)) (hi : σ[i]? = some (some v0)) (hb : Kp (W.toWc.plusL (keysH L)) H (upd H p o') → t.den (W.toWc.plusL (keysH L)) (upd H p o') v0) (q : R.nx (L.set k (p, o')) (Γ.set i (some t))) : D.nx σ (upd H p o') := by
  have hks : keysH (L.set k (p, o')) = keysH L := keysH_set hk
  have hmem : p ∈ keysH L := List.mem_map.mpr ⟨_, List.mem_of_getElem? hk, rfl⟩
  have kp : Kp (W.toWc.plusL (keysH L)) H (upd H p o') := fun b u m z => by
    have hne : b ≠ p := fun e => m (plusL_mu.mpr (.inr (by rw [e]; exact hmem)))
    rw [upd_ne hne]
    exact z
  have nF' : ∀ k' ∈ keysH (L.set k (p, o')), F k' = none := fun k' h => nF k' (by rw [hks] at h; exact h)
  have nmu : ¬ W.mu p := fresh_mu oF (nF p hmem)
  have s : StpH W L H (L.set k (p, o')) (upd H p o') := ⟨kp, fun k' h => .inl (by rw [hks] at h; exact h)⟩
  have hl : k < L.length := (List.getElem?_eq_some_iff.mp hk).1
  have G2 : GOk (W.ownH F (L.set k (p, o')) oF nF') (upd H p o') σ (Γ.set i (some t)) := by
    refine ⟨⟨W.st _ _ _ G.ok.1 nmu, fun x hx => ?_⟩, fun a u m z => ?_, fun j t' ht => ?_, by rw [List.length_set]; exact G.len⟩
    · obtain ⟨j, hj⟩ := List.getElem?_of_mem hx
      rw [List.getElem?_set] at hj
      by_cases e : k = j
      · rw [if_pos e, if_pos hl] at hj
        cases hj
        exact upd_same
      · rw [if_neg e] at hj
        have hne : x.1 ≠ p := fun z => by
          have h1 : (keysH L)[j]? = some p := by rw [List.getElem?_map, hj, ← z]; rfl
          have h2 : (keysH L)[k]? = some p := by rw [List.getElem?_map, hk]; rfl
          exact e ((List.getElem?_inj (by rw [List.length_map]; exact hl) nd).mp (h2.trans h1.symm))
        rw [upd_ne hne]
        exact G.ok.2 x (List.mem_of_getElem? hj)
    · have hne : a ≠ p := fun e => by rw [e, nF p hmem] at z; cases z
      rw [upd_ne hne]
      exact G.wish a u m z
    · show ∃ v, σ[j]? = some (some v) ∧ t'.den (W.toWc.plusL (keysH (L.set k (p, o')))) _ v
      rw [hks]
      by_cases e : i = j
      · subst e
        have hl2 : i < Γ.length := by
          have := (List.getElem?_eq_some_iff.mp hi).1
          rw [G.len] at this
          exact this
        rw [List.getElem?_set_self hl2] at ht
        cases ht
        exact ⟨_, hi, hb kp⟩
      · rw [List.getElem?_set_ne e] at ht
        obtain ⟨v, h1, h2⟩ := G.at_ j t' ht
        exact ⟨v, h1, Ty.mono kp h2⟩
  exact O.nx _ oF nF' σ _ _ s (by rw [hks]; exact nd) G2 q
/-- x = a new thing, from now on an own one -/
theorem newH {H H1 : Hp} {σ : L2.St} {D : Ends} {oF : W.ok F} {nF : ∀ k ∈ keysH L, F k = none} {i : Nat} {p : Addr} {o : HO} (t : Ty) (nd : (keysH L).Nodup) (G : GOk (W.ownH F L oF nF) H σ Γ) (O : EOkH W F L H D R)
    (n : H p = none) (e : Ext (W.ownH F L oF nF) H H1) (hp : H1 p = some o) (ht : t.den (W.toWc.plusL (keysH ((p, o) :: L))) H1 (.ref p)) (q : R.nx ((p, o) :: L) (Γ.set i (some t))) : D.nx (σ.set i (some (.ref p))) H1 := by
  have nFp : F p = none := fresh_FH G.ok.1 G.wish n
  have hpk : p ∉ keysH L := fun hk => by
    obtain ⟨x, hx, e1⟩ := List.mem_map.mp hk
    have := G.ok.2 x hx
    rw [e1, n] at this
    cases this
  have nF' : ∀ k ∈ keysH ((p, o) :: L), F k = none := fun k hk => by
    rcases List.mem_cons.mp hk with rfl | hk
    · exact nFp
    · exact nF k hk
  have s : StpH W L H ((p, o) :: L) H1 := ⟨e.keep, fun k hk => by
    rcases List.mem_cons.mp hk with rfl | hk
    · exact .inr n
    · exact .inl hk⟩
  have G1 := G.ext e
  have kp : Kp ((W.toWc.plusL (keysH L)).plus p) H H1 := fun b u m z => e.keep b u (fun z => m (.inl z)) z
  have G2 : GOk (W.ownH F ((p, o) :: L) oF nF') H1 σ Γ := ⟨⟨G1.ok.1, fun x hx => by
    rcases List.mem_cons.mp hx with rfl | hx
    · exact hp
    · exact G1.ok.2 x hx⟩, G1.wish, fun j t ht => by
      obtain ⟨v, h1, h2⟩ := G.at_ j t ht
      exact ⟨v, h1, Ty.mono kp (t.r.grow p n h2)⟩, G.len⟩
  exact O.nx _ oF nF' _ H1 _ s (List.nodup_cons.mpr ⟨hpk, nd⟩) (G2.set i (t := t) ht) q
theorem sxh_newL {β : Type} {rβ : Rep β} {i : Nat} (h : ∀ Wo, OwnHW W L Wo → EvF Wo te Γ fun bs : List β => ∀ p vs, R.nx ((p, .lst vs) :: L) (Γ.set i (some (T (Ol.mk p vs bs))))) : SxH W F (tAsg te (gName i)) L Γ R := fun D σ H oF nF wF nd G O =>
  h _ (ownH_w wF) σ H _ G fun p H1 vs bs n e hp hb q => newH (T (Ol.mk p vs bs)) nd G O n e hp ⟨rfl, hb⟩ (q p vs)
/-- for x in a list, with own lists -/
theorem sxh_forL {α : Type} {rα : Rep α} {K : PySem.W.Frag} (hK : W.B.K = K) (h : ∀ Wo, OwnHW W L Wo → EvK Wo te Γ fun as : List α => ∃ I : Nat → OwnH → Gam → Prop, I 0 L Γ ∧
      (∀ i L' Γ', I i L' Γ' → keysH L' = keysH L) ∧
      (∀ (i : Nat) (a : α) L' Γ', as[i]? = some a → I i L' Γ' → ∀ Wo', OwnHW W L' Wo' → Tg Wo' g Γ' a fun Γ1 => SxH W F t L' Γ1 { R with nx := I (i + 1), ct := I (i + 1), bk := R.nx }) ∧ ∀ L' Γ', I as.length L' Γ' → R.nx L' Γ') : SxH W F (tFor (iList K te) g t) L Γ R := by
  subst hK
  refine fun D σ H oF nF wF nd G O => h _ (ownH_w wF) σ H _ G fun v H1 as e1 ⟨p, vs, hv, hp, hd⟩ ⟨I, h0, hI, hs, hl⟩ => ?_
  have hB : (W.ownH F L oF nF).B.K = W.B.K := congrArg Bs.K plusL_B
  have G1 := G.ext e1
  have O1 := O.step G1.ok.1 (ownH_stp e1)
  have sq : ∀ H', Kp (W.toWc.plusL (keysH L)) H1 H' → SqL W.B.K H' p vs := fun H' kk => .inl (.inl (kk _ _ hp.1 hp.2))
  refine ⟨p, hv, ⟨vs, sq H1 fun _ _ _ z => z⟩, for_list (K := W.B.K) (a := p) (xs := vs) (fun i σ' H' => ∃ L' oF nF Γ', StpH W L H1 L' H' ∧ (keysH L').Nodup ∧ GOk (W.ownH F L' oF nF) H' σ' Γ' ∧ I i L' Γ') ⟨L, oF, nF, Γ, .refl, nd, G1, h0⟩ (fun i σ' H' _ ⟨L', _, _, Γ', s, _⟩ => sq H' s.1) ?_ ?_⟩
  · rintro i x σ' H' hx ⟨L', oF', nF', Γ', s, nd', G', q⟩
    obtain ⟨a, ha, da⟩ := (hd.imp fun _ _ d => Rep.mono s.1 d).at hx
    obtain ⟨js, hj⟩ := hs i a L' Γ' ha q _ (ownH_w (oF := oF') (nF := nF') wF)
    have da' : den (W.ownH F L' oF' nF').toWc H' x a := by
      show den (W.toWc.plusL (keysH L')) H' x a
      rw [hI i L' Γ' q]
      exact da
    refine hj σ' H' x _ G' da' fun σ2 Γ2 G2 _ q2 => ?_
    exact q2 _ σ2 H' oF' nF' wF nd' G2 ⟨fun L3 oF3 nF3 σ3 H3 Γ3 s3 nd3 G3 q3 => ⟨L3, oF3, nF3, Γ3, s.trans G'.ok.1 s3, nd3, G3, q3⟩, fun v3 H3 t3 e3 d3 q3 => O.rt v3 H3 t3 e3 d3 q3,
      fun L3 oF3 nF3 σ3 H3 Γ3 s3 nd3 G3 q3 => O1.nx L3 oF3 nF3 σ3 H3 Γ3 (s.trans G'.ok.1 s3) nd3 G3 q3, fun L3 oF3 nF3 σ3 H3 Γ3 s3 nd3 G3 q3 => ⟨L3, oF3, nF3, Γ3, s.trans G'.ok.1 s3, nd3, G3, q3⟩⟩
  · rintro σ' H' ⟨L', oF', nF', Γ', s, nd', G', q⟩
    rw [hd.length] at q
    exact O1.nx L' oF' nF' σ' H' Γ' s nd' G' (hl L' Γ' q)
/-- xs.append(e), xs an own list -/
theorem sxh_append {α : Type} {rα : Rep α} {K : PySem.W.Frag} {i : Nat} (k : Nat) {p : Addr} {vs : List V} {as : List α} (hk : L[k]? = some (p, .lst vs)) (hi : Γ[i]? = some (some (T (Ol.mk p vs as))))
    (h : ∀ Wo, OwnHW W L Wo → EvK Wo te Γ fun a : α => as.length < 100000 ∧ ∀ v, R.nx (L.set k (p, .lst (vs ++ [v]))) (Γ.set i (some (T (Ol.mk p (vs ++ [v]) (as ++ [a])))))) : SxH W F (tDrop (tBM K "list" rAppend (tVar i) (tCons te tNil))) L Γ R := fun D σ H oF nF wF nd G O => by
  obtain ⟨h1, h2⟩ := ol_at G hi
  refine ⟨_, h1, .inl ⟨rfl, _, .inl (.inl (G.ok.2 _ (List.mem_of_getElem? hk)))⟩, ?_⟩
  refine h _ (ownH_w wF) σ H _ G fun v H1 a e1 d ⟨hl, q⟩ => ?_
  have G1 := G.ext e1
  refine ⟨p, vs, v, rfl, rfl, G1.ok.2 _ (List.mem_of_getElem? hk), Nat.lt_of_lt_of_le (by rw [h2.length]; exact hl) (by decide : 100000 ≤ sizeLine), ?_⟩
  exact ownH_put (T (Ol.mk p (vs ++ [v]) (as ++ [a]))) nd G1 (O.step G1.ok.1 (ownH_stp e1)) hk h1 (fun kp => ⟨rfl, (Dl.append (h2.imp fun _ _ d => Rep.mono e1.keep d) (.cons d .nil)).imp fun _ _ d => Rep.mono kp d⟩) (q v)
structure Fd (α : Type) where
  n : Str
  a : α
/-- the fields of an object; the last one that was set stands first -/
class FRep (β : Type) where
  fd : Wc → Hp → List (Str × V) → β → Prop
  mono : ∀ {W : Wc} {H H' : Hp} {fs : List (Str × V)} {b : β}, Kp W H H' → fd W H fs b → fd W H' fs b
  grow : ∀ {W : Wc} {H : Hp} {fs : List (Str × V)} {b : β} (D : Addr), H D = none → fd W H fs b → fd (W.plus D) H fs b
  shrink : ∀ {W : Wc} {H : Hp} {fs : List (Str × V)} {b : β} (D : Addr), fd (W.plus D) H fs b → fd W H fs b
  nms : β → List Str
  nm : ∀ {W : Wc} {H : Hp} {fs : List (Str × V)} {b : β}, fd W H fs b → fs.map (·.1) = nms b
instance frepU : FRep Unit := ⟨fun _ _ fs _ => fs = [], fun _ h => h, fun _ _ h => h, fun _ h => h, fun _ => [], fun h => by rw [h]; rfl⟩
instance frepP {α β : Type} [Rep α] [FRep β] : FRep (Fd α × β) :=
  ⟨fun W H fs b => ∃ v r, fs = r ++ [(b.1.n, v)] ∧ den W H v b.1.a ∧ FRep.fd W H r b.2,
   fun e ⟨v, r, h1, h2, h3⟩ => ⟨v, r, h1, Rep.mono e h2, FRep.mono e h3⟩,
   fun D n ⟨v, r, h1, h2, h3⟩ => ⟨v, r, h1, Rep.grow D n h2, FRep.grow D n h3⟩,
   fun D ⟨v, r, h1, h2, h3⟩ => ⟨v, r, h1, Rep.shrink D h2, FRep.shrink D h3⟩,
   fun b => FRep.nms b.2 ++ [b.1.n],
   fun ⟨v, r, h1, h2, h3⟩ => by rw [h1, List.map_append, FRep.nm h3]; rfl⟩
structure Oi (β : Type) where
  p : Addr
  c : Cn
  dx : Addr
  fs : List (Str × V)
  b : β
instance {β : Type} [FRep β] : Rep (Oi β) :=
  ⟨fun W H v o => v = .ref o.p ∧ FRep.fd W H o.fs o.b, fun e h => ⟨h.1, FRep.mono e h.2⟩, fun D n h => ⟨h.1, FRep.grow D n h.2⟩, fun D h => ⟨h.1, FRep.shrink D h.2⟩⟩
theorem fshrinkO {β : Type} [FRep β] {W : Wc} {H : Hp} {fs : List (Str × V)} {b : β} : ∀ {ks : List Addr}, FRep.fd (W.plusL ks) H fs b → FRep.fd W H fs b
  | [], h => h
  | k :: ks, h => fshrinkO (ks := ks) (FRep.shrink k h)
inductive FrzH (B : Bs) (L : OwnH) : Gam → Gam → Prop
  | nil : FrzH B L [] []
  | ownI {β : Type} {fβ : FRep β} {α : Type} {rα : Rep α} {o : Oi β} {a : α} {Γ Γ' : Gam} : (o.p, .ins (B.cl o.c) o.dx o.fs) ∈ L → (∀ (W : Wc) (H : Hp), W.B = B → ¬ W.mu o.p → H o.p = some (.ins (B.cl o.c) o.dx o.fs) → FRep.fd W H o.fs o.b → den W H (.ref o.p) a) → FrzH B L Γ Γ' → FrzH B L (some (T o) :: Γ) (some (T a) :: Γ')
  | ownJ {β : Type} {fβ : FRep β} {α : Type} {rα : Rep α} {o : Oi β} {a : α} {Γ Γ' : Gam} : (∀ (W : Wc) (H : Hp), W.B = B → (∀ x ∈ L, ¬ W.mu x.1 ∧ H x.1 = some x.2) → FRep.fd W H o.fs o.b → den W H (.ref o.p) a) → FrzH B L Γ Γ' → FrzH B L (some (T o) :: Γ) (some (T a) :: Γ')
  | ownL {α : Type} {rα : Rep α} {p : Addr} {vs : List V} {as : List α} {Γ Γ' : Gam} : (p, .lst vs) ∈ L → FrzH B L Γ Γ' → FrzH B L (some (T (Ol.mk p vs as)) :: Γ) (some (T as) :: Γ')
  | ownD {β : Type} {rβ : Rep β} {p : Addr} {kvs : List (Key × V)} {ds : List (Str × β)} {Γ Γ' : Gam} : (p, .dK kvs) ∈ L → FrzH B L Γ Γ' → FrzH B L (some (T (Od.mk p kvs ds)) :: Γ) (some (T (Dc.mk ds)) :: Γ')
  | same {t : Option Ty} {Γ Γ' : Gam} : FrzH B L Γ Γ' → FrzH B L (t :: Γ) (t :: Γ')
theorem FrzH.len {B : Bs} {Γ Γ' : Gam} (h : FrzH B L Γ Γ') : Γ.length = Γ'.length := by
  induction h with
  | nil => rfl
  | ownI _ _ _ ih => exact congrArg (· + 1) ih
  | ownJ _ _ ih => exact congrArg (· + 1) ih
  | ownL _ _ ih => exact congrArg (· + 1) ih
  | ownD _ _ ih => exact congrArg (· + 1) ih
  | same _ ih => exact congrArg (· + 1) ih
theorem frzH_slots {B : Bs} {H : Hp} {Γ Γ' : Gam} (hB : W.B = B) (nm : ∀ k ∈ keysH L, ¬ W.mu k) (pin : ∀ x ∈ L, H x.1 = some x.2) (f : FrzH B L Γ Γ') : ∀ (i : Nat) (t : Ty), Γ'[i]? = some (some t) → (∀ u v, Γ[i]? = some (some u) → u.den (W.toWc.plusL (keysH L)) H v → t.den W.toWc H v) ∧ ∃ u, Γ[i]? = some (some u) := by
  induction f with
  | nil => intro i t h; simp at h
  | @ownI β fβ α rα o a Γ Γ' hm hd _ ih =>
    intro i t h
    cases i with
    | zero =>
      have h' : some (some (T a)) = some (some t) := by simpa using h
      cases h'
      refine ⟨fun u v hu hd2 => ?_, _, rfl⟩
      have hu' : some (some (T o)) = some (some u) := by simpa using hu
      cases hu'
      obtain ⟨hv, hb⟩ := hd2
      subst hv
      exact hd W.toWc H hB (nm o.p (List.mem_map.mpr ⟨_, hm, rfl⟩)) (pin _ hm) (fshrinkO hb)
    | succ i => exact ih i t (by simpa using h)
  | @ownJ β fβ α rα o a Γ Γ' hd _ ih =>
    intro i t h
    cases i with
    | zero =>
      have h' : some (some (T a)) = some (some t) := by simpa using h
      cases h'
      refine ⟨fun u v hu hd2 => ?_, _, rfl⟩
      have hu' : some (some (T o)) = some (some u) := by simpa using hu
      cases hu'
      obtain ⟨hv, hb⟩ := hd2
      subst hv
      exact hd W.toWc H hB (fun x hx => ⟨nm x.1 (List.mem_map.mpr ⟨x, hx, rfl⟩), pin x hx⟩) (fshrinkO hb)
    | succ i => exact ih i t (by simpa using h)
  | @ownL α rα p vs as Γ Γ' hm _ ih =>
    intro i t h
    cases i with
    | zero =>
      have h' : some (some (T as)) = some (some t) := by simpa using h
      cases h'
      refine ⟨fun u v hu hd => ?_, _, rfl⟩
      have hu' : some (some (T (Ol.mk p vs as))) = some (some u) := by simpa using hu
      cases hu'
      obtain ⟨hv, hb⟩ := hd
      exact ⟨p, vs, hv, ⟨nm p (List.mem_map.mpr ⟨_, hm, rfl⟩), pin _ hm⟩, hb.imp fun _ _ d => shrinkL (t := T _) d⟩
    | succ i => exact ih i t (by simpa using h)
  | @ownD β rβ p kvs ds Γ Γ' hm _ ih =>
    intro i t h
    cases i with
    | zero =>
      have h' : some (some (T (Dc.mk ds))) = some (some t) := by simpa using h
      cases h'
      refine ⟨fun u v hu hd => ?_, _, rfl⟩
      have hu' : some (some (T (Od.mk p kvs ds))) = some (some u) := by simpa using hu
      cases hu'
      obtain ⟨hv, hb⟩ := hd
      exact ⟨p, kvs, hv, ⟨nm p (List.mem_map.mpr ⟨_, hm, rfl⟩), pin _ hm⟩, hb.imp fun _ _ d => shrinkL (t := T _) d⟩
    | succ i => exact ih i t (by simpa using h)
  | @same t0 Γ Γ' _ ih =>
    intro i t h
    cases i with
    | zero =>
      have h' : some t0 = some (some t) := by simpa using h
      cases h'
      refine ⟨fun u v hu hd => ?_, _, rfl⟩
      have hu' : some (some t) = some (some u) := by simpa using hu
      cases hu'
      exact shrinkL hd
    | succ i => exact ih i t (by simpa using h)
theorem sxh_freeze {t : TS} {Γ' : Gam} (f : FrzH W.B L Γ Γ') (h : SxH W F t [] Γ' R) : SxH W F t L Γ R := fun D σ H oF nF wF nd G O => by
  have nm : ∀ k ∈ keysH L, ¬ W.mu k := fun k hk => fresh_mu oF (nF k hk)
  have G' : GOk (W.ownH F [] oF fun _ z => nomatch z) H σ Γ' := ⟨⟨G.ok.1, fun _ z => nomatch z⟩, G.wish, fun i t ht => by
    obtain ⟨h1, u, hu⟩ := frzH_slots rfl nm G.ok.2 f i t ht
    obtain ⟨v, h2, h3⟩ := G.at_ i u hu
    exact ⟨v, h2, h1 u v hu h3⟩, G.len.trans f.len⟩
  refine h D σ H oF (fun _ z => nomatch z) wF .nil G' ⟨fun L' oF' nF' σ' H' Γ2 s nd' G2 q => O.nx L' oF' nF' σ' H' Γ2 ?_ nd' G2 q, O.rt, fun L' oF' nF' σ' H' Γ2 s nd' G2 q => O.bk L' oF' nF' σ' H' Γ2 ?_ nd' G2 q, fun L' oF' nF' σ' H' Γ2 s nd' G2 q => O.ct L' oF' nF' σ' H' Γ2 ?_ nd' G2 q⟩ <;>
  exact ⟨fun a o m z => s.1 a o (fun q => m (plusL_mu.mpr (.inl q))) z, fun k hk => .inr ((s.2 k hk).resolve_left fun z => nomatch z)⟩
end
theorem huX {k : Nat} {A : Around} (h : Room k A) : A.units + 1 < cLine := by
  have := h.units
  omega
end G
set_option Elab.async false
set_option linter.all false
set_option maxRecDepth 100000
set_option maxHeartbeats 2000000
namespace G
open PySem PySem.Spec PyProof.Rows L2 StX
theorem putF_new {f : Str} {v : V} : ∀ {fs : List (Str × V)}, f ∉ fs.map (·.1) → putF f v fs = fs ++ [(f, v)]
  | [], _ => rfl
  | (g, x) :: r, h => by
    have h1 : ¬ g = f := fun e => h (by rw [← e]; exact List.mem_cons_self)
    show (if g = f then (g, v) :: r else (g, x) :: putF f v r) = _
    rw [if_neg h1, putF_new (fs := r) fun e => h (List.mem_cons_of_mem _ e)]
    rfl
theorem look_last {f : Str} {v : V} : ∀ {fs : List (Str × V)}, f ∉ fs.map (·.1) → (fs ++ [(f, v)]).lookup f = some v
  | [], _ => by simp [List.lookup]
  | (g, x) :: r, h => by
    have h1 : ¬ f = g := fun e => h (by rw [e]; exact List.mem_cons_self)
    rw [List.cons_append, List.lookup_cons, beq_eq_false_iff_ne.mpr h1]
    exact look_last fun e => h (List.mem_cons_of_mem _ e)
theorem look_front {f g : Str} {v : V} (h : f ≠ g) : ∀ {fs : List (Str × V)}, (fs ++ [(g, v)]).lookup f = fs.lookup f
  | [] => by simp [List.lookup, beq_eq_false_iff_ne.mpr h]
  | (k, x) :: r => by
    rw [List.cons_append, List.lookup_cons, List.lookup_cons, look_front h (fs := r)]
/-- what field f of b is -/
inductive GetF (f : Str) {α : Type} (rα : Rep α) (a : α) : {β : Type} → FRep β → β → Prop
  | here {β : Type} {fβ : FRep β} {b : β} : f ∉ FRep.nms b → GetF f rα a (@frepP α β rα fβ) (⟨f, a⟩, b)
  | there {γ β : Type} {rγ : Rep γ} {fβ : FRep β} {c : Fd γ} {b : β} : f ≠ c.n → GetF f rα a fβ b → GetF f rα a (@frepP γ β rγ fβ) (c, b)
theorem GetF.look {f : Str} {α β : Type} {rα : Rep α} {a : α} {fβ : FRep β} {b : β} (g : GetF f rα a fβ b) : ∀ {W : Wc} {H : Hp} {fs : List (Str × V)}, FRep.fd W H fs b → ∃ v, fs.lookup f = some v ∧ den W H v a := by
  induction g with
  | here h =>
    intro W H fs ⟨v, r, h1, h2, h3⟩
    have h3' : FRep.fd W H r _ := h3
    exact ⟨v, by rw [h1]; exact look_last (by rw [FRep.nm h3']; exact h), h2⟩
  | there h _ ih =>
    intro W H fs ⟨v, r, h1, h2, h3⟩
    obtain ⟨w, h4, h5⟩ := ih h3
    exact ⟨w, by rw [h1]; exact (look_front h).trans h4, h5⟩
section
variable {W : Wd} {F : Hp} {L : OwnH} {Γ : Gam} {ta tb te tv to : TE} {tt : TT} {t u : TS} {R : PoH} {g : TG} {K : PySem.W.Frag}
theorem oi_at {Wo : Wd} {H : Hp} {σ : L2.St} {β : Type} {fβ : FRep β} {i : Nat} {o : Oi β} (G : GOk Wo H σ Γ) (h : Γ[i]? = some (some (T o))) : σ[i]? = some (some (.ref o.p)) ∧ FRep.fd Wo.toWc H o.fs o.b := by
  obtain ⟨v, h1, h2, h3⟩ := G.at_ i _ h
  subst h2
  exact ⟨h1, h3⟩
theorem lookH_gok {H : Hp} {σ : L2.St} {Γ' : Gam} {oF : W.ok F} {nF : ∀ k ∈ keysH L, F k = none} (wF : W.wish F) (f : FrzH W.B L Γ Γ') (G : GOk (W.ownH F L oF nF) H σ Γ) : GOk W H σ Γ' := by
  have nm : ∀ k ∈ keysH L, ¬ W.mu k := fun k hk => fresh_mu oF (nF k hk)
  exact ⟨G.ok.1, W.wst F H G.wish G.ok.1 wF, fun i t ht => by
    obtain ⟨h1, u, hu⟩ := frzH_slots rfl nm G.ok.2 f i t ht
    obtain ⟨v, h2, h3⟩ := G.at_ i u hu
    exact ⟨v, h2, h1 u v hu h3⟩, G.len.trans f.len⟩
theorem lookH_ext {H H' : Hp} {oF : W.ok F} {nF : ∀ k ∈ keysH L, F k = none} (o : (W.ownH F L oF nF).ok H) (e : Ext W H H') : Ext (W.ownH F L oF nF) H H' := by
  have nm : ∀ k ∈ keysH L, ¬ W.mu k := fun k hk => fresh_mu oF (nF k hk)
  exact ⟨fun a u m z => e.keep a u (fun q => m (plusL_mu.mpr (.inl q))) z, e.ok, fun x hx => e.keep x.1 x.2 (nm _ (List.mem_map.mpr ⟨x, hx, rfl⟩)) (o.2 x hx)⟩
/-- data that lean on no object -/
class Flat (α : Type) [Rep α] : Prop where
  at_ : ∀ {W W' : Wc} {H H' : Hp} {v : V} {a : α}, den W H v a → den W' H' v a
instance : Flat Int := ⟨fun h => h⟩
instance : Flat Bool := ⟨fun h => h⟩
instance : Flat Str := ⟨fun h => h⟩
instance : Flat Unit := ⟨fun h => h⟩
theorem lookH_K {α : Type} [rα : Rep α] [Flat α] {Γ' : Gam} {k : α → Prop} {oF : W.ok F} {nF : ∀ k ∈ keysH L, F k = none} (wF : W.wish F) (f : FrzH W.B L Γ Γ') (h : EvK W te Γ' k) : EvK (W.ownH F L oF nF) te Γ k := fun σ H Q G c =>
  h σ H Q (lookH_gok wF f G) fun v H1 a e d q => c v H1 a (lookH_ext G.ok e) (Flat.at_ d) q
theorem lookH_T {Γ' : Gam} {k : Bool → Prop} {oF : W.ok F} {nF : ∀ k ∈ keysH L, F k = none} (wF : W.wish F) (f : FrzH W.B L Γ Γ') (h : EvT W tt Γ' k) : EvT (W.ownH F L oF nF) tt Γ k := fun σ H Q G c =>
  h σ H Q (lookH_gok wF f G) fun H1 b e q => c H1 b (lookH_ext G.ok e) q
theorem lookH_F {β : Type} [rβ : Rep β] [Flat β] {Γ' : Gam} {k : List β → Prop} {oF : W.ok F} {nF : ∀ k ∈ keysH L, F k = none} (wF : W.wish F) (f : FrzH W.B L Γ Γ') (h : EvF W te Γ' k) : EvF (W.ownH F L oF nF) te Γ k := fun σ H Q G c =>
  h σ H Q (lookH_gok wF f G) fun p H1 vs bs n e hp hd q => c p H1 vs bs n (lookH_ext G.ok e) hp (hd.imp fun _ _ d => Flat.at_ d) q
theorem sxh_lookD {α : Type} {rα : Rep α} [Flat α] {Γ' : Gam} (f : FrzH W.B L Γ Γ') (h : EvK W te Γ' fun _ : α => R.nx L Γ) : SxH W F (tDrop te) L Γ R := fun D σ H oF nF wF nd G O =>
  sx_drop (lookH_K wF f h) D σ H G (eokH_un nd O G.wish G.ok)
theorem sxh_lookIf {Γ' : Gam} (f : FrzH W.B L Γ Γ') (h : EvT W tt Γ' fun b => (b = true → SxH W F t L Γ R) ∧ (b = false → SxH W F u L Γ R)) : SxH W F (tIfS tt t u) L Γ R := fun D σ H oF nF wF nd G O =>
  lookH_T wF f h σ H _ G fun H1 b e1 ⟨h1, h2⟩ => by
    have G1 := G.ext e1
    cases b with
    | true => exact h1 rfl D σ H1 oF nF wF nd G1 (O.step G1.ok.1 (ownH_stp e1))
    | false => exact h2 rfl D σ H1 oF nF wF nd G1 (O.step G1.ok.1 (ownH_stp e1))
end
abbrev PI (β : Type) := Cn → (β → Prop) → (Xn → Prop) → List Ty → Prop
def spIn {β : Type} [FRep β] (B : Bs) (P : PI β) : Sp := fun vs H Q E => ∃ (W : Wd) (F : Hp) (p dx : Addr) (c : Cn) (ws : List V) (ts : List Ty) (k : β → Prop) (x : Xn → Prop) (oF : W.ok F) (nF : ∀ q ∈ keysH [(p, HO.ins (B.cl c) dx [])], F q = none),
  vs = .ref p :: ws ∧ W.B = B ∧ XOk W F E x ∧ (W.ownH F [(p, .ins (B.cl c) dx [])] oF nF).ok H ∧ Kp W.toWc F H ∧ DT (W.toWc.plus p) H ws ts ∧ P c k x ts ∧
  ∀ H' fs b, Kp (W.toWc.plus p) H H' → W.ok H' → H' p = some (.ins (B.cl c) dx fs) → FRep.fd (W.toWc.plus p) H' fs b → k b → Q .non H'
theorem init_ok {β : Type} [FRep β] {B : Bs} {P : PI β} {t : TS} {N : List Str} {vs : List V} {H : Hp} {Q : VK} {E : XK}
    (hb : ∀ (W : Wd) F p dx c ts k x, W.B = B → (∀ H', W.ok H' → W.wish H' → XOk W H' E x) → P c k x ts →
      SxH W F t [(p, .ins (W.B.cl c) dx [])] (some (T (Oi.mk p c dx [] ())) :: (ts.map some ++ List.replicate (N.length - (ts.length + 1)) none)) { nx := fun L Γ => ∃ fs b, L = [(p, .ins (W.B.cl c) dx fs)] ∧ Γ[0]? = some (some (T (Oi.mk p c dx fs b))) ∧ k b, rt := fun _ => False })
    (h : spIn B P vs H Q E) : t { nx := fun _ H' => Q .non H', rt := Q } (L2.start N vs) H := by
  obtain ⟨W, F, p, dx, c, ws, ts, k, x, oF, nF, rfl, hB, hx, ho, hw, hd, hp, hq⟩ := h
  subst hB
  have nF' : ∀ q ∈ keysH [(p, HO.ins ((W.wth E x).B.cl c) dx [])], F q = none := nF
  have ho' : ((W.wth E x).ownH F [(p, .ins ((W.wth E x).B.cl c) dx [])] oF nF').ok H := ho
  refine hb (W.wth E x) F p dx c ts k x rfl (fun H' _ w n d2 H2 e z q => w n d2 H2 e.wth z q) hp _ _ H oF nF' hx (List.nodup_cons.mpr ⟨fun z => (nomatch z), .nil⟩) ?_ ?_
  · have hd' : DT ((W.wth E x).ownH F [(p, .ins ((W.wth E x).B.cl c) dx [])] oF nF').toWc H (.ref p :: ws) (T (Oi.mk p c dx [] ()) :: ts) := .cons (t := T (Oi.mk p c dx [] ())) ⟨rfl, rfl⟩ hd
    have := start_ok (N := N) ho' hw hd'
    exact this
  · refine ⟨fun L' oF' nF2 σ' H' Γ' s nd' G ⟨fs, b, hL, hG, kb⟩ => ?_, fun v H' t e d z => z.elim, fun _ _ _ _ _ _ _ _ _ z => z.elim, fun _ _ _ _ _ _ _ _ _ z => z.elim⟩
    subst hL
    obtain ⟨_, h2⟩ := oi_at G hG
    exact hq H' fs b s.1 G.ok.1 (G.ok.2 _ List.mem_cons_self) h2 kb
section
variable {W : Wd} {Γ : Gam} {ta tr : TA} {te : TE} {K : PySem.W.Frag} {B : Bs}
/-- *xs ahead of further arguments -/
theorem el_star {α : Type} {rα : Rep α} {k : List α → Prop} (hK : W.B.K = K) (h : EvK W te Γ fun l : List α => EvL W tr Γ fun as => k (l ++ as)) : EvL W (tStar K te tr) Γ k := by
  subst hK
  refine fun σ H Q G c => h σ H _ G fun v H1 l e1 ⟨p, vs, hv, hp, hd⟩ z => ?_
  exact ⟨p, vs, hv, .inr hp.sq, z σ H1 _ (G.ext e1) fun ys H2 as e2 d2 q => c _ H2 _ (e1.trans e2) ((hd.imp fun _ _ d => Rep.mono e2.keep d).append d2) q⟩
/-- C(..) by an __init__ as above -/
theorem make_run {α β : Type} {rα : Rep α} {fβ : FRep β} {P : PI β} {H1 : Hp} {E : XK} {x : Xn → Prop} {k : α → Prop} {c : Cn} {ws : List V} {ts : List Ty} {Q : VK} (mk : β → α) (good : β → Prop) (hx : XOk W H1 E x) (o : W.ok H1)
    (hden : ∀ (W' : Wc) (H : Hp) (p dx : Addr) (fs : List (Str × V)) (b : β), W'.B = W.B → ¬ W'.mu p → H p = some (.ins (W.B.cl c) dx fs) → FRep.fd W' H fs b → good b → den W' H (.ref p) (mk b))
    (xx dx : Addr) (nx : H1 xx = none) (ndx : H1 dx = none) (nex : dx ≠ xx) (H2 : Hp) (e2 : Ext W (upd (upd H1 dx (.own xx)) xx (.ins (W.B.cl c) dx [])) H2) (hd : DT (W.toWc.plus xx) H2 ws ts) (hp : P c (fun b => good b ∧ k (mk b)) x ts)
    (cc : ∀ v H' (a : α), Ext W H1 H' → den W H' v a → k a → Q v H') : spIn W.B P (.ref xx :: ws) H2 (fun v H3 => v = .non ∧ Q (.ref xx) H3) E := by
  have m1 := fresh_mu o ndx
  have m2 := fresh_mu o nx
  have e3 : Ext W H1 (upd (upd H1 dx (.own xx)) xx (.ins (W.B.cl c) dx [])) := ⟨fun a u _ q => by rw [upd_ne (ne_of_none q nx), upd_ne (ne_of_none q ndx)]; exact q, W.st _ _ _ (W.st _ _ _ o m1) m2⟩
  refine ⟨W, H1, xx, dx, c, ws, ts, _, x, o, fun q hq => by rw [List.mem_singleton.mp hq]; exact nx, rfl, rfl, hx, ⟨e2.ok, fun y hy => ?_⟩, (e3.trans e2).keep, hd, hp, fun H' fs b kp ok' hH hf kb => ⟨rfl, ?_⟩⟩
  · rw [List.mem_singleton.mp hy]
    exact e2.keep xx _ m2 upd_same
  · refine cc (.ref xx) H' (mk b) ⟨fun a u m q => kp a u (fun z => z.elim m (fun z => by rw [z, nx] at q; cases q)) ((e3.trans e2).keep a u m q), ok'⟩ ?_ kb.2
    exact hden W.toWc H' xx dx fs b rfl m2 hH (FRep.shrink xx hf) kb.1
end
end G
set_option Elab.async false
set_option linter.all false
set_option maxRecDepth 100000
set_option maxHeartbeats 2000000
namespace G
open PySem PySem.Spec PyProof.Rows L2 StX
inductive RK where
  | leaf | rank | trim | weigh
  deriving DecidableEq
def RK.cn : RK → Cn
  | .leaf => .Leaf
  | .rank => .Rank
  | .trim => .Trim
  | .weigh => .Weigh
inductive Ru where
  | mk (k : RK) (lb : Str) (ns : List Int) (ps : List Ru) (rk : Bool)
def Ru.k : Ru → RK | .mk k _ _ _ _ => k
def Ru.lb : Ru → Str | .mk _ l _ _ _ => l
def Ru.ns : Ru → List Int | .mk _ _ n _ _ => n
def Ru.ps : Ru → List Ru | .mk _ _ _ p _ => p
def Ru.rk : Ru → Bool | .mk _ _ _ _ r => r
/-- what the text says of a class of rules -/
structure RcT (B : Bs) (k : RK) : Prop where
  cl : L2.Cls B.K (B.cl k.cn)
  nlabel : NoAttr B.K (B.cl k.cn) "label"
  nnumbers : NoAttr B.K (B.cl k.cn) "numbers"
  nparts : NoAttr B.K (B.cl k.cn) "parts"
  nranked : NoAttr B.K (B.cl k.cn) "ranked"
def ruF (lb : Str) (tn tp : Addr) (rk : Bool) : List (Str × V) := [("label", .str lb), ("numbers", .ref tn), ("parts", .ref tp), ("ranked", .bl rk)]
mutual
def ruD (W : Wc) (H : Hp) (v : V) : Ru → Prop
  | .mk k lb ns ps rk => ∃ a dx tn tp vs, v = .ref a ∧ ¬ W.mu a ∧ H a = some (.ins (W.B.cl k.cn) dx (ruF lb tn tp rk)) ∧ Tq W H tn (ns.map V.int) ∧ Tq W H tp vs ∧ RcT W.B k ∧ ruL W H vs ps
def ruL (W : Wc) (H : Hp) (vs : List V) : List Ru → Prop
  | [] => vs = []
  | p :: ps => ∃ v r, vs = v :: r ∧ ruD W H v p ∧ ruL W H r ps
end
mutual
theorem ruD_mono {W : Wc} {H H' : Hp} (e : Kp W H H') : ∀ (v : V) (r : Ru), ruD W H v r → ruD W H' v r
  | v, .mk k lb ns ps rk, h => by
    unfold ruD at h ⊢
    obtain ⟨a, dx, tn, tp, vs, hv, m, hH, h1, h2, hc, h3⟩ := h
    exact ⟨a, dx, tn, tp, vs, hv, m, e _ _ m hH, h1.mono e, h2.mono e, hc, ruL_mono e _ _ h3⟩
theorem ruL_mono {W : Wc} {H H' : Hp} (e : Kp W H H') : ∀ (vs : List V) (r : List Ru), ruL W H vs r → ruL W H' vs r
  | vs, [], h => by unfold ruL at h ⊢; exact h
  | vs, p :: ps, h => by
    unfold ruL at h ⊢
    obtain ⟨v, r, hv, h1, h2⟩ := h
    exact ⟨v, r, hv, ruD_mono e _ _ h1, ruL_mono e _ _ h2⟩
end
mutual
theorem ruD_grow {W : Wc} {H : Hp} (D : Addr) (n : H D = none) : ∀ (v : V) (r : Ru), ruD W H v r → ruD (W.plus D) H v r
  | v, .mk k lb ns ps rk, h => by
    unfold ruD at h ⊢
    obtain ⟨a, dx, tn, tp, vs, hv, m, hH, h1, h2, hc, h3⟩ := h
    exact ⟨a, dx, tn, tp, vs, hv, mu_grow n m hH, hH, h1.grow D n, h2.grow D n, hc, ruL_grow D n _ _ h3⟩
theorem ruL_grow {W : Wc} {H : Hp} (D : Addr) (n : H D = none) : ∀ (vs : List V) (r : List Ru), ruL W H vs r → ruL (W.plus D) H vs r
  | vs, [], h => by unfold ruL at h ⊢; exact h
  | vs, p :: ps, h => by
    unfold ruL at h ⊢
    obtain ⟨v, r, hv, h1, h2⟩ := h
    exact ⟨v, r, hv, ruD_grow D n _ _ h1, ruL_grow D n _ _ h2⟩
end
mutual
theorem ruD_shrink {W : Wc} {H : Hp} (D : Addr) : ∀ (v : V) (r : Ru), ruD (W.plus D) H v r → ruD W H v r
  | v, .mk k lb ns ps rk, h => by
    unfold ruD at h ⊢
    obtain ⟨a, dx, tn, tp, vs, hv, m, hH, h1, h2, hc, h3⟩ := h
    exact ⟨a, dx, tn, tp, vs, hv, fun z => m (.inl z), hH, h1.shrink D, h2.shrink D, hc, ruL_shrink D _ _ h3⟩
theorem ruL_shrink {W : Wc} {H : Hp} (D : Addr) : ∀ (vs : List V) (r : List Ru), ruL (W.plus D) H vs r → ruL W H vs r
  | vs, [], h => by unfold ruL at h ⊢; exact h
  | vs, p :: ps, h => by
    unfold ruL at h ⊢
    obtain ⟨v, r, hv, h1, h2⟩ := h
    exact ⟨v, r, hv, ruD_shrink D _ _ h1, ruL_shrink D _ _ h2⟩
end
instance : Rep Ru := ⟨ruD, fun e h => ruD_mono e _ _ h, fun D n h => ruD_grow D n _ _ h, fun D h => ruD_shrink D _ _ h⟩
theorem ruL_dl {W : Wc} {H : Hp} : ∀ {vs : List V} {ps : List Ru}, ruL W H vs ps ↔ Dl (den W H) vs ps
  | vs, [] => by
    unfold ruL
    constructor
    · rintro rfl; exact .nil
    · intro h; cases h; rfl
  | vs, p :: ps => by
    unfold ruL
    constructor
    · rintro ⟨v, r, rfl, h1, h2⟩
      exact .cons h1 (ruL_dl.mp h2)
    · intro h
      cases h with
      | cons h1 h2 => exact ⟨_, _, rfl, h1, ruL_dl.mpr h2⟩
theorem ru_den {W : Wc} {H : Hp} {v : V} {r : Ru} : den W H v r ↔ ∃ a dx tn tp vs, v = .ref a ∧ ¬ W.mu a ∧ H a = some (.ins (W.B.cl r.k.cn) dx (ruF r.lb tn tp r.rk)) ∧ Tq W H tn (r.ns.map V.int) ∧ Tq W H tp vs ∧ RcT W.B r.k ∧ Dl (den W H) vs r.ps := by
  obtain ⟨k, lb, ns, ps, rk⟩ := r
  show ruD W H v _ ↔ _
  unfold ruD
  constructor
  · rintro ⟨a, dx, tn, tp, vs, h1, h2, h3, h4, h5, hc, h6⟩
    exact ⟨a, dx, tn, tp, vs, h1, h2, h3, h4, h5, hc, ruL_dl.mp h6⟩
  · rintro ⟨a, dx, tn, tp, vs, h1, h2, h3, h4, h5, hc, h6⟩
    exact ⟨a, dx, tn, tp, vs, h1, h2, h3, h4, h5, hc, ruL_dl.mpr h6⟩
/-- data that stand for an object, of one of several classes -/
class VIns (β : Type) [Rep β] (fl : outParam (List Str)) where
  kn : β → Cn
  at_ : ∀ {W : Wc} {H : Hp} {v : V} {b : β}, den W H v b → ∃ a dx fs, v = .ref a ∧ ¬ W.mu a ∧ H a = some (.ins (W.B.cl (kn b)) dx fs) ∧ fs.map (·.1) = fl
instance : VIns Ru ["label", "numbers", "parts", "ranked"] := ⟨fun r => r.k.cn, fun h => by
  obtain ⟨a, dx, tn, tp, vs, h1, h2, h3, _⟩ := ru_den.mp h
  exact ⟨a, dx, _, h1, h2, h3, rfl⟩⟩
section
variable {W : Wd} {Γ : Gam} {te to : TE} {ta : TA} {K : PySem.W.Frag}
/-- iteration over a tuple -/
theorem ei_tup {α : Type} {rα : Rep α} {k : List α → Prop} (hK : W.B.K = K) (h : EvK W te Γ fun as : Tl α => k as.xs) : EvI W (iTup K te) Γ k := by
  subst hK
  refine fun σ H R G c => h σ H _ G fun v H1 as e1 ⟨p, xs, hv, hp, hd⟩ z => ⟨p, hv, ⟨xs, hp.sq⟩, c _ H1 as.xs e1 ⟨?_, ?_, ?_⟩ z⟩
  · intro i H' kp hi
    rw [← hd.length] at hi
    exact ⟨xs, xs[i], (hp.mono kp).sq, List.getElem?_eq_getElem hi⟩
  · intro H' kp
    exact ⟨xs, (hp.mono kp).sq, by rw [hd.length]; exact Nat.le_refl _⟩
  · rintro i H' x H'' kp _ hi ⟨rfl, hx⟩
    obtain ⟨a, ea, da⟩ := hd.at (hx xs (hp.mono kp).sq)
    exact ⟨a, ea, .inl rfl, Rep.mono kp da, fun D o nD _ => Rep.mono (W := W.toWc.plus D) (fun b o mb z => kp b o (fun q => mb (.inl q)) z) (Rep.grow D nD da)⟩
/-- tuple(x) -/
theorem ev_tupL {α : Type} {rα : Rep α} {k : Tl α → Prop} (hK : W.B.K = K) (h : EvK W te Γ fun l : List α => k ⟨l⟩) : EvK W (tThen te (kTup K)) Γ k := by
  subst hK
  refine fun σ H Q G c => h σ H _ G fun v H1 l e1 ⟨p, xs, hv, hp, hd⟩ z => .inl ⟨p, xs, hv, hp.sq, fun q hq => ?_⟩
  have e2 := Ext.new (o := .tup xs) e1.ok hq
  exact c (.ref q) _ ⟨l⟩ (e1.trans e2) ⟨q, xs, rfl, Tq.new (fresh_mu e1.ok hq) upd_same, hd.imp fun _ _ d => Rep.mono e2.keep d⟩ z
end
end G
set_option Elab.async false
set_option linter.all false
set_option maxRecDepth 100000
set_option maxHeartbeats 2000000
namespace G
open PySem PySem.Spec PyProof.Rows L2 StX
theorem pa_starK {X : Cx} {e : Expr} {es : List Expr} {te : TE} {t : TA} {p : Pos} (K : PySem.W.Frag) (he : PE X e te) (hr : PA X es t) (hK : X.K = K := by rfl) (hs : starEach (.Starred e p :: es) X.env = (true, eval e X.env) :: starEach es X.env := by rfl) : PA X (.Starred e p :: es) (tStar K te t) := by
  subst hK
  exact pa_star he hr hs
theorem pe_tupleOfK {X : Cx} {a : Expr} {ta : TE} {p pos : Pos} (K : PySem.W.Frag) (hg : Gl X "tuple") (hm : X.mg "tuple" = none) (ha : PE X a ta) (hK : X.K = K := by rfl) (na : starEach [a] X.env = (false, eval a X.env) :: starEach [] X.env := by rfl) :
    PE X (.Call (.Name "tuple" p) [a] [] pos) (tThen ta (kTup K)) := by
  subst hK
  exact pe_tupleOf hg hm ha na
theorem ps_fldK {X : Cx} {o e : Expr} {to tv : TE} {f : Str} {pos pos' : Pos} (K : PySem.W.Frag) (ho : PE X o to) (hv : PE X e tv) (hs : swapsWith e (some (.Attribute o f pos')) pos.line X.env = pure false := by rfl) (hK : X.K = K := by rfl) : PS X (.Assign [.Attribute o f pos'] e pos) (sFld K to tv f) := by
  subst hK
  exact ps_fld ho hv hs
/-- for x in any iteration -/
theorem sx_forI {α : Type} {rα : Rep α} {W : Wd} {Γ : Gam} {wi : TI} {g : TG} {t : TS} {R : Po} (h : EvI W wi Γ fun as : List α => ∃ I : Nat → Gam → Prop, I 0 Γ ∧
      (∀ (i : Nat) (a : α) Γ', as[i]? = some a → I i Γ' → Tg W g Γ' a fun Γ1 => Sx W t Γ1 { R with nx := I (i + 1), ct := I (i + 1), bk := R.nx }) ∧ ∀ Γ', I as.length Γ' → R.nx Γ') : Sx W (tFor wi g t) Γ R := fun D σ H G O =>
  h σ H _ G fun J H1 as e1 it ⟨I, h0, hs, hl⟩ => by
    refine ⟨fun i m σ' H' => m = as.length - i ∧ i ≤ as.length ∧ ∃ Γ', Ext W H1 H' ∧ GOk W H' σ' Γ' ∧ I i Γ', ⟨_, rfl, Nat.zero_le _, Γ, Ext.refl e1.ok, G.ext e1, h0⟩, ?_⟩
    rintro i m σ' H' ⟨rfl, hi, Γ', e, G', q⟩
    by_cases hlt : i < as.length
    · refine .inr ⟨it.go i H' e.keep hlt, fun σ2 H2 => ∃ Γ2, Ext W H1 H2 ∧ GOk W H2 σ2 Γ2 ∧ I (i + 1) Γ2, fun σ2 H2 ⟨Γ2, e2, G2, q2⟩ => ⟨as.length - (i + 1), by omega, rfl, hlt, Γ2, e2, G2, q2⟩, fun x H2 y => ?_⟩
      obtain ⟨a, ea, nw, da, _⟩ := it.yld i H' x H2 e.keep (fun b m => W.live H' b e.ok m) hlt y
      have e3 := nw.ext e.ok
      obtain ⟨js, hj⟩ := hs i a Γ' ea q
      refine hj σ' H2 x _ (G'.ext e3) da fun σ3 Γ3 G3 _ q3 => ?_
      have e4 := (e1.trans e).trans e3
      exact q3 _ σ3 H2 G3 ⟨fun σ4 H4 Γ4 e5 G4 q4 => ⟨Γ4, (e.trans e3).trans e5, G4, q4⟩, fun v H4 t e5 d q4 => O.rt v H4 t (e4.trans e5) d q4, fun σ4 H4 Γ4 e5 G4 q4 => O.nx σ4 H4 Γ4 (e4.trans e5) G4 q4, fun σ4 H4 Γ4 e5 G4 q4 => ⟨Γ4, (e.trans e3).trans e5, G4, q4⟩⟩
    · have : i = as.length := by omega
      subst this
      exact .inl ⟨it.stop H' e.keep, O.nx σ' H' Γ' (e1.trans e) G' (hl Γ' q)⟩
mutual
def namesF : Ru → List Str
  | .mk .leaf lb _ _ _ => [lb]
  | .mk .rank _ _ ps _ => namesL ps
  | .mk .trim _ _ ps _ => namesL ps
  | .mk .weigh _ _ ps _ => namesL ps
def namesL : List Ru → List Str
  | [] => []
  | p :: ps => namesF p ++ namesL ps
end
mutual
def depR : Ru → Nat
  | .mk .leaf _ _ _ _ => 0
  | .mk .rank _ _ ps _ => depRL ps + 1
  | .mk .trim _ _ ps _ => depRL ps + 1
  | .mk .weigh _ _ ps _ => depRL ps + 1
def depRL : List Ru → Nat
  | [] => 0
  | p :: ps => max (depR p) (depRL ps)
end
def sortI (as : List Int) : List Int := as.mergeSort fun a b => decide (a ≤ b)
/-- the least number of a list -/
def minL : List Int → Int
  | [] => 0
  | [a] => a
  | a :: b :: r => min a (minL (b :: r))
def wUp (ns as : List Int) (m : Int) : Int := (((as.zip ns).filter fun q => decide (q.1 ≤ m)).map fun q => q.2).sum
/-- the answers of which the mean is taken -/
def cntF (k : RK) (ns as : List Int) : List Int := match k with
  | .leaf => []
  | .rank => [(sortI as).getD (ns.headD 0).toNat 0]
  | .trim => ((sortI as).drop (ns.headD 0).toNat).take (as.length - (ns.headD 0).toNat - (ns.headD 0).toNat)
  | .weigh => [minL (as.filter fun a => decide (ns.sum ≤ 2 * wUp ns as a))]
def nodeF (k : RK) (ns as : List Int) : Int := (cntF k ns as).sum / (cntF k ns as).length
mutual
def ansF (rd : Str → Int) : Ru → Int
  | .mk .leaf lb _ _ _ => rd lb
  | .mk .rank _ ns ps _ => nodeF .rank ns (ansL rd ps)
  | .mk .trim _ ns ps _ => nodeF .trim ns (ansL rd ps)
  | .mk .weigh _ ns ps _ => nodeF .weigh ns (ansL rd ps)
def ansL (rd : Str → Int) : List Ru → List Int
  | [] => []
  | p :: ps => ansF rd p :: ansL rd ps
end
/-- the numbers of a rule of this kind with n parts are right -/
def numOk (k : RK) (ns : List Int) (n : Nat) : Prop := match k with
  | .leaf => True
  | .rank => ∃ p, ns = [p] ∧ 0 ≤ p ∧ p < n
  | .trim => ∃ c, ns = [c] ∧ 0 ≤ c ∧ 2 * c < n
  | .weigh => ns.length = n ∧ (∀ w ∈ ns, 0 ≤ w) ∧ 0 < ns.sum
mutual
def okR : Ru → Prop
  | .mk k _ ns ps _ => numOk k ns ps.length ∧ ps.length ≤ 100 ∧ okRL ps
def okRL : List Ru → Prop
  | [] => True
  | p :: ps => okR p ∧ okRL ps
end
mutual
def kdsR (ks : List RK) : Ru → Prop
  | .mk k _ _ ps _ => k ∈ ks ∧ kdsRL ks ps
def kdsRL (ks : List RK) : List Ru → Prop
  | [] => True
  | p :: ps => kdsR ks p ∧ kdsRL ks ps
end
/-- the first name that stood before -/
def dupG (seen : List Str) : List Str → Option Str
  | [] => none
  | a :: r => if a ∈ seen then some a else dupG (seen ++ [a]) r
def dupF (l : List Str) : Option Str := dupG [] l
theorem dupG_none {seen l : List Str} : dupG seen l = none ↔ (∀ a ∈ l, a ∉ seen) ∧ l.Nodup := by
  induction l generalizing seen with
  | nil => simp [dupG]
  | cons a r ih =>
    unfold dupG
    by_cases h : a ∈ seen
    · rw [if_pos h]
      exact ⟨fun z => (nomatch z), fun z => absurd h (z.1 a List.mem_cons_self)⟩
    · rw [if_neg h, ih, List.nodup_cons]
      constructor
      · rintro ⟨h1, h2⟩
        refine ⟨fun b hb => ?_, fun hm => h1 a hm (List.mem_append_right _ (List.mem_singleton.mpr rfl)), h2⟩
        rcases List.mem_cons.mp hb with rfl | hb
        · exact h
        · exact fun z => h1 b hb (List.mem_append_left _ z)
      · rintro ⟨h1, h2, h3⟩
        refine ⟨fun b hb z => ?_, h3⟩
        rcases List.mem_append.mp z with z | z
        · exact h1 b (List.mem_cons_of_mem _ hb) z
        · exact h2 (List.mem_singleton.mp z ▸ hb)
theorem dupF_none {l : List Str} : dupF l = none ↔ l.Nodup := by
  unfold dupF
  rw [dupG_none]
  exact ⟨fun h => h.2, fun h => ⟨fun _ _ z => (nomatch z), h⟩⟩
theorem dupG_step {seen l : List Str} {i : Nat} {a : Str} (h : l[i]? = some a) (hs : seen = l.take i) : dupG seen (l.drop i) = if a ∈ seen then some a else dupG (l.take (i + 1)) (l.drop (i + 1)) := by
  have hi := (List.getElem?_eq_some_iff.mp h).1
  have he := (List.getElem?_eq_some_iff.mp h).2
  rw [List.drop_eq_getElem_cons hi, he]
  show (if a ∈ seen then some a else dupG (seen ++ [a]) (l.drop (i + 1))) = _
  rw [hs, List.take_succ, h]
  rfl
end G
namespace G
open PySem PySem.Spec PyProof.Rows L2 StX
end G
namespace G
open PySem PySem.Spec PyProof.Rows L2 StX
def shStr (f : Str) (vs : List V) (fs : List (Str × V)) : Prop := ∃ x : Str, vs = [.str x] ∧ (reprText x).length ≤ 3000 ∧ x.length ≤ 3000 ∧ fs = ([(f, .str x)] : List (Str × V))
theorem shStr_ok {f a : Str} (s : (reprText a).length ≤ 3000) (s2 : a.length ≤ 3000) : ShT (shStr f) [T a] [(f, .s a)] := ⟨by show 1 ≤ 1000; decide, fun W H vs h => by
  cases h with
  | cons h1 h =>
  cases h
  exact ⟨_, ⟨_, by rw [show _ = V.str a from h1], s, s2, rfl⟩, .cons (t := .s a) rfl .nil⟩⟩
theorem fmt_rep {σ : L2.St} {H : Hp} {te : TE} {x : Str} (h : ∀ Q : VK, Q (.str x) H → te σ H Q) (s : (reprText x).length ≤ 3000) : ∀ Q : VK, Q (.str (reprText x)) H → tFmtR te σ H Q := fun Q q => h _ (.inl ⟨x, rfl, Nat.le_trans s (by decide), q⟩)
end G
namespace G
end G
namespace G
end G
namespace G
open PySem PySem.Spec PyProof.Rows L2 StX
theorem EvF.imp {β : Type} {rβ : Rep β} {W : Wd} {te : TE} {Γ : Gam} {k k' : List β → Prop} (h : EvF W te Γ k) (i : ∀ bs, k bs → k' bs) : EvF W te Γ k' := fun σ H Q G c =>
  h σ H Q G fun p H' vs bs n e hp hd q => c p H' vs bs n e hp hd (i bs q)
end G
namespace G
open PySem PySem.Spec PyProof.Rows L2 StX
/-- numbers that the readings of a dict are -/
def rdF (ds : List (Str × Int)) (n : Str) : Int := (getDc ds n).getD 0
end G
namespace G
end G
set_option Elab.async false
set_option linter.all false
set_option maxRecDepth 100000
set_option maxHeartbeats 2000000
namespace G
open PySem PySem.Spec PyProof.Rows L2 StX
def mergeD {β : Type} (l more : List (Str × β)) : List (Str × β) := more.foldl (fun acc e => putDc acc e.1 e.2) l
section
variable {W : Wd} {Γ : Gam} {te tk tv : TE} {trs : List (TE × TE)} {K : PySem.W.Frag}
theorem Dk.flat {β : Type} [Rep β] [Flat β] {W W' : Wc} {H H' : Hp} {kvs : List (Key × V)} {l : List (Str × β)} (h : Dk (den W H) kvs l) : Dk (den W' H') kvs l := h.imp fun _ _ d => Flat.at_ d
end
mutual
theorem ruD_nolst {W : Wc} {H : Hp} {D : Addr} {xs : List V} (h : H D = some (.lst xs)) : ∀ (v : V) (r : Ru), ruD W H v r → ruD (W.plus D) H v r
  | v, .mk k lb ns ps rk, hr => by
    unfold ruD at hr ⊢
    obtain ⟨a, dx, tn, tp, vs, hv, m, hH, h1, h2, hc, h3⟩ := hr
    exact ⟨a, dx, tn, tp, vs, hv, fun z => z.elim m fun z => (by rw [z, h] at hH; cases hH), hH, tq_nl h h1, tq_nl h h2, hc, ruL_nolst h _ _ h3⟩
theorem ruL_nolst {W : Wc} {H : Hp} {D : Addr} {xs : List V} (h : H D = some (.lst xs)) : ∀ (vs : List V) (r : List Ru), ruL W H vs r → ruL (W.plus D) H vs r
  | vs, [], hr => by unfold ruL at hr ⊢; exact hr
  | vs, p :: ps, hr => by
    unfold ruL at hr ⊢
    obtain ⟨v, r, hv, h1, h2⟩ := hr
    exact ⟨v, r, hv, ruD_nolst h _ _ h1, ruL_nolst h _ _ h2⟩
end
instance : NoLst Ru := ⟨fun h d => ruD_nolst h _ _ d⟩
end G
namespace G
open PySem PySem.Spec PyProof.Rows L2 StX
theorem EvL.imp {α : Type} {rα : Rep α} {W : Wd} {ta : TA} {Γ : Gam} {k k' : List α → Prop} (h : EvL W ta Γ k) (i : ∀ as, k as → k' as) : EvL W ta Γ k' := fun σ H Q G c => h σ H Q G fun vs H' as e d q => c vs H' as e d (i as q)
theorem len2 {α : Type} : ∀ {l : List α}, l.length = 2 → ∃ a b, l = [a, b]
  | [a, b], _ => ⟨a, b, rfl⟩
end G
namespace G
open PySem PySem.Spec PyProof.Rows L2 StX
theorem putDc_new {β : Type} {l : List (Str × β)} {k : Str} {b : β} (h : k ∉ l.map (·.1)) : putDc l k b = l ++ [(k, b)] := by
  unfold putDc
  rw [if_neg]
  intro z
  obtain ⟨e, he, hd⟩ := List.any_eq_true.mp z
  exact h (List.mem_map.mpr ⟨e, he, of_decide_eq_true hd⟩)
theorem mergeD_nodup {β : Type} : ∀ (more l : List (Str × β)), ((l ++ more).map (·.1)).Nodup → mergeD l more = l ++ more
  | [], l, _ => (List.append_nil l).symm
  | (k, b) :: r, l, h => by
    show mergeD (putDc l k b) r = _
    have h1 : k ∉ l.map (·.1) := fun z => by
      rw [List.map_append, List.map_cons] at h
      exact (List.nodup_append.mp h).2.2 k z k List.mem_cons_self rfl
    rw [putDc_new h1, mergeD_nodup r _ (by rw [List.append_assoc]; exact h), List.append_assoc]
    rfl
end G
namespace G
open PySem PySem.Spec PyProof.Rows L2 StX
theorem filtT {α : Type} (as : List α) : as.filter (fun _ => true) = as := List.filter_eq_self.mpr fun _ _ => rfl
end G
set_option Elab.async false
set_option linter.all false
set_option maxRecDepth 100000
set_option maxHeartbeats 2000000
namespace G
open PySem PySem.Spec PyProof.Rows L2 StX
theorem Dl.dropLast {α : Type} {f : V → α → Prop} : ∀ {vs : List V} {as : List α}, Dl f vs as → Dl f vs.dropLast as.dropLast
  | _, _, .nil => .nil
  | _, _, .cons _ .nil => .nil
  | _, _, .cons x (.cons y z) => .cons x (Dl.dropLast (.cons y z))
end G
namespace G
open PySem PySem.Spec PyProof.Rows L2 StX
end G
namespace G
open PySem PySem.Spec PyProof.Rows L2 StX
end G
namespace G
open PySem PySem.Spec PyProof.Rows L2 StX
end G
set_option Elab.async false
set_option linter.all false
set_option maxRecDepth 100000
set_option maxHeartbeats 2000000
namespace G
open PySem PySem.Spec PyProof.Rows L2 StX
end G
namespace G
open PySem PySem.Spec PyProof.Rows L2 StX
section
variable {W : Wd} {Γ : Gam} {ta : TA} {te tb tc : TE} {tt : TT} {g : TG} {wi : TI} {K : PySem.W.Frag}
theorem evF_lcI {α β : Type} {rα : Rep α} {rβ : Rep β} {vs : List Nat} {k : List β → Prop}
    (h : EvI W wi Γ fun as : List α => as.length ≤ 100000 ∧ ∃ I : Nat → List β → Prop, I 0 [] ∧
      (∀ W', Sub W W' → ∀ (i : Nat) (a : α) (bs : List β), as[i]? = some a → I i bs → LcTurn W' g tt te vs Γ a (I (i + 1) bs) fun y : β => I (i + 1) (bs ++ [y])) ∧ ∀ bs, I as.length bs → k bs) : EvF W (tLc wi g tt te vs) Γ k := by
  intro σ H Q G c
  refine h σ H _ G fun J H1 as e1 it ⟨hl, I, h0, hs, hf⟩ D n => ?_
  have G1 := G.ext e1
  have eD : Ext W H1 (upd H1 D (.lst [])) := Ext.new e1.ok n
  refine turns (J := J) (n := as.length) (fun i H' => Ext W H1 H' ∧ ∃ acc bs, H' D = some (.lst acc) ∧ Dl (den (W.toWc.plus D) H') acc bs ∧ acc.length ≤ i ∧ I i bs) ⟨eD, [], [], upd_same, .nil, Nat.le_refl _, h0⟩ (fun i H' hi ⟨e, _⟩ => it.go i H' e.keep hi) (fun H' ⟨e, _⟩ => it.stop H' e.keep) ?_ ?_
  · rintro i H' v H'' hi ⟨e, acc, bs, hD, hb, ha, q⟩ hy
    obtain ⟨a, ea, nw, _, dD⟩ := it.yld i H' v H'' e.keep (fun a m => W.live H' a e.ok m) hi hy
    have e2 := nw.ext e.ok
    have hD2 := nw.gr hD
    have kq : Kp (W.toWc.plus D) H' H'' := fun b o _ z => nw.gr z
    exact lc_turnN (I := I (i + 1)) (P := fun H' => Ext W H1 H' ∧ ∃ acc bs, H' D = some (.lst acc) ∧ Dl (den (W.toWc.plus D) H') acc bs ∧ acc.length ≤ i + 1 ∧ I (i + 1) bs) (hs _ (Sub.plus (n := n) (o1 := e1.ok) (w1 := G1.wish)) i a bs ea q) G1 (e.trans e2) hD2 (hb.imp fun _ _ d => Rep.mono kq d)
      (dD D _ n hD) (by omega) fun H2 acc2 bs2 e3 hD3 hb2 hl2 q2 => ⟨e3, acc2, bs2, hD3, hb2, by omega, q2⟩
  · rintro H' ⟨e, acc, bs, hD, hb, ha, q⟩
    exact c D H' acc bs (fresh_back e1.ok e1 n) (e1.trans e) hD hb (hf bs q)
theorem evF_lcIF {α β : Type} [rα : Rep α] [rβ : Rep β] {vs : List Nat} {k : List β → Prop} (p : α → Bool) (f : α → β)
    (h : EvI W wi Γ fun as : List α => as.length ≤ 100000 ∧ (∀ W', Sub W W' → ∀ a ∈ as, LcTurn W' g tt te vs Γ a (p a = false) fun y : β => p a = true ∧ y = f a) ∧ k ((as.filter p).map f)) : EvF W (tLc wi g tt te vs) Γ k :=
  evF_lcI fun σ H R G c => h σ H R G fun J H1 as e it ⟨hl, hs, q⟩ => c J H1 as e it ⟨hl, fun i bs => bs = ((as.take i).filter p).map f, by simp, lcF_turns p f hs, fun bs e2 => by rw [e2, List.take_length]; exact q⟩
end
end G
namespace G
open PySem PySem.Spec PyProof.Rows L2 StX
end G
namespace G
open PySem PySem.Spec PyProof.Rows L2 StX
end G
namespace G
end G
namespace G
open PySem PySem.Spec PyProof.Rows L2 StX
/-- list(x), x a list -/
theorem evF_listOf {α : Type} {rα : Rep α} {W : Wd} {Γ : Gam} {te : TE} {K : PySem.W.Frag} {k : List α → Prop} (hK : W.B.K = K) (h : EvK W te Γ fun as : List α => k as) :
    EvF W (tCB (fun xs H Q => ∃ p ys, xs = [V.ref p] ∧ (SqL K H p ys ∨ SqT K H p ys) ∧ ∀ l, H l = none → Q (V.ref l) (upd H l (HO.lst ys))) (tCons te tNil)) Γ k := by
  subst hK
  refine fun σ H Q G c => h σ H _ G fun v H1 as e1 ⟨p, xs, hv, hp, hd⟩ z => ⟨p, xs, by rw [hv], .inl hp.sq, fun l hl => ?_⟩
  have e2 := Ext.new (o := .lst xs) e1.ok hl
  refine c l _ xs as (fresh_back e1.ok e1 hl) (e1.trans e2) upd_same (hd.imp fun _ _ d => ?_) z
  exact Rep.mono (W := W.toWc.plus l) (fun b o m q => e2.keep b o (fun z => m (.inl z)) q) (Rep.grow l hl d)
end G
namespace G
open PySem PySem.Spec PyProof.Rows L2 StX
def ab : List Str := ["a", "b"]
end G
namespace G
open PySem PySem.Spec PyProof.Rows L2 StX
end G
set_option Elab.async false
set_option linter.all false
set_option maxRecDepth 100000
set_option maxHeartbeats 2000000
namespace G
open PySem PySem.Spec PyProof.Rows L2 StX
structure Tt where
  r : Ru
def trN : RK → Str
  | .leaf => "leaf"
  | .rank => "rank"
  | .trim => "trim"
  | .weigh => "weigh"
def trX (W : Wc) (H : Hp) (x : V) (k : RK) (lb : Str) (ns : List Int) : Prop := match k with
  | .leaf => x = .str lb
  | .rank => ∃ n, ns = [n] ∧ x = .int n
  | .trim => ∃ n, ns = [n] ∧ x = .int n
  | .weigh => ∃ q, x = .ref q ∧ Lq W H q (ns.map V.int)
theorem trX_mono {W : Wc} {H H' : Hp} {x : V} {k : RK} {lb : Str} {ns : List Int} (e : Kp W H H') (h : trX W H x k lb ns) : trX W H' x k lb ns := by
  cases k with
  | weigh => obtain ⟨q, h1, h2⟩ := h; exact ⟨q, h1, h2.mono e⟩
  | _ => exact h
theorem trX_grow {W : Wc} {H : Hp} {x : V} {k : RK} {lb : Str} {ns : List Int} (D : Addr) (n : H D = none) (h : trX W H x k lb ns) : trX (W.plus D) H x k lb ns := by
  cases k with
  | weigh => obtain ⟨q, h1, h2⟩ := h; exact ⟨q, h1, h2.grow D n⟩
  | _ => exact h
theorem trX_shrink {W : Wc} {H : Hp} {x : V} {k : RK} {lb : Str} {ns : List Int} (D : Addr) (h : trX (W.plus D) H x k lb ns) : trX W H x k lb ns := by
  cases k with
  | weigh => obtain ⟨q, h1, h2⟩ := h; exact ⟨q, h1, h2.shrink D⟩
  | _ => exact h
mutual
def trD (W : Wc) (H : Hp) (v : V) : Ru → Prop
  | .mk k lb ns ps rk => ∃ p x lp vs, v = .ref p ∧ Tq W H p [.str (trN k), x, .ref lp] ∧ trX W H x k lb ns ∧ Lq W H lp vs ∧ trL W H vs ps
def trL (W : Wc) (H : Hp) (vs : List V) : List Ru → Prop
  | [] => vs = []
  | p :: ps => ∃ v r, vs = v :: r ∧ trD W H v p ∧ trL W H r ps
end
mutual
theorem trD_mono {W : Wc} {H H' : Hp} (e : Kp W H H') : ∀ (v : V) (r : Ru), trD W H v r → trD W H' v r
  | v, .mk k lb ns ps rk, h => by
    unfold trD at h ⊢
    obtain ⟨p, x, lp, vs, hv, h1, h2, h3, h4⟩ := h
    exact ⟨p, x, lp, vs, hv, h1.mono e, trX_mono e h2, h3.mono e, trL_mono e _ _ h4⟩
theorem trL_mono {W : Wc} {H H' : Hp} (e : Kp W H H') : ∀ (vs : List V) (r : List Ru), trL W H vs r → trL W H' vs r
  | vs, [], h => by unfold trL at h ⊢; exact h
  | vs, p :: ps, h => by
    unfold trL at h ⊢
    obtain ⟨v, r, hv, h1, h2⟩ := h
    exact ⟨v, r, hv, trD_mono e _ _ h1, trL_mono e _ _ h2⟩
end
mutual
theorem trD_grow {W : Wc} {H : Hp} (D : Addr) (n : H D = none) : ∀ (v : V) (r : Ru), trD W H v r → trD (W.plus D) H v r
  | v, .mk k lb ns ps rk, h => by
    unfold trD at h ⊢
    obtain ⟨p, x, lp, vs, hv, h1, h2, h3, h4⟩ := h
    exact ⟨p, x, lp, vs, hv, h1.grow D n, trX_grow D n h2, h3.grow D n, trL_grow D n _ _ h4⟩
theorem trL_grow {W : Wc} {H : Hp} (D : Addr) (n : H D = none) : ∀ (vs : List V) (r : List Ru), trL W H vs r → trL (W.plus D) H vs r
  | vs, [], h => by unfold trL at h ⊢; exact h
  | vs, p :: ps, h => by
    unfold trL at h ⊢
    obtain ⟨v, r, hv, h1, h2⟩ := h
    exact ⟨v, r, hv, trD_grow D n _ _ h1, trL_grow D n _ _ h2⟩
end
mutual
theorem trD_shrink {W : Wc} {H : Hp} (D : Addr) : ∀ (v : V) (r : Ru), trD (W.plus D) H v r → trD W H v r
  | v, .mk k lb ns ps rk, h => by
    unfold trD at h ⊢
    obtain ⟨p, x, lp, vs, hv, h1, h2, h3, h4⟩ := h
    exact ⟨p, x, lp, vs, hv, h1.shrink D, trX_shrink D h2, h3.shrink D, trL_shrink D _ _ h4⟩
theorem trL_shrink {W : Wc} {H : Hp} (D : Addr) : ∀ (vs : List V) (r : List Ru), trL (W.plus D) H vs r → trL W H vs r
  | vs, [], h => by unfold trL at h ⊢; exact h
  | vs, p :: ps, h => by
    unfold trL at h ⊢
    obtain ⟨v, r, hv, h1, h2⟩ := h
    exact ⟨v, r, hv, trD_shrink D _ _ h1, trL_shrink D _ _ h2⟩
end
instance : Rep Tt := ⟨fun W H v t => trD W H v t.r, fun e h => trD_mono e _ _ h, fun D n h => trD_grow D n _ _ h, fun D h => trD_shrink D _ _ h⟩
mutual
def wfR : Ru → Prop
  | .mk k lb ns ps rk => (k = .leaf → ns = [] ∧ ps = [] ∧ rk = true) ∧ (k ≠ .leaf → lb = trN k ∧ rk = (decide (k ≠ .trim) && ps.all Ru.rk)) ∧ wfL ps
def wfL : List Ru → Prop
  | [] => True
  | p :: ps => wfR p ∧ wfL ps
end
/-- a rule that a tree may stand for -/
structure TrOk (d : Nat) (r : Ru) : Prop where
  wf : wfR r
  ok : okR r
  kds : kdsR [.leaf, .rank, .trim, .weigh] r
  dep : depR r ≤ d
theorem TrOk.le {d d' : Nat} {r : Ru} (h : TrOk d r) (l : d ≤ d') : TrOk d' r := ⟨h.wf, h.ok, h.kds, Nat.le_trans h.dep l⟩
end G
namespace G
open PySem PySem.Spec PyProof.Rows L2 StX
end G
set_option Elab.async false
set_option linter.all false
set_option maxRecDepth 100000
set_option maxHeartbeats 2000000
namespace G
open PySem
/-- each of a list at most its fellow -/
def LeL : List Int → List Int → Prop
  | [], [] => True
  | a :: as, b :: bs => a ≤ b ∧ LeL as bs
  | _, _ => False
theorem LeL.length : ∀ {as bs : List Int}, LeL as bs → as.length = bs.length
  | [], [], _ => rfl
  | a :: as, b :: bs, h => congrArg (· + 1) (LeL.length h.2)
  | [], b :: bs, h => h.elim
  | a :: as, [], h => h.elim
theorem LeL.drop : ∀ (n : Nat) {as bs : List Int}, LeL as bs → LeL (as.drop n) (bs.drop n)
  | 0, _, _, h => h
  | n + 1, [], [], h => trivial
  | n + 1, a :: as, b :: bs, h => LeL.drop n h.2
  | n + 1, [], b :: bs, h => h.elim
  | n + 1, a :: as, [], h => h.elim
theorem LeL.take : ∀ (n : Nat) {as bs : List Int}, LeL as bs → LeL (as.take n) (bs.take n)
  | 0, _, _, h => trivial
  | n + 1, [], [], h => trivial
  | n + 1, a :: as, b :: bs, h => ⟨h.1, LeL.take n h.2⟩
  | n + 1, [], b :: bs, h => h.elim
  | n + 1, a :: as, [], h => h.elim
theorem LeL.sum : ∀ {as bs : List Int}, LeL as bs → as.sum ≤ bs.sum
  | [], [], _ => Int.le_refl _
  | a :: as, b :: bs, h => by
    rw [List.sum_cons, List.sum_cons]
    have := LeL.sum h.2
    have := h.1
    omega
  | [], b :: bs, h => h.elim
  | a :: as, [], h => h.elim
theorem LeL.at_ : ∀ {as bs : List Int} (i : Nat), LeL as bs → as.getD i 0 ≤ bs.getD i 0
  | [], [], _, _ => Int.le_refl _
  | a :: as, b :: bs, 0, h => h.1
  | a :: as, b :: bs, i + 1, h => by
    have := LeL.at_ i h.2
    simpa using this
  | [], b :: bs, _, h => h.elim
  | a :: as, [], _, h => h.elim
theorem LeL.up {t : Int} : ∀ {ns as bs : List Int}, (∀ w ∈ ns, 0 ≤ w) → LeL as bs → wUp ns bs t ≤ wUp ns as t
  | ns, [], [], _, _ => Int.le_refl _
  | [], a :: as, b :: bs, _, _ => by unfold wUp; simp
  | n :: ns, a :: as, b :: bs, hn, h => by
    have ih := LeL.up (t := t) (ns := ns) (fun w hw => hn w (List.mem_cons_of_mem _ hw)) h.2
    have h1 := h.1
    have h0 := hn n List.mem_cons_self
    have step : ∀ (c : Int) (cs : List Int), wUp (n :: ns) (c :: cs) t = (if c ≤ t then n else 0) + wUp ns cs t := fun c cs => by
      unfold wUp
      rw [List.zip_cons_cons]
      by_cases hc : c ≤ t
      · rw [List.filter_cons_of_pos (by exact decide_eq_true hc), if_pos hc, List.map_cons, List.sum_cons]
      · rw [List.filter_cons_of_neg (by simpa using hc), if_neg hc, Int.zero_add]
    rw [step, step]
    by_cases hb : b ≤ t
    · rw [if_pos hb, if_pos (show a ≤ t by omega)]
      omega
    · rw [if_neg hb]
      split <;> omega
  | _, [], b :: bs, _, h => h.elim
  | _, a :: as, [], _, h => h.elim
end G
set_option Elab.async false
set_option linter.all false
set_option maxRecDepth 100000
set_option maxHeartbeats 2000000
namespace G
open PySem PySem.Spec PyProof.Rows L2 StX
inductive Rw where
  | n (a b : Int)
  | l (a : Int) (bs : List Int)
def Rw.a : Rw → Int
  | .n a _ => a
  | .l a _ => a
def rwX (W : Wc) (H : Hp) (x : V) : Rw → Prop
  | .n _ b => x = .int b
  | .l _ bs => ∃ q, x = .ref q ∧ Lq W H q (bs.map V.int)
instance : Rep Rw := ⟨fun W H v r => ∃ p x, v = .ref p ∧ Tq W H p [.int r.a, x] ∧ rwX W H x r, fun {W H H' v r} e h => by
    obtain ⟨p, x, hv, h1, h2⟩ := h
    refine ⟨p, x, hv, h1.mono e, ?_⟩
    cases r with
    | n a b => exact h2
    | l a bs => obtain ⟨q, h3, h4⟩ := h2; exact ⟨q, h3, h4.mono e⟩, fun {W H v r} D n h => by
    obtain ⟨p, x, hv, h1, h2⟩ := h
    refine ⟨p, x, hv, h1.grow D n, ?_⟩
    cases r with
    | n a b => exact h2
    | l a bs => obtain ⟨q, h3, h4⟩ := h2; exact ⟨q, h3, h4.grow D n⟩, fun {W H v r} D h => by
    obtain ⟨p, x, hv, h1, h2⟩ := h
    refine ⟨p, x, hv, h1.shrink D, ?_⟩
    cases r with
    | n a b => exact h2
    | l a bs => obtain ⟨q, h3, h4⟩ := h2; exact ⟨q, h3, h4.shrink D⟩⟩
theorem repr_small {w : Str} (h : ∀ c ∈ w.cps.toList, c < 16 ^ 8) (hl : w.length ≤ 200) : (reprText w).length ≤ 3000 := by
  have := StrLaws.reprText_len w h
  omega
theorem repr_good {w : Str} (h : GoodW w) : (reprText w).length ≤ 3000 ∧ w.length ≤ 3000 := by
  obtain ⟨h1, h2, h3, _⟩ := h
  exact ⟨repr_small (fun c hc => Nat.lt_of_le_of_lt (h3 c hc).2 (by decide)) (by omega), by omega⟩
end G
namespace G
open PySem PySem.Spec PyProof.Rows L2 StX
end G
namespace G
open PySem PySem.Spec PyProof.Rows L2 StX
end G
namespace G
open PySem PySem.Spec PyProof.Rows L2 StX
end G
namespace G
open PySem PySem.Spec PyProof.Rows L2 StX
end G
set_option Elab.async false
set_option linter.all false
set_option maxRecDepth 100000
set_option maxHeartbeats 2000000
namespace G
open PySem PySem.Spec PyProof.Rows L2 StX
end G
namespace G
open PySem PySem.Spec PyProof.Rows L2 StX
end G
namespace G
open PySem PySem.Spec PyProof.Rows L2 StX
end G
namespace G
open PySem PySem.Spec PyProof.Rows L2 StX
end G
namespace G
open PySem PySem.Spec PyProof.Rows L2 StX
end G
namespace G
open PySem PySem.Spec PyProof.Rows L2 StX
end G
namespace G
open PySem PySem.Spec PyProof.Rows L2 StX
def cl (s : Str) : List Nat := s.cps.toList
end G
namespace G
open PySem PySem.Spec PyProof.Rows L2 StX
end G
set_option Elab.async false
set_option linter.all false
set_option maxRecDepth 100000
set_option maxHeartbeats 2000000
namespace G
open PySem PySem.Spec PyProof.Rows L2 StX
section
variable {W : Wd} {F : Hp} {L : OwnH} {Γ : Gam} {te : TE} {R : PoH} {K : PySem.W.Frag}
theorem ol_den {W : Wc} {H : Hp} {α : Type} {rα : Rep α} {f : Str} {q : Addr} {vs : List V} {as : List α} {fs : List (Str × V)} (h : FRep.fd W H fs ((⟨f, ⟨q, vs, as⟩⟩, ()) : Fd (Ol α) × Unit)) : fs = [(f, .ref q)] ∧ Dl (den W H) vs as := by
  obtain ⟨v, r, h1, ⟨h2, h3⟩, h4⟩ := h
  have h4 : r = [] := h4
  have h2 : v = .ref q := h2
  subst h2 h4
  exact ⟨h1, h3⟩
/-- self.f.append(e), self an own object whose field f is an own list -/
theorem sxh_appendF {α : Type} {rα : Rep α} {f : Str} {i : Nat} (n k : Nat) {p dx q : Addr} {c : Cn} {fs : List (Str × V)} {vs : List V} {as : List α} (hK : W.B.K = K) (hc : L2.Cls K (W.B.cl c)) (hn : NoAttr K (W.B.cl c) f)
    (hp : L[n]? = some (p, .ins (W.B.cl c) dx fs)) (hk : L[k]? = some (q, .lst vs)) (hi : Γ[i]? = some (some (T (Oi.mk p c dx fs ((⟨f, ⟨q, vs, as⟩⟩, ()) : Fd (Ol α) × Unit)))))
    (h : ∀ Wo, OwnHW W L Wo → EvK Wo te Γ fun a : α => as.length < 100000 ∧ ∀ v, R.nx (L.set k (q, .lst (vs ++ [v]))) (Γ.set i (some (T (Oi.mk p c dx fs ((⟨f, ⟨q, vs ++ [v], as ++ [a]⟩⟩, ()) : Fd (Ol α) × Unit)))))) :
    SxH W F (tDrop (tBM K "list" rAppend (tFld K (tVar i) f) (tCons te tNil))) L Γ R := fun D σ H oF nF wF nd G O => by
  subst hK
  obtain ⟨h1, h2⟩ := oi_at G hi
  obtain ⟨hfs, hd⟩ := ol_den h2
  have hfs : fs = [(f, .ref q)] := hfs
  have hH := G.ok.2 _ (List.mem_of_getElem? hp)
  refine ⟨_, h1, p, _, dx, fs, .ref q, rfl, hH, hc, hn, by rw [hfs]; exact look_last (fun z => nomatch z) (fs := []), ?_⟩
  refine ⟨.inl ⟨rfl, _, .inl (.inl (G.ok.2 _ (List.mem_of_getElem? hk)))⟩, ?_⟩
  refine h _ (ownH_w wF) σ H _ G fun v H1 a e1 d ⟨hl, z⟩ => ?_
  have G1 := G.ext e1
  refine ⟨q, vs, v, rfl, rfl, G1.ok.2 _ (List.mem_of_getElem? hk), Nat.lt_of_lt_of_le (by rw [hd.length]; exact hl) (by decide : 100000 ≤ sizeLine), ?_⟩
  refine ownH_put (v0 := .ref p) (T (Oi.mk p c dx fs ((⟨f, ⟨q, vs ++ [v], as ++ [a]⟩⟩, ()) : Fd (Ol α) × Unit))) nd G1 (O.step G1.ok.1 (ownH_stp e1)) hk h1 (fun kp => ⟨rfl, .ref q, [], hfs, ⟨rfl, ?_⟩, rfl⟩) (z v)
  exact (Dl.append (hd.imp fun _ _ x => Rep.mono e1.keep x) (.cons d .nil)).imp fun _ _ x => Rep.mono kp x
end
end G
namespace G
open PySem PySem.Spec PyProof.Rows L2 StX
structure RackT (B : Bs) : Prop where
  cl : L2.Cls B.K (B.cl .Rack)
  ng : NoAttr B.K (B.cl .Rack) "_gauges"
  nf : NoAttr B.K (B.cl .Rack) "_faults"
structure Rp where
  gs : List Gau
structure Rk where
  gs : List Gau
  fl : List (List Str)
instance : Rep Rp :=
  ⟨fun W H v r => ∃ a dx w, v = .ref a ∧ ¬ W.mu a ∧ H a = some (.ins (W.B.cl .Rack) dx [("_gauges", w)]) ∧ den W H w r.gs ∧ RackT W.B,
   fun e ⟨a, dx, w, hv, m, h, h1, h2⟩ => ⟨a, dx, w, hv, m, e _ _ m h, Rep.mono e h1, h2⟩,
   fun D n ⟨a, dx, w, hv, m, h, h1, h2⟩ => ⟨a, dx, w, hv, mu_grow n m h, h, Rep.grow D n h1, h2⟩,
   fun D ⟨a, dx, w, hv, m, h, h1, h2⟩ => ⟨a, dx, w, hv, fun z => m (.inl z), h, Rep.shrink D h1, h2⟩⟩
instance : Rep Rk :=
  ⟨fun W H v r => ∃ a dx w u, v = .ref a ∧ ¬ W.mu a ∧ H a = some (.ins (W.B.cl .Rack) dx [("_gauges", w), ("_faults", u)]) ∧ den W H w r.gs ∧ den W H u r.fl ∧ RackT W.B,
   fun e ⟨a, dx, w, u, hv, m, h, h1, h3, h2⟩ => ⟨a, dx, w, u, hv, m, e _ _ m h, Rep.mono e h1, Rep.mono e h3, h2⟩,
   fun D n ⟨a, dx, w, u, hv, m, h, h1, h3, h2⟩ => ⟨a, dx, w, u, hv, mu_grow n m h, h, Rep.grow D n h1, Rep.grow D n h3, h2⟩,
   fun D ⟨a, dx, w, u, hv, m, h, h1, h3, h2⟩ => ⟨a, dx, w, u, hv, fun z => m (.inl z), h, Rep.shrink D h1, Rep.shrink D h3, h2⟩⟩
instance : Ins Rp .Rack ["_gauges"] := ⟨fun ⟨a, dx, w, hv, m, h, _⟩ => ⟨a, dx, _, hv, m, h, rfl⟩⟩
instance : Ins Rk .Rack ["_gauges", "_faults"] := ⟨fun ⟨a, dx, w, u, hv, m, h, _⟩ => ⟨a, dx, _, hv, m, h, rfl⟩⟩
section
variable {W : Wd} {Γ : Gam} {te : TE} {K : PySem.W.Frag}
theorem ev_pgauges {k : List Gau → Prop} (hK : W.B.K = K) (h : EvK W te Γ fun r : Rp => k r.gs) : EvK W (tFld K te "_gauges") Γ k := by
  subst hK
  refine fun σ H Q E c => h σ H _ E fun v H1 r e1 d z => ?_
  obtain ⟨a, dx, w, hv, m, hH, hw, hT⟩ := d
  exact ⟨a, _, dx, _, w, hv, hH, hT.cl, hT.ng, by simp [List.lookup], c w H1 r.gs e1 hw z⟩
theorem ev_kgauges {k : List Gau → Prop} (hK : W.B.K = K) (h : EvK W te Γ fun r : Rk => k r.gs) : EvK W (tFld K te "_gauges") Γ k := by
  subst hK
  refine fun σ H Q E c => h σ H _ E fun v H1 r e1 d z => ?_
  obtain ⟨a, dx, w, u, hv, m, hH, hw, hu, hT⟩ := d
  exact ⟨a, _, dx, _, w, hv, hH, hT.cl, hT.ng, by simp [List.lookup], c w H1 r.gs e1 hw z⟩
theorem ev_kfaults {k : List (List Str) → Prop} (hK : W.B.K = K) (h : EvK W te Γ fun r : Rk => k r.fl) : EvK W (tFld K te "_faults") Γ k := by
  subst hK
  refine fun σ H Q E c => h σ H _ E fun v H1 r e1 d z => ?_
  obtain ⟨a, dx, w, u, hv, m, hH, hw, hu, hT⟩ := d
  have hne : (("_faults" : Str) == "_gauges") = false := by decide +kernel
  exact ⟨a, _, dx, _, u, hv, hH, hT.cl, hT.nf, by simp [List.lookup, hne], c u H1 r.fl e1 hu z⟩
end
/-- a rack in the making, looked at -/
theorem rp_look {B : Bs} {L : OwnH} {p dx q : Addr} {fs : List (Str × V)} {vs : List V} {gs : List Gau} (hT : RackT B) (hp : (p, HO.ins (B.cl .Rack) dx fs) ∈ L) (hq : (q, HO.lst vs) ∈ L) (W : Wc) (H : Hp) (hB : W.B = B) (pin : ∀ x ∈ L, ¬ W.mu x.1 ∧ H x.1 = some x.2)
    (h : FRep.fd W H fs ((⟨"_gauges", ⟨q, vs, gs⟩⟩, ()) : Fd (Ol Gau) × Unit)) : den W H (.ref p) (Rp.mk gs) := by
  subst hB
  obtain ⟨hfs, hd⟩ := ol_den h
  obtain ⟨m1, h1⟩ := pin _ hp
  obtain ⟨m2, h2⟩ := pin _ hq
  have h1 : H p = some (.ins (W.B.cl .Rack) dx fs) := h1
  rw [hfs] at h1
  exact ⟨p, dx, .ref q, rfl, m1, h1, ⟨q, vs, rfl, ⟨m2, h2⟩, hd⟩, hT⟩
end G
namespace G
open PySem PySem.Spec PyProof.Rows L2 StX
/-- x not in o, by the promise of o's __contains__ -/
theorem ev_notInOwn {W : Wd} {Γ : Gam} {te tb : TE} {α β : Type} {rα : Rep α} {rβ : Rep β} {C : Addr} {B : Bs} {P : PT} {E : XK} {k : Bool → Prop} (hB : W.B = B)
    (h : EvK W te Γ fun a : α => EvK W tb Γ fun s : β => OwnG β B C (P (fun t => ∃ b : Bool, t = T b ∧ k (!b)) (fun _ => False) [T s, T a])) : EvK W (tOp (rNotInOwn C (spG B P) E) te tb) Γ k := by
  subst hB
  refine ev_two (h.imp fun a ha => ha.imp fun s ⟨c, fl, iβ, hC, hp⟩ x y H Q o dx dy q => ?_)
  subst hC
  obtain ⟨p, dp, fs, hv, _, hH, _⟩ := iβ.at_ dy
  refine ⟨p, dp, fs, hv, hH, W, _, _, _, rfl, o, .cons (t := T s) dy (.cons (t := T a) dx .nil), hp, fun v H2 t e2 dt ⟨b, eb, kb⟩ => ?_, fun n d2 H2 _ _ z => z.elim⟩
  subst eb
  exact ⟨b, dt, q _ H2 (!b) e2 rfl kb⟩
end G
set_option Elab.async false
set_option linter.all false
set_option maxRecDepth 100000
set_option maxHeartbeats 2000000
namespace G
open PySem PySem.Spec PyProof.Rows L2 StX
abbrev dcE (kx vx t1 i1 t2 i2 : Expr) (sc : Scope) (ps : Pos) : Expr := .DictComp kx vx [⟨t1, i1, [], 0⟩, ⟨t2, i2, [], 0⟩] sc ps
section
variable {prog : Program} {w : World} {A : Around} {R : Result → Shared → Prop} {s : Shared} {kx vx t1 i1 t2 i2 : Expr} {sc : Scope} {ps : Pos} {it : Value} {D : Addr} {env : Env}
theorem dc2_outer : compTurn (dcE kx vx t1 i1 t2 i2 sc ps) 0 it (.ref D) env = (do
    standAt i1.pos
    match ← pyNext it with
    | none => pure (.done .next)
    | some u =>
      letOwnedTupleGo t1 it u
      assign t1 env u
      let y ← eval i2 env
      standAt i2.pos
      let y ← foldedSetIterable i2 env y
      let _ ← runOwn (.compStart (dcE kx vx t1 i1 t2 i2 sc ps) 1 (← holding [y] (pyIter y)) (.ref D) env) env
      again (.compLoop (dcE kx vx t1 i1 t2 i2 sc ps) 0 it (.ref D) env)) := by rfl
theorem dc2_inner : compTurn (dcE kx vx t1 i1 t2 i2 sc ps) 1 it (.ref D) env = (do
    standAt i2.pos
    match ← pyNext it with
    | none => pure (.done .next)
    | some u =>
      letOwnedTupleGo t2 it u
      assign t2 env u
      (do
        let kv ← eval kx env
        let vv ← holding [kv] (eval vx env)
        standAt { kx.pos with endLine := vx.pos.endLine, endCol := vx.pos.endCol }
        holding [kv, vv] (dictSet D kv vv))
      again (.compLoop (dcE kx vx t1 i1 t2 i2 sc ps) 1 it (.ref D) env)) := by rfl
/-- the outer loop by a measured invariant: in a turn the second clause runs to its end -/
theorem dc2_loop0 (hf : ∀ y, foldedSetIterable i2 env y = pure y) (J : Nat → Shared → Prop)
    (tn : ∀ n z, J n z → wpAny (model prog w) A (pyNext it) (fun r z1 => match r with
      | none => R (.ok .next) z1
      | some u => wpAny (model prog w) A (letOwnedTupleGo t1 it u) (fun _ z2 => wpAny (model prog w) A (assign t1 env u) (fun _ z3 => wpAny (model prog w) A (eval i2 env) (fun y z4 => wpAny (model prog w) A (pyIter y) (fun i' z5 =>
          codeAny (model prog w) A (.compStart (dcE kx vx t1 i1 t2 i2 sc ps) 1 i' (.ref D) env) (fun r z6 => (∃ f, r = .ok f) ∧ ∃ k, k < n ∧ J k z6) z5)
            (notedBy (model prog w) A env fun e z => R (.error e) z) z4) (notedBy (model prog w) A env fun e z => R (.error e) z) z3) (notedBy (model prog w) A env fun e z => R (.error e) z) z2) (notedBy (model prog w) A env fun e z => R (.error e) z) z1) (notedBy (model prog w) A env fun e z => R (.error e) z) z)
    (n : Nat) (h : J n s) : codeAny (model prog w) A (.compLoop (dcE kx vx t1 i1 t2 i2 sc ps) 0 it (.ref D) env) R s := by
  apply codeAny_loop rfl J _ n h
  intro n z hz
  apply wpAny_noted
  rw [dc2_outer]
  refine wpAny_bind (wpAny_standAt (wpAny_bind (wpAny_mono (tn n z hz) (fun r z1 q1 => ?_) fun _ _ q => q)))
  match r, q1 with
  | none, q1 => exact wpAny_pure q1
  | some u, q1 =>
    refine wpAny_bind (wpAny_mono q1 (fun _ z2 q2 => wpAny_bind (wpAny_mono q2 (fun _ z3 q3 => ?_) fun _ _ q => q)) fun _ _ q => q)
    refine wpAny_bind (wpAny_mono q3 (fun y z4 q4 => wpAny_bind (wpAny_standAt (wpAny_bind (wpAny_of_eq (hf y) ?_)))) fun _ _ q => q)
    refine wpAny_bind (wpAny_holding (wpAny_mono q4 (fun i' z5 q5 => wpAny_bind (wpAny_runOwn ?_)) fun _ _ q => q))
    rw [Around.mark_none]
    apply codeAny_mono q5
    rintro r z6 ⟨⟨f, rfl⟩, hk⟩
    first
    | exact wpAny_pure ⟨rfl, hk⟩
    | exact wpAny_bind (wpAny_pure (wpAny_pure ⟨rfl, hk⟩))
theorem dc2_loop1 (J : Nat → Shared → Prop)
    (tn : ∀ n z, J n z → wpAny (model prog w) A (pyNext it) (fun r z1 => match r with
      | none => R (.ok .next) z1
      | some u => wpAny (model prog w) A (letOwnedTupleGo t2 it u) (fun _ z2 => wpAny (model prog w) A (assign t2 env u) (fun _ z3 => wpAny (model prog w) A (eval kx env) (fun y z4 => wpAny (model prog w) A (eval vx env) (fun vv z45 =>
          wpAny (model prog w) A (dictSet D y vv) (fun _ z5 => ∃ k, k < n ∧ J k z5)
            (notedBy (model prog w) A env fun e z => R (.error e) z) z45) (notedBy (model prog w) A env fun e z => R (.error e) z) z4) (notedBy (model prog w) A env fun e z => R (.error e) z) z3) (notedBy (model prog w) A env fun e z => R (.error e) z) z2) (notedBy (model prog w) A env fun e z => R (.error e) z) z1) (notedBy (model prog w) A env fun e z => R (.error e) z) z)
    (n : Nat) (h : J n s) : codeAny (model prog w) A (.compLoop (dcE kx vx t1 i1 t2 i2 sc ps) 1 it (.ref D) env) R s := by
  apply codeAny_loop rfl J _ n h
  intro n z hz
  apply wpAny_noted
  rw [dc2_inner]
  refine wpAny_bind (wpAny_standAt (wpAny_bind (wpAny_mono (tn n z hz) (fun r z1 q1 => ?_) fun _ _ q => q)))
  match r, q1 with
  | none, q1 => exact wpAny_pure q1
  | some u, q1 =>
    refine wpAny_bind (wpAny_mono q1 (fun _ z2 q2 => wpAny_bind (wpAny_mono q2 (fun _ z3 q3 => wpAny_bind ?_) fun _ _ q => q)) fun _ _ q => q)
    exact wpAny_bind (wpAny_mono q3 (fun y z4 q4 => wpAny_bind (wpAny_holding (wpAny_mono q4 (fun vv z45 q45 => wpAny_bind (wpAny_standAt (wpAny_holding (wpAny_mono q45 (fun _ z5 q5 => wpAny_pure ⟨rfl, q5⟩) fun _ _ q => q)))) fun _ _ q => q))) fun _ _ q => q)
/-- the second clause begins -/
theorem dc2_start1 (h0 : codeAny (model prog w) A (.compLoop (dcE kx vx t1 i1 t2 i2 sc ps) 1 it (.ref D) env) R s)
    (h : wpAny (model prog w) A (pyIter it) (fun i' z => codeAny (model prog w) A (.compLoop (dcE kx vx t1 i1 t2 i2 sc ps) 1 i' (.ref D) env) R z) (notedBy (model prog w) A env fun e z => R (.error e) z) s) :
    codeAny (model prog w) A (.compStart (dcE kx vx t1 i1 t2 i2 sc ps) 1 it (.ref D) env) R s := by
  apply codeAny_of_tree
  apply wpAny_notedAt
  unfold compStart
  refine wpAny_bind (wpAny_askSetting (wpAny_ite ?_))
  split
  · first
    | exact wpAny_bind (wpAny_pure (wpAny_pure ⟨rfl, h0⟩))
    | exact wpAny_pure ⟨rfl, h0⟩
  · have go : ∀ i' z, codeAny (model prog w) A (.compLoop (dcE kx vx t1 i1 t2 i2 sc ps) 1 i' (.ref D) env) R z → _ := fun i' z q => q
    first
    | exact wpAny_bind (wpAny_rule (wpAny_bind (wpAny_standAt (wpAny_bind (wpAny_mono h (fun _ _ q => wpAny_pure ⟨rfl, q⟩) fun _ _ q => q)))))
    | (apply wpAny_bind; apply wpAny_rule; exact wpAny_bind (wpAny_standAt (wpAny_bind (wpAny_mono h (fun _ _ q => wpAny_pure ⟨rfl, q⟩) fun _ _ q => q))))
end
end G
namespace G
open PySem PySem.Spec PyProof.Rows L2 StX
def tDc2 (wi : TI) (g : TG) (wj : TI) (g2 : TG) (tk tv : TE) (vs vs1 : List Nat) : TE := fun σ H Q => wi σ H fun J H1 => ∀ D, H1 D = none → ∃ W : Nat → Nat → Hp → Prop, (∃ m, W 0 m (upd H1 D (.dK []))) ∧
  ∀ i m H2, W i m H2 → (J.stop i H2 ∧ Q (.ref D) H2) ∨ (J.go i H2 ∧ ∃ Z : Hp → Prop, (∀ H', Z H' → ∃ m', m' < m ∧ W (i + 1) m' H') ∧
    ∀ x H', J.yld i H2 x H' → g x (wipe σ vs) H' fun σ2 H3 => wipe σ2 vs = wipe σ vs ∧ wj σ2 H3 fun J1 H4 => ∃ V1 : Nat → Nat → Hp → Prop, (∃ k, V1 0 k H4) ∧
      ∀ j k H5, V1 j k H5 → (J1.stop j H5 ∧ Z H5) ∨ (J1.go j H5 ∧ ∃ Z1 : Hp → Prop, (∀ H', Z1 H' → ∃ k', k' < k ∧ V1 (j + 1) k' H') ∧
        ∀ x H', J1.yld j H5 x H' → g2 x (wipe σ2 vs1) H' fun σ3 H6 => wipe σ3 vs1 = wipe σ2 vs1 ∧ tk σ3 H6 fun y H7 => tv σ3 H7 fun z H8 => ∃ kvs k, y = kV k ∧ H8 D = some (.dK kvs) ∧ kvs.length < sizeLine ∧ Z1 (upd H8 D (.dK (putK kvs k z)))))
section
variable {X : Cx}
/-- the second clause, from its source on, in the block's context Y -/
theorem dc2_second {Y : Cx} {kx vx t1 i1 t2 i2 : Expr} {sc : Scope} {ps : Pos} {vs1 : List Nat} {wj : TI} {g2 : TG} {tk tv : TE} {D : Addr} {Z : Hp → Prop} {pins : List (Addr × Obj)} {σ2 : L2.St} {H4 : Hp} {z : Shared} {E : Value → Shared → Prop}
    (hc : Y.calm = true) (hxe : Y.xe = fun _ _ => False) (pj : L2.PI Y t2 i2 wj) (pg2 : PG Y t2 g2) (pk : PE Y kx tk) (pe : PE Y vx tv) (I : L2.Inv Y pins σ2 H4 z)
    (q : wj σ2 H4 fun J1 H4 => ∃ V1 : Nat → Nat → Hp → Prop, (∃ k, V1 0 k H4) ∧ ∀ j k H5, V1 j k H5 → (J1.stop j H5 ∧ Z H5) ∨ (J1.go j H5 ∧ ∃ Z1 : Hp → Prop, (∀ H', Z1 H' → ∃ k', k' < k ∧ V1 (j + 1) k' H') ∧
        ∀ x H', J1.yld j H5 x H' → g2 x (wipe σ2 vs1) H' fun σ3 H6 => wipe σ3 vs1 = wipe σ2 vs1 ∧ tk σ3 H6 fun y H7 => tv σ3 H7 fun z H8 => ∃ kvs k, y = kV k ∧ H8 D = some (.dK kvs) ∧ kvs.length < sizeLine ∧ Z1 (upd H8 D (.dK (putK kvs k z))))) :
    wpAny (model Y.prog Y.w) Y.A (eval i2 Y.env) (fun y z1 => wpAny (model Y.prog Y.w) Y.A (pyIter y) (fun i' z2 =>
      codeAny (model Y.prog Y.w) Y.A (.compStart (dcE kx vx t1 i1 t2 i2 sc ps) 1 i' (.ref D) Y.env) (fun r z3 => (∃ f, r = .ok f) ∧ ∃ H', L2.Inv Y pins (wipe σ2 vs1) H' z3 ∧ Z H') z2) E z1) E z := by
  have run := pj.run pins z σ2 H4 _ I q
  rw [hxe] at run
  refine thnF run fun y z1 a => thnF a fun i' z2 b => ?_
  obtain ⟨it, fp, tn, J1, H5, rfl, I5, T1, st, f5, V1, ⟨k0, v0⟩, turn⟩ := b
  have fpy : ∀ {H' : Hp}, (∀ b ∈ fp, H' b = none) → ∀ b ∈ fp, FpOk Y pins H' b := fun hn b hb => ⟨hn b hb, (f5 b hb).2⟩
  have loop : codeAny (model Y.prog Y.w) Y.A (.compLoop (dcE kx vx t1 i1 t2 i2 sc ps) 1 (.ref it) (.ref D) Y.env) (fun r z3 => (∃ f, r = .ok f) ∧ ∃ H', L2.Inv Y pins (wipe σ2 vs1) H' z3 ∧ Z H') z2 := by
    refine dc2_loop1 (fun n z => ∃ j H', L2.Inv Y pins (wipe σ2 vs1) H' z ∧ tn j z.heap ∧ (∀ b ∈ fp, H' b = none) ∧ V1 j n H') ?_ k0 ⟨0, H5, I5.weak (wipe_length _ _) (fun _ _ e => (wipe_some e).1), st, fun b hb => (f5 b hb).1, v0⟩
    rintro n z5 ⟨j, H6, I6, st6, n6, v6⟩
    rcases turn j n H6 v6 with ⟨stop, nx⟩ | ⟨go, Z1, hZ1, step⟩
    · refine thnF (T1.done Y rfl rfl rfl hc j pins z5 _ H6 (fun _ _ => False) I6 (fpy n6) st6 stop) fun r z6 ⟨hr, I7⟩ => ?_
      subst hr
      exact ⟨⟨_, rfl⟩, H6, I7, nx⟩
    · refine thnF (T1.item Y rfl rfl rfl hc j pins z5 _ H6 (fun _ _ => False) I6 (fpy n6) st6 go) fun r z6 ⟨u, hr, a⟩ => ?_
      subst hr
      refine thnF a fun _ z7 ⟨x, H7, I7, rx, y7, st7, n7⟩ => ?_
      have r2 := pg2.run _ z7 (wipe σ2 vs1) H7 x u _ (I7.pinned (fpy n7) (T1.obj _ _ st7)) rx (step x H7 y7)
      rw [hxe] at r2
      refine thnF r2 fun _ z8 ⟨σ8, H8, I8, hw8, q8⟩ => ?_
      have r3 := pk.run _ z8 σ8 H8 _ I8 q8
      rw [hxe] at r3
      refine thnF r3 fun u9 z9 ⟨yv, H9, I9, r9, q9⟩ => ?_
      have r4 := pe.run _ z9 σ8 H9 _ I9 q9
      rw [hxe] at r4
      refine thnF r4 fun u95 z95 ⟨zv, H95, I95, r95, kvs, kk, hy, hD9, room, nz⟩ => ?_
      subst hy
      refine d_dictSet I95 hD9 room r9 r95 fun z10 I10 => ?_
      obtain ⟨k', hk', w'⟩ := hZ1 _ nz
      have still : ∀ b ∈ fp, ∀ o, z7.heap.get? b = some o → z10.heap.get? b = some o ∧ (upd H95 D (.dK (putK kvs kk zv))) b = none := fun b hb o e => by
        have p := I10.pin (b, o) (List.mem_append_right _ (List.mem_append_right _ (mem_pinsAt hb e)))
        exact ⟨p.1, p.2.1⟩
      refine ⟨k', hk', j + 1, _, I10.unpinned.weak (by rw [← hw8, wipe_length]) (fun i v e => ?_), T1.keep _ _ _ st7 fun b hb o e => (still b hb o e).1, fun b hb => ?_, w'⟩
      · rw [← hw8] at e
        exact (wipe_some e).1
      · obtain ⟨o, e, _⟩ := T1.obj _ _ st7 b hb
        exact (still b hb o e).2
  exact dc2_start1 loop (T1.self Y.A 0 z2 _ _ st loop)
theorem pe_dc2 {kx vx t1 i1 t2 i2 : Expr} {sc : Scope} {ps : Pos} {own : List (Str × Nat)} {vs1 : List Nat} {wi wj : TI} {g g2 : TG} {tk tv : TE} (hc : X.calm = true) (hN : X.N.Nodup) (hi : L2.PI X t1 i1 wi) (ok : BlkOk X.N X.env.scope sc own) (hv : ∀ i ∈ vs1, i ∈ own.map (·.2))
    (hg : ∀ (s : Shared) (H : Hp) (C : Addr) (cl : List (Str × Addr)) (fp : List Addr), PG (X.blk s H sc (compEnvC sc cl C X.env) fp) t1 g)
    (hj : ∀ (s : Shared) (H : Hp) (C : Addr) (cl : List (Str × Addr)) (fp : List Addr), L2.PI (X.blk s H sc (compEnvC sc cl C X.env) fp) t2 i2 wj)
    (hg2 : ∀ (s : Shared) (H : Hp) (C : Addr) (cl : List (Str × Addr)) (fp : List Addr), PG (X.blk s H sc (compEnvC sc cl C X.env) fp) t2 g2)
    (hk : ∀ (s : Shared) (H : Hp) (C : Addr) (cl : List (Str × Addr)) (fp : List Addr), PE (X.blk s H sc (compEnvC sc cl C X.env) fp) kx tk)
    (he : ∀ (s : Shared) (H : Hp) (C : Addr) (cl : List (Str × Addr)) (fp : List Addr), PE (X.blk s H sc (compEnvC sc cl C X.env) fp) vx tv)
    (hf1 : ∀ y, foldedSetIterable i1 X.env y = pure y := by intro _; rfl) (hf2 : ∀ e y, foldedSetIterable i2 e y = pure y := by intro _ _; rfl) :
    PE X (dcE kx vx t1 i1 t2 i2 sc ps) (tDc2 wi g wj g2 tk tv (own.map (·.2)) vs1) := by
  constructor
  intro pins s σ H Q I h
  rw [arm_eval_DictComp]
  have hfree : ∀ y ∈ sc.names, y.2 = .free → ∃ c, X.env.cells.lookup y.1 = some c := by
    intro y hy e
    exact (ok.free y hy e).elim (fun q => I.ok.has _ (.inl q)) fun q => I.ok.has _ (.inr q)
  refine wpAny_comprehension_free (use := none) rfl hf1 (closure_ok hfree) ok.kind (fun y hy e => by rw [ok.uniq y hy, e]) (thn (hi.run pins s σ H _ I h) fun _ _ a => thn a fun _ z2 a => ?_)
  obtain ⟨it, fp, tn, J, H2, rfl, I2, T, st2, f2, q⟩ := a
  refine wpAny_newObj_type (newEnv_comp ?_)
  obtain ⟨D, hD⟩ : ∃ D, z2.heap.objs.size = D := ⟨_, rfl⟩
  rw [hD]
  have nD : H2 D = none := I2.hok.fresh (Nat.le_of_eq hD)
  obtain ⟨W, ⟨m0, w0⟩, turn⟩ := q D nD
  obtain ⟨z3, hz3⟩ : ∃ z3 : Shared, ({ z2 with heap := z2.heap.push { cls := .type "dict", data := .dict #[] } } : Shared) = z3 := ⟨_, rfl⟩
  have hh3 : z3.heap = z2.heap.push { cls := .type "dict", data := .dict #[] } := by rw [← hz3]
  have kp3 : ∀ b o, z2.heap.get? b = some o → z3.heap.get? b = some o := fun b o e => by rw [hh3]; exact Heap.get?_push_of_some _ e
  obtain ⟨H3, hH3⟩ : ∃ H3, upd H2 D (.dK []) = H3 := ⟨_, rfl⟩
  rw [hH3] at w0
  have I3 : L2.Inv X pins σ H3 z3 := by
    rw [← hH3, ← hz3]
    refine I2.laid (t' := z2.toks) (fun _ _ e => Heap.get?_push_of_some _ e) (Nat.le_of_eq hD) ?_
    rw [← hD]
    exact dk_empty z2.heap I2.big
  have small : ∀ b ∈ fp, b < z2.heap.objs.size := fun b hb => (T.obj _ _ st2 b hb).elim fun o e => Heap.lt_size e.1
  have n3 : ∀ b ∈ fp, H3 b = none := fun b hb => by
    have hne : b ≠ D := Nat.ne_of_lt (hD ▸ small b hb)
    rw [← hH3, upd_ne hne]
    exact (f2 b hb).1
  have f3 : ∀ b ∈ fp, FpOk X pins H3 b ∧ b < z3.heap.objs.size := fun b hb =>
    ⟨⟨n3 b hb, (f2 b hb).2⟩, by rw [hh3, Heap.size_push]; exact Nat.lt_succ_of_lt (small b hb)⟩
  have st3 : tn 0 z3.heap := T.keep _ _ _ st2 fun b _ o e => kp3 b o e
  have I4 := block_start I3 ok hN f3
  -- the block
  obtain ⟨ce, hce⟩ : ∃ ce, compEnvC sc (cellsFrom (z3.heap.objs.size + 1) sc.names (cloFrom X.env.cells sc.names [])) z3.heap.objs.size X.env = ce := ⟨_, rfl⟩
  have pg := hg z3 H3 z3.heap.objs.size (cellsFrom (z3.heap.objs.size + 1) sc.names (cloFrom X.env.cells sc.names [])) fp
  have pj := hj z3 H3 z3.heap.objs.size (cellsFrom (z3.heap.objs.size + 1) sc.names (cloFrom X.env.cells sc.names [])) fp
  have pg2 := hg2 z3 H3 z3.heap.objs.size (cellsFrom (z3.heap.objs.size + 1) sc.names (cloFrom X.env.cells sc.names [])) fp
  have pk := hk z3 H3 z3.heap.objs.size (cellsFrom (z3.heap.objs.size + 1) sc.names (cloFrom X.env.cells sc.names [])) fp
  have pe := he z3 H3 z3.heap.objs.size (cellsFrom (z3.heap.objs.size + 1) sc.names (cloFrom X.env.cells sc.names [])) fp
  rw [hce] at I4 pg pj pg2 pk pe
  have hloc : ce.locals = z3.heap.objs.size := by rw [← hce]; rfl
  obtain ⟨z4, hz4⟩ : ∃ z4 : Shared, ({ z3 with heap := pushCells (z3.heap.push { cls := .type "dict", data := .dict #[] }) sc.names } : Shared) = z4 := ⟨_, rfl⟩
  rw [hz4] at I4
  have st4 : tn 0 z4.heap := T.keep _ _ _ st3 fun b _ o e => by rw [← hz4]; exact pushCells_keeps _ _ _ _ (Heap.get?_push_of_some _ e)
  have stay : ∀ {σ' : L2.St} {H' : Hp} {z : Shared}, L2.Inv (X.blk z3 H3 sc ce fp) [] σ' H' z → (∀ b ∈ fp, H' b = none) → ∀ b ∈ fp, FpOk (X.blk z3 H3 sc ce fp) [] H' b := blk_fp
  have loop : codeAny (model X.prog X.w) X.A (.compLoop (dcE kx vx t1 i1 t2 i2 sc ps) 0 (.ref it) (.ref D) ce) (compPost (model X.prog X.w) X.A X.xe none (EP X pins σ Q) (.ref D) z3.heap.objs.size) z4 := by
    refine dc2_loop0 (hf2 ce) (fun n z => ∃ i H', L2.Inv (X.blk z3 H3 sc ce fp) [] (wipe σ (own.map (·.2))) H' z ∧ tn i z.heap ∧ (∀ b ∈ fp, H' b = none) ∧ W i n H') ?_ m0 ⟨0, H3, I4, st4, n3, w0⟩
    rintro n z5 ⟨i, H5, I5, st5, n5, w5⟩
    rcases turn i n H5 w5 with ⟨stop, qq⟩ | ⟨go, Z, hZ, step⟩
    · refine thnF (T.done (X.blk z3 H3 sc ce fp) rfl rfl rfl hc i [] z5 _ H5 (fun _ _ => False) I5 (stay I5 n5) st5 stop) fun r z6 ⟨hr, I6⟩ => ?_
      subst hr
      have I7 : L2.Inv X pins σ H5 z6 := I3.call' (ch := fp) I6.os I6.base I6.hok I6.bare fun b hb => by
        obtain ⟨_, a1, a2, a3, a4, a5⟩ := (f3 b hb).1
        exact ⟨a3, a1, a4, a5⟩
      have nC : H5 z3.heap.objs.size = none := by
        have z : H5 ce.locals = none := I6.free
        rw [hloc] at z
        exact z
      obtain ⟨m, hn, _⟩ := I6.loc
      have hn : z6.heap.Ns ce.locals m := hn
      rw [hloc] at hn
      obtain ⟨b0, b1, b2, b3, b4, b5⟩ := I3.fpOk (Nat.le_refl _) nC
      exact ⟨m, hn, fun h'' sb => ⟨.ref D, H5, I7.turned (t' := z6.toks) (fun b o hb e => (sb.2 b hb).trans e) b0 b1 b3 b4 b5, rfl, qq⟩⟩
    · refine thnF (T.item (X.blk z3 H3 sc ce fp) rfl rfl rfl hc i [] z5 _ H5 (fun _ _ => False) I5 (stay I5 n5) st5 go) fun r z6 ⟨u, hr, a⟩ => ?_
      subst hr
      refine thnF a fun _ z7 ⟨x, H7, I7, rx, y7, st7, n7⟩ => ?_
      refine thnF (pg.run _ z7 _ H7 x u _ (I7.pinned (stay I7 n7) (T.obj _ _ st7)) rx (step x H7 y7)) fun _ z8 ⟨σ8, H8, I8, hw8, q8⟩ => ?_
      refine thnF (dc2_second (Y := X.blk z3 H3 sc ce fp) (kx := kx) (vx := vx) (t1 := t1) (i1 := i1) (sc := sc) (ps := ps) (D := D) (vs1 := vs1) hc rfl pj pg2 pk pe I8 q8) fun y z9 a => thnF a fun i' z10 b => codeAny_mono b fun r z11 ⟨hr, H11, I11, hz⟩ => ⟨hr, ?_⟩
      obtain ⟨m', hm', w'⟩ := hZ _ hz
      have still : ∀ b ∈ fp, ∀ o, z7.heap.get? b = some o → z11.heap.get? b = some o ∧ H11 b = none := fun b hb o e => by
        have p := I11.pin (b, o) (List.mem_append_right _ (List.mem_append_right _ (mem_pinsAt hb e)))
        exact ⟨p.1, p.2.1⟩
      refine ⟨m', hm', i + 1, H11, (I11.unpinned (pins := [])).weak (by rw [← hw8, wipe_length, wipe_length]) (fun j v e => ?_), T.keep _ _ _ st7 fun b hb o e => (still b hb o e).1, fun b hb => ?_, w'⟩
      · rw [← hw8] at e
        obtain ⟨e1, e2⟩ := wipe_some e
        rw [wipe_out fun z => e2 (hv j z)]
        exact e1
      · obtain ⟨o, e, _⟩ := T.obj _ _ st7 b hb
        exact (still b hb o e).2
  subst hz4
  subst hce
  subst hz3
  exact codeAny_compStart_dict loop (T.self X.A 0 _ _ _ st4 loop)
end
end G
namespace G
open PySem PySem.Spec PyProof.Rows L2 StX
theorem Dk.append {β : Type} {f : V → β → Prop} : ∀ {a b : List (Key × V)} {l m : List (Str × β)}, Dk f a l → Dk f b m → Dk f (a ++ b) (l ++ m)
  | _, _, _, _, .nil, h => h
  | _, _, _, _, .cons x y, h => .cons x (y.append h)
theorem mergeD_append {β : Type} (l a b : List (Str × β)) : mergeD l (a ++ b) = mergeD (mergeD l a) b := by unfold mergeD; rw [List.foldl_append]
section
variable {W : Wd} {Γ : Gam} {tk tv : TE} {g g2 : TG} {wi wi2 : TI}
/-- a turn of the outer clause -/
def Dc2Turn {α β γ : Type} [Rep α] [Rep β] [Rep γ] (W0 W : Wd) (g : TG) (wi2 : TI) (g2 : TG) (tk tv : TE) (vs vs1 : List Nat) (Γ : Gam) (a : α) (f : List (Str × γ)) : Prop :=
  ∃ js : List Nat, (js.all fun j => vs.contains j) = true ∧ Tj W js g (wipeE Γ vs) a fun Γ1 => EvI W wi2 Γ1 fun bs : List β => ∃ h : β → Str × γ, bs.map h = f ∧
    ∀ W', Sub W0 W' → ∀ b ∈ bs, ∃ js2 : List Nat, (js2.all fun j => vs1.contains j) = true ∧ Tj W' js2 g2 (wipeE Γ1 vs1) b fun Γ2 => EvK W' tk Γ2 fun y : Str => y = (h b).1 ∧ EvK W' tv Γ2 fun z : γ => z = (h b).2
theorem putDc_len {β : Type} (l : List (Str × β)) (k : Str) (b : β) : (putDc l k b).length ≤ l.length + 1 := by
  unfold putDc
  split
  · rw [List.length_map]; omega
  · rw [List.length_append]; exact Nat.le_refl _
theorem mergeD_len {β : Type} : ∀ (m l : List (Str × β)), (mergeD l m).length ≤ l.length + m.length
  | [], l => Nat.le_refl _
  | (k, b) :: r, l => by
    show (mergeD (putDc l k b) r).length ≤ _
    have h1 := mergeD_len r (putDc l k b)
    have h2 := putDc_len l k b
    rw [List.length_cons]
    omega
theorem ev_dc2 {α β γ : Type} {rα : Rep α} {rβ : Rep β} {rγ : Rep γ} {vs vs1 : List Nat} (f : α → List (Str × γ)) {k : Dc γ → Prop}
    (h : EvI W wi Γ fun as : List α => ((as.flatMap f).length ≤ 100000) ∧ (∀ W', Sub W W' → ∀ a ∈ as, Dc2Turn (β := β) W W' g wi2 g2 tk tv vs vs1 Γ a (f a)) ∧ k ⟨mergeD [] (as.flatMap f)⟩) :
    EvK W (tDc2 wi g wi2 g2 tk tv vs vs1) Γ k := by
  intro σ H Q G c
  refine h σ H _ G fun J H1 as e1 it ⟨hbig, hs, hk⟩ D n => ?_
  have G1 := G.ext e1
  have nm : ¬ W.mu D := fresh_mu e1.ok n
  let P : List (Str × γ) → Hp → Prop := fun ys H' => Ext W H1 H' ∧ ∃ us, H' D = some (.dK us) ∧ Dk (den (W.toWc.plus D) H') us (mergeD [] ys)
  refine turns (J := J) (n := as.length) (fun i H' => P ((as.take i).flatMap f) H') ⟨Ext.new e1.ok n, [], upd_same, .nil⟩ (fun i H' hi ⟨e, _⟩ => it.go i H' e.keep hi) (fun H' ⟨e, _⟩ => it.stop H' e.keep) ?_ ?_
  · rintro i H' x H'' hi ⟨e, ws, hD, hw⟩ hy
    obtain ⟨a, ea, nw, -, dpl⟩ := it.yld i H' x H'' e.keep (fun a m => W.live H' a e.ok m) hi hy
    have da := dpl D _ n hD
    have e2 : Ext W H1 H'' := e.trans (nw.ext e.ok)
    have hD2 : H'' D = some (.dK ws) := nw.gr hD
    have hw2 : Dk (den (W.toWc.plus D) H'') ws (mergeD [] ((as.take i).flatMap f)) := hw.imp fun _ _ d => Rep.mono (W := W.toWc.plus D) nw.kp d
    have ham : a ∈ as := List.mem_of_getElem? ea
    have htk : (as.take (i + 1)).flatMap f = (as.take i).flatMap f ++ f a := by
      rw [List.take_succ, ea, List.flatMap_append]
      simp
    have hlen : ((as.take (i + 1)).flatMap f).length ≤ 100000 := by
      have e2 : (as.flatMap f).length = ((as.take (i + 1)).flatMap f).length + ((as.drop (i + 1)).flatMap f).length := by
        rw [← List.length_append, ← List.flatMap_append, List.take_append_drop]
      omega
    obtain ⟨js, hjs, tj⟩ := hs _ (Sub.plusO (o := .dK ws) (n := n) (o1 := e1.ok) (w1 := G1.wish)) a ham
    have kp : Kp (W.toWc.plus D) H1 H'' := fun b o mb z => e2.keep b o (fun z => mb (.inl z)) z
    have G2 : GOk (W.plusO D (.dK ws) H1 n e1.ok G1.wish) H'' σ Γ := ⟨⟨e2.ok, hD2⟩, fun b o mb z => e2.keep b o mb z, fun j t hj => by
      obtain ⟨u, h1, h2⟩ := G1.at_ j t hj
      exact ⟨u, h1, Ty.mono kp (t.r.grow D n h2)⟩, G1.len⟩
    refine tj (wipe σ vs) H'' x _ (G2.wipe vs) da fun σ2 Γ2 G3 m2 q2 => ⟨wipe_same m2 (js_in hjs), ?_⟩
    show wi2 σ2 H'' _
    refine q2 σ2 H'' _ G3 fun J1 H4 bs e4 it2 ⟨hf, hmap, turn⟩ => ?_
    have back4 : Ext W H1 H4 := ⟨fun b o mb z => by
      have hne : b ≠ D := fun q => by rw [q, n] at z; cases z
      exact e4.keep b o (fun q => q.elim mb hne) (e2.keep b o mb z), e4.ok.1⟩
    have hD4 : H4 D = some (.dK ws) := e4.ok.2
    have hw4 : Dk (den (W.toWc.plus D) H4) ws (mergeD [] ((as.take i).flatMap f)) := hw2.imp fun _ _ d => Rep.mono (W := W.toWc.plus D) e4.keep d
    refine turns (J := J1) (n := bs.length) (fun j H' => Kp (W.toWc.plus D) H4 H' ∧ P ((as.take i).flatMap f ++ (bs.take j).map hf) H') ⟨fun _ _ _ z => z, back4, ws, hD4, by simpa using hw4⟩ (fun j H' hj ⟨k, _⟩ => it2.go j H' k hj) (fun H' ⟨k, _⟩ => it2.stop H' k) ?_ ?_
    · rintro j H5 y H6 hj ⟨k5, e5, ws5, hD5, hw5⟩ hy2
      obtain ⟨b, eb, nw2, db, -⟩ := it2.yld j H5 y H6 k5 (fun a m => m.elim (fun m => W.live H5 a e5.ok m) fun e => ⟨_, (congrArg H5 e).trans hD5⟩) hj hy2
      have hbm : b ∈ bs := List.mem_of_getElem? eb
      have htk2 : (bs.take (j + 1)).map hf = (bs.take j).map hf ++ [hf b] := by
        rw [List.take_succ, eb, List.map_append]
        rfl
      have hlen5 : ((as.take i).flatMap f ++ (bs.take j).map hf).length ≤ 100000 := by
        have h1 : ((bs.take j).map hf).length ≤ (f a).length := by
          rw [← hmap, List.length_map, List.length_map]
          exact (List.take_sublist j bs).length_le
        rw [htk, List.length_append] at hlen
        rw [List.length_append]
        omega
      have e6 : Ext W H1 H6 := e5.trans (nw2.ext e5.ok)
      have hD6 : H6 D = some (.dK ws5) := nw2.gr hD5
      have k6 : Kp (W.toWc.plus D) H4 H6 := fun b o mb z => nw2.kp b o mb (k5 b o mb z)
      have hw6 : Dk (den (W.toWc.plus D) H6) ws5 (mergeD [] ((as.take i).flatMap f ++ (bs.take j).map hf)) := hw5.imp fun _ _ d => Rep.mono (W := W.toWc.plus D) nw2.kp d
      obtain ⟨js2, hjs2, tj2⟩ := turn _ (Sub.plusO (o := .dK ws5) (n := n) (o1 := e1.ok) (w1 := G1.wish)) b hbm
      have G4 := G3.ext e4
      have G6 : GOk (W.plusO D (.dK ws5) H1 n e1.ok G1.wish) H6 σ2 Γ2 := ⟨⟨e6.ok, hD6⟩, fun b o mb z => e6.keep b o mb z, fun q t hq => by
        obtain ⟨u, h1, h2⟩ := G4.at_ q t hq
        exact ⟨u, h1, Ty.mono (W := W.toWc.plus D) k6 h2⟩, G4.len⟩
      refine tj2 (wipe σ2 vs1) H6 y _ (G6.wipe vs1) db fun σ3 Γ3 G7 m3 q3 => ⟨wipe_same m3 (js_in hjs2), ?_⟩
      refine q3 σ3 H6 _ G7 fun yv H7 c0 e7 hc0 ⟨hcb, hv⟩ => ?_
      refine hv σ3 H7 _ (G7.ext e7) fun zv H8 c1 e8 hc1 hcb1 => ?_
      have hc0 : yv = .str c0 := hc0
      have e7' : Ext W H1 H7 := ⟨fun b o mb z => by
        have hne : b ≠ D := fun q => by rw [q, n] at z; cases z
        exact e7.keep b o (fun q => q.elim mb hne) (e6.keep b o mb z), e7.ok.1⟩
      have e8' : Ext W H1 H8 := ⟨fun b o mb z => by
        have hne : b ≠ D := fun q => by rw [q, n] at z; cases z
        exact e8.keep b o (fun q => q.elim mb hne) (e7'.keep b o mb z), e8.ok.1⟩
      refine ⟨ws5, .inr c0, hc0, e8.ok.2, ?_, ?_⟩
      · have h1 := mergeD_len ((as.take i).flatMap f ++ (bs.take j).map hf) []
        rw [hw5.length]
        exact Nat.lt_of_le_of_lt (Nat.le_trans h1 (by rw [List.length_nil]; omega)) (by decide : 100000 < sizeLine)
      · have kU : Kp (W.toWc.plus D) H8 (upd H8 D (.dK (putK ws5 (.inr c0) zv))) := fun b o mb z => by
          have hne : b ≠ D := fun q => mb (.inr q)
          rw [upd_ne hne]
          exact z
        refine ⟨fun b o mb z => kU b o mb (e8.keep b o mb (e7.keep b o mb (k6 b o mb z))), ⟨fun b o mb z => ?_, W.st _ _ _ e8'.ok nm⟩, _, upd_same, ?_⟩
        · have hne : b ≠ D := fun q => by rw [q, n] at z; cases z
          rw [upd_ne hne]
          exact e8'.keep b o mb z
        · rw [htk2, ← List.append_assoc, mergeD_append]
          subst hcb hcb1
          exact (Dk.put hc1 (hw6.imp fun _ _ d => Rep.mono (W := W.toWc.plus D) e8.keep (Rep.mono (W := W.toWc.plus D) e7.keep d))).imp fun _ _ d => Rep.mono (W := W.toWc.plus D) kU d
    · rintro H' ⟨k', p'⟩
      rw [List.take_length, hmap, ← htk] at p'
      exact p'
  · rintro H' ⟨e, us, hD, hw⟩
    rw [List.take_length] at hw
    exact c (.ref D) H' ⟨mergeD [] (as.flatMap f)⟩ (e1.trans e) ⟨D, us, rfl, ⟨nm, hD⟩, hw.imp fun _ _ d => Rep.shrink D d⟩ hk
end
end G
set_option Elab.async false
set_option linter.all false
set_option maxRecDepth 100000
set_option maxHeartbeats 2000000
namespace G
open PySem PySem.Spec PyProof.Rows L2 StX
/-- the keyword as it was written, or not at all -/
def KwOf (kn : Str) (dv v0 : V) (kws : List (Str × Value)) : Prop := (kws = [] ∧ v0 = dv) ∨ ∃ w0, kws = [(kn, w0)] ∧ RelV v0 w0
def spSK (sp : Sp) (v0 : V) : Sp := fun vs H Q E => ∃ a rest, vs = a :: rest ∧ rest.length ≤ sizeLine ∧ ∀ p, H p = Option.none → sp [a, v0, .ref p] (upd H p (.tup rest)) Q E
def FnSK (P : Program) (w : World) (K : PySem.W.Frag) (mg : Str → Option Value) (base : Heap) (CX : CXT) (k : Nat) (f : Addr) (kn : Str) (dv : V) (sp : Sp) : Prop :=
  ∀ (A : Around) (outer : List Env) (s : Shared) (H : Hp) (us : List Value) (vs : List V) (kws : List (Str × Value)) (v0 : V) (Q : VK) (E : XK), Room k A → Env0 P w K mg base A outer s H → Vals vs us → KwOf kn dv v0 kws → spSK sp v0 vs H Q E →
    codeAny (model P w) A (.call (.ref f) ⟨us, kws⟩) (CR CX outer P w H s Q E) s
/-- what the text says of such a def -/
structure DefSK (K : PySem.W.Frag) (name qual : Str) (st : Stmt) (p1 pv kn : Str) (dv : V) (f : Addr) : Prop where
  ex : ∃ (oc : Value) (od : Option Addr) (D : Addr) (u doc pm : Value) (an : Option Addr) (cdv ct : Value) (osl : Array (Option Value)),
    K.lookup f = some ⟨oc, od, .func (PySem.W.fnOf name qual (defArgs st) (defBody st) (defScope st) .none (.ref D) doc pm an cdv ct), osl⟩ ∧ PySem.W.codeIn K cdv qual = true ∧ PySem.W.nsIn K D kn = some (some u) ∧ RelV dv u ∧
    (∀ (a w0 : Value) (rest : List Value), bindArgs (PySem.W.fnOf name qual (defArgs st) (defBody st) (defScope st) .none (.ref D) doc pm an cdv ct) ⟨a :: rest, [(kn, w0)]⟩ = (newTuple rest >>= fun t => pure [(p1, a), (kn, w0), (pv, t)])) ∧
    (∀ (a : Value) (rest : List Value), ∃ (β γ : Type) (k1 : Option Value → Sem β) (k2 : β → Sem γ) (k3 : γ → Sem (List (Str × Value))) (b : β), bindArgs (PySem.W.fnOf name qual (defArgs st) (defBody st) (defScope st) .none (.ref D) doc pm an cdv ct) ⟨a :: rest, []⟩ = ((nsGet D kn >>= k1) >>= k2) >>= k3 ∧ k1 (some u) = pure b ∧
      (k2 b >>= k3) = (newTuple rest >>= fun t => pure [(p1, a), (kn, u), (pv, t)]))
theorem fnSK_of {CX : CXT} {P : Program} {w : World} {K : PySem.W.Frag} {mg : Str → Option Value} {base : Heap} {st : Stmt} {N : List Str} {p1 pv kn : Str} {dv : V} {k : Nat} {sp : Sp} {f : Addr} {name qual : Str} (hCX : CXUp CX) (D : DefSK K name qual st p1 pv kn dv f) (S : FnScope N [p1, kn, pv] (defScope st))
    (hbody : ∀ (cdv : Value) (A : Around) (outer : List Env) (s : Shared) (H : Hp) (vs : List V) (Q : VK) (E : XK), Room k (A.deeper (envOfC qual (defScope st) s.heap.objs.size f cdv)) → sp vs H Q E →
      ∃ t, PSs (cxOf CX P w K mg base N qual (defScope st) f cdv A outer s H E) (defBody st) t ∧ t { nx := fun _ H' => Q .non H', rt := Q } (L2.start N vs) H) :
    FnSK P w K mg base CX (k + 1) f kn dv sp := by
  obtain ⟨oc, od, D0, u, doc, pm, an, cdv, ct, osl, lk, hcd, hns, ru, hb1, hb0⟩ := D.ex
  intro A outer s H us vs kws v0 Q E hr e0 r hk hsp
  obtain ⟨a, rest, ev, hz, hq⟩ := hsp
  subst ev
  cases r with
  | @cons a ua _ u2 ra r2 =>
  have KX : K.In s.heap := e0.mod.kin.keeps fun b o e => (e0.bs b o e).1
  have hn : H s.heap.objs.size = Option.none := e0.hok.fresh (Nat.le_refl _)
  have hl2 : u2.length ≤ sizeLine := by rw [← r2.length]; exact hz
  obtain ⟨w0, hw0, rw0⟩ : ∃ w0 : Value, (∀ (A' : Around) (Ex : Value → Shared → Prop) (Q' : List (Str × Value) → Shared → Prop), wpAny (model P w) A' (newTuple u2 >>= fun t => pure [(p1, ua), (kn, w0), (pv, t)]) Q' Ex s →
      wpAny (model P w) A' (bindArgs (PySem.W.fnOf name qual (defArgs st) (defBody st) (defScope st) .none (.ref D0) doc pm an cdv ct) ⟨ua :: u2, kws⟩) Q' Ex s) ∧ RelV v0 w0 := by
    rcases hk with ⟨rfl, rfl⟩ | ⟨w0, rfl, r0⟩
    · refine ⟨u, fun A' Ex Q' h => ?_, ru⟩
      obtain ⟨β, γ, k1, k2, k3, b, e1, e2, e3⟩ := hb0 ua u2
      rw [e1, bind_assoc]
      have l1 : PySem.W.Looks (model P w) s.heap (nsGet D0 kn >>= k1) b := (PySem.W.looks_nsIn KX hns).andThen (PySem.W.Looks.of_pure e2)
      refine wpAny_bind (l1.here ?_)
      show wpAny _ _ (k2 b >>= k3) _ _ _
      rw [e3]
      exact h
    · exact ⟨w0, fun A' Ex Q' h => by rw [hb1 ua w0 u2]; exact h, r0⟩
  refine run_bnd lk hcd S hr e0 (G := fun xs H2 => ∃ p, H p = Option.none ∧ xs = [a, v0, V.ref p] ∧ H2 = upd H p (.tup rest)) (fun A' Ex Q' h => ?_) fun s2 H2 xs ⟨p, hp, ex, eH⟩ hr' => ?_
  · refine hw0 A' Ex Q' ?_
    refine wpAny_bind (wpAny_newTuple (wpAny_pure ?_) hl2)
    have new : ObjOk P w (upd H s.heap.objs.size (.tup rest)) (s.heap.push ({ cls := .type "tuple", data := .seq u2.toArray } : Obj)) s.heap.objs.size (.tup rest) := ⟨hz, u2, r2, ⟨_, Heap.get?_push_size _ rfl, rfl, _, rfl⟩⟩
    have un := un_laid (fs := frs outer) (s := s) (o := ({ cls := .type "tuple", data := .seq u2.toArray } : Obj)) (u := .tup rest) hn
    exact h _ _ [a, v0, V.ref s.heap.objs.size] [ua, w0, Value.ref s.heap.objs.size] (env0_laid e0 new) un rfl (fun e s' => hCX outer s H _ _ E e s' un (fun b o q => Heap.get?_push_of_some _ q) rfl) (.cons ra (.cons rw0 (.cons rfl .nil))) rfl ⟨_, hn, rfl, rfl⟩
  · subst ex eH
    exact hbody cdv A outer s2 _ _ Q E hr' (hq p hp)
theorem FnSK.mono {P : Program} {w : World} {K : PySem.W.Frag} {mg : Str → Option Value} {base : Heap} {CX : CXT} {j k : Nat} {f : Addr} {kn : Str} {dv : V} {sp : Sp} (F : FnSK P w K mg base CX j f kn dv sp) (h : j ≤ k) : FnSK P w K mg base CX k f kn dv sp := fun A outer s H us vs kws v0 Q E hr => F A outer s H us vs kws v0 Q E (hr.mono h)
def tMakeSK (C : Addr) (sp : Sp) (E : L2.St → XK) (v0 : V) (xs : List V) : Hp → L2.St → VK → Prop := fun H σ Q => ∀ x dx, H x = none → H dx = none → dx ≠ x → spSK sp v0 (.ref x :: xs) (upd (upd H dx (.own x)) x (.ins C dx [])) (fun v H3 => v = .non ∧ Q (.ref x) H3) (E σ)
section
variable {X : Cx} {CX : CXT} {k n : Nat} {f g C p : Addr} {sp : Sp} {E : L2.St → XK} {x kn : Str} {dv : V} {o e e2 : Expr} {es : List Expr} {te tk to tb : TE} {t : TA} {pp sp_ pos apos kp_ : Pos}
theorem run_makeSK {pins : List (Addr × Obj)} {σ : L2.St} {H : Hp} {s : Shared} {Q : VK} {us : List Value} {vs : List V} {kws : List (Str × Value)} {v0 : V} (M : Mk X.K C f) (F : FnSK X.prog X.w X.K X.mg X.base CX k f kn dv sp) (hr : Room (k + 1) X.A) (hx : PassesAt CX X σ (E σ)) (I : L2.Inv X pins σ H s) (r : Vals vs us) (hk : KwOf kn dv v0 kws)
    (q : tMakeSK C sp E v0 vs H σ Q) : wpAny (model X.prog X.w) X.A (call (.ref C) us kws) (EP X pins σ Q) X.xe s := by
  have I2 := I.made (C := C)
  have n1 : H s.heap.objs.size = none := I.hok.fresh (Nat.le_refl _)
  have n2 : H (s.heap.objs.size + 1) = none := I.hok.fresh (Nat.le_succ _)
  have hq := q _ _ n2 n1 (Nat.ne_of_lt (Nat.lt_succ_self _))
  refine wpAny_call (make_map I.kIn M.makes M.init (by simpa [PySem.W.isFn] using M.fn) (codeAny_mono (F _ X.stack _ _ (.ref (s.heap.objs.size + 1) :: us) _ kws v0 _ (E σ) (hr.make C us kws) (I2.env0.make C us kws) (.cons (show L2.RelV (.ref _) (.ref _) from rfl) r) hk hq) fun r s' h => ?_))
  cases r with
  | error e => exact hx pins _ _ e s' I2 h
  | ok fl =>
    cases fl with
    | ret u =>
      obtain ⟨v, H3, os2, bare2, un2, hok2, rv, ev, q3⟩ := h
      subst ev
      exact ⟨rv, .ref _, H3, I2.call' os2 un2 hok2 bare2 (fun b hb => (nomatch hb)), rfl, q3⟩
    | next => exact False.elim h
    | brk => exact False.elim h
    | cont => exact False.elim h
/-- a lone star ahead of one keyword: the keyword is had before the star's items -/
theorem ks_loneK {M : Model} {A : Around} {E : Value → Shared → Prop} {s : Shared} {f : Value} {x y : Sem Value} {pos : Pos} {kn : Str} {Q : Args → Shared → Prop}
    (h : wpAny M A x (fun v s₁ => wpAny M A y (fun w s₂ => PySem.W.StarOf M A E v (fun vs s₃ => Q ⟨vs, [(kn, w)]⟩ s₃) s₂) E s₁) E s) :
    wpAny M A (evalArgs f true [(true, (do let v ← x; standAt pos; pure v))] [(some kn, (do let v ← y; standAt pos; pure v))]) Q E s := by
  unfold evalArgs
  first
    | refine wpAny_bind (wpAny_bind (wpAny_mono h (fun v s₁ h₁ => wpAny_bind (wpAny_standAt (wpAny_pure ?_))) fun _ _ x => x))
    | refine wpAny_bind (wpAny_bind (wpAny_bind (wpAny_mono h (fun v s₁ h₁ => wpAny_bind (wpAny_standAt (wpAny_pure (wpAny_pure ?_)))) fun _ _ x => x)))
  refine wpAny_holding ?_
  show wpAny M A (evalAll [(do let v ← y; standAt pos; pure v)] >>= _) Q E s₁
  refine wpAny_bind (wpAny_evalAll_cons (wpAny_bind (wpAny_mono h₁ (fun w s₂ h₂ => wpAny_bind (wpAny_standAt (wpAny_pure (wpAny_evalAll_nil ?_)))) fun _ _ x => x)))
  unfold PySem.W.StarOf at h₂
  refine wpAny_bind (wpAny_bind (wpAny_mono h₂ (fun b s₃ h₃ => ?_) fun _ _ x => x))
  obtain ⟨rfl, h₃⟩ := h₃
  have z := wpAny_holding (vs := [w]) (wpAny_mono h₃ (fun vs s₄ h₄ => (wpAny_pure h₄ : wpAny M A (pure (⟨vs, [(kn, w)]⟩ : Args)) Q E s₄)) fun _ _ x => x)
  try simp only [Bool.false_eq_true, if_false]
  first
    | exact z
    | exact wpAny_bind (wpAny_pure z)
/-- as ks_call, with keywords -/
theorem ks_callK {M : Model} {A : Around} {E : Value → Shared → Prop} {s : Shared} {f : Value} {first : List Value} {pos : Pos} {Q : Value → Shared → Prop} {P : Heap → Prop} {args : List (Bool × Sem Value)} {keywords : List (Option Str × Sem Value)} (hst : args.any (·.1) = true)
    (hk : ∀ h, P h → ∃ k, (k = Keeper.frame ∨ k = Keeper.machine ∨ k = Keeper.boundFrame) ∧ PySem.W.Looks M h (keeperOf f) k)
    (h : wpAny M A (evalArgs f true args keywords) (fun a s₁ => P s₁.heap ∧ wpAny M A (call f (first ++ a.pos) a.kw) Q E s₁) E s) : wpAny M A (callWith pos f first args keywords) Q E s := by
  unfold callWith
  refine wpAny_bind (wpAny_holding (wpAny_mono h (fun a s₁ h₁ => wpAny_bind (wpAny_standAt ?_)) fun _ _ x => x))
  obtain ⟨k, hk', L⟩ := hk _ h₁.1
  simp only [hst, Bool.true_or]
  refine wpAny_bind (L.here ?_)
  have tail : ∀ {t : Sem Value}, wpAny M A t Q E s₁ → wpAny M A (t >>= fun r => holding [r] point >>= fun _ => pure r) Q E s₁ :=
    fun ht => wpAny_bind (wpAny_mono ht (fun r s₂ hr => wpAny_bind (wpAny_holding (wpAny_point (wpAny_pure hr)))) fun _ _ x => x)
  have marked (mk : Value) : wpAny M A (callMarked mk f (first ++ a.pos) a.kw) Q E s₁ := by unfold callMarked; exact Calls.wpAny_keep h₁.2
  rcases hk' with rfl | rfl | rfl <;> dsimp only <;> first | exact tail (marked _) | exact tail (wpAny_operating h₁.2)
end
end G
set_option Elab.async false
set_option linter.all false
set_option maxRecDepth 100000
set_option maxHeartbeats 2000000
namespace G
open PySem PySem.Spec PyProof.Rows L2 StX
section
variable {W : Wd} {F : Hp} {L : OwnH} {Γ : Gam} {ta tb te tv to : TE} {tt : TT} {t u : TS} {R : PoH} {g : TG} {wi : TI} {K : PySem.W.Frag}
theorem sxh_forI {α : Type} {rα : Rep α} (h : ∀ Wo, OwnHW W L Wo → EvI Wo wi Γ fun as : List α => ∃ I : Nat → OwnH → Gam → Prop, I 0 L Γ ∧ (∀ i L' Γ', I i L' Γ' → keysH L' = keysH L) ∧
      (∀ (i : Nat) (a : α) L' Γ', as[i]? = some a → I i L' Γ' → ∀ Wo', OwnHW W L' Wo' → Tg Wo' g Γ' a fun Γ1 => SxH W F t L' Γ1 { R with nx := I (i + 1), ct := I (i + 1), bk := R.nx }) ∧ ∀ L' Γ', I as.length L' Γ' → R.nx L' Γ') : SxH W F (tFor wi g t) L Γ R :=
  fun D σ H oF nF wF nd G O => h _ (ownH_w wF) σ H _ G fun J H1 as e1 it ⟨I, h0, hI, hs, hl⟩ => by
    have G1 := G.ext e1
    have O1 := O.step G1.ok.1 (ownH_stp e1)
    refine ⟨fun i m σ' H' => m = as.length - i ∧ i ≤ as.length ∧ ∃ L' oF nF Γ', StpH W L H1 L' H' ∧ (keysH L').Nodup ∧ GOk (W.ownH F L' oF nF) H' σ' Γ' ∧ I i L' Γ', ⟨_, rfl, Nat.zero_le _, L, oF, nF, Γ, .refl, nd, G1, h0⟩, ?_⟩
    rintro i m σ' H' ⟨rfl, hi, L', oF', nF', Γ', s, nd', G', q⟩
    have hks := hI i L' Γ' q
    by_cases hlt : i < as.length
    · refine .inr ⟨it.go i H' s.1 hlt, fun σ2 H2 => ∃ L2 oF nF Γ2, StpH W L H1 L2 H2 ∧ (keysH L2).Nodup ∧ GOk (W.ownH F L2 oF nF) H2 σ2 Γ2 ∧ I (i + 1) L2 Γ2, fun σ2 H2 ⟨L2, oF2, nF2, Γ2, s2, nd2, G2, q2⟩ => ⟨as.length - (i + 1), by omega, rfl, hlt, L2, oF2, nF2, Γ2, s2, nd2, G2, q2⟩, fun x H2 y => ?_⟩
      obtain ⟨a, ea, nw, da, _⟩ := it.yld i H' x H2 s.1 (fun b mb => (W.ownH F L' oF' nF').live H' b G'.ok (by
        show (W.toWc.plusL (keysH L')).mu b
        rw [hks]
        exact mb)) hlt y
      have e3 : Ext (W.ownH F L' oF' nF') H' H2 := nw.ext G'.ok
      obtain ⟨js, hj⟩ := hs i a L' Γ' ea q _ (ownH_w (oF := oF') (nF := nF') wF)
      have da' : den (W.ownH F L' oF' nF').toWc H2 x a := by
        show den (W.toWc.plusL (keysH L')) H2 x a
        rw [hks]
        exact da
      refine hj σ' H2 x _ (G'.ext e3) da' fun σ3 Γ3 G3 _ q3 => ?_
      have s3 : StpH W L H1 L' H2 := s.trans G'.ok.1 (ownH_stp e3)
      have o2 : W.ok H2 := G3.ok.1
      exact q3 _ σ3 H2 oF' nF' wF nd' G3 ⟨fun L4 oF4 nF4 σ4 H4 Γ4 s4 nd4 G4 q4 => ⟨L4, oF4, nF4, Γ4, s3.trans o2 s4, nd4, G4, q4⟩, fun v H4 t e d q4 => O.rt v H4 t e d q4, fun L4 oF4 nF4 σ4 H4 Γ4 s4 nd4 G4 q4 => O1.nx L4 oF4 nF4 σ4 H4 Γ4 (s3.trans o2 s4) nd4 G4 q4, fun L4 oF4 nF4 σ4 H4 Γ4 s4 nd4 G4 q4 => ⟨L4, oF4, nF4, Γ4, s3.trans o2 s4, nd4, G4, q4⟩⟩
    · have : i = as.length := by omega
      subst this
      exact .inl ⟨it.stop H' (by exact s.1), O1.nx L' oF' nF' σ' H' Γ' s nd' G' (hl L' Γ' q)⟩
/-- how slots are seen once the own thing o at q has come to rest -/
inductive RestQ (B : Bs) (q : Addr) (o : HO) : Gam → Gam → Prop
  | nil : RestQ B q o [] []
  | conv {t t' : Ty} {Γ Γ' : Gam} : (∀ (W : Wc) (H : Hp) (v : V), W.B = B → ¬ W.mu q → H q = some o → t.den (W.plus q) H v → t'.den W H v) → RestQ B q o Γ Γ' → RestQ B q o (some t :: Γ) (some t' :: Γ')
  | same {t : Option Ty} {Γ Γ' : Gam} : RestQ B q o Γ Γ' → RestQ B q o (t :: Γ) (t :: Γ')
  | drop {t : Option Ty} {Γ Γ' : Gam} : RestQ B q o Γ Γ' → RestQ B q o (t :: Γ) (none :: Γ')
theorem RestQ.len {B : Bs} {q : Addr} {o : HO} {Γ Γ' : Gam} (h : RestQ B q o Γ Γ') : Γ.length = Γ'.length := by
  induction h with
  | nil => rfl
  | conv _ _ ih => exact congrArg (· + 1) ih
  | same _ ih => exact congrArg (· + 1) ih
  | drop _ ih => exact congrArg (· + 1) ih
theorem RestQ.slots {B : Bs} {q : Addr} {o : HO} {Γ Γ' : Gam} (f : RestQ B q o Γ Γ') {W : Wc} {H : Hp} (hB : W.B = B) (nm : ¬ W.mu q) (hq : H q = some o) : ∀ (i : Nat) (t : Ty), Γ'[i]? = some (some t) → ∃ u, Γ[i]? = some (some u) ∧ ∀ v, u.den (W.plus q) H v → t.den W H v := by
  induction f with
  | nil => intro i t h; simp at h
  | @conv t0 t1 Γ Γ' hc _ ih =>
    intro i t h
    cases i with
    | zero =>
      have h' : some (some t1) = some (some t) := by simpa using h
      cases h'
      exact ⟨t0, rfl, fun v d => hc W H v hB nm hq d⟩
    | succ i => exact ih i t (by simpa using h)
  | @same t0 Γ Γ' _ ih =>
    intro i t h
    cases i with
    | zero =>
      have h' : some t0 = some (some t) := by simpa using h
      cases h'
      exact ⟨t, rfl, fun v d => t.r.shrink q d⟩
    | succ i => exact ih i t (by simpa using h)
  | @drop t0 Γ Γ' _ ih =>
    intro i t h
    cases i with
    | zero =>
      have h' : some (none : Option Ty) = some (some t) := by simpa using h
      cases h'
    | succ i => exact ih i t (by simpa using h)
/-- the own thing that stands first comes to rest -/
theorem sxh_rest {q : Addr} {o : HO} {Γ' : Gam} (f : RestQ W.B q o Γ Γ') (h : SxH W F t L Γ' R) : SxH W F t ((q, o) :: L) Γ R := fun D σ H oF nF wF nd G O => by
  have nF' : ∀ k ∈ keysH L, F k = none := fun k hk => nF k (List.mem_cons_of_mem _ hk)
  have hqL : q ∉ keysH L := (List.nodup_cons.mp nd).1
  have nmq : ¬ W.mu q := fresh_mu oF (nF q List.mem_cons_self)
  have nm2 : ¬ (W.toWc.plusL (keysH L)).mu q := fun z => (plusL_mu.mp z).elim nmq hqL
  have G' : GOk (W.ownH F L oF nF') H σ Γ' := ⟨⟨G.ok.1, fun x hx => G.ok.2 x (List.mem_cons_of_mem _ hx)⟩, G.wish, fun i t ht => by
    obtain ⟨u, hu, hc⟩ := f.slots (W := W.toWc.plusL (keysH L)) (H := H) plusL_B nm2 (G.ok.2 _ List.mem_cons_self) i t ht
    obtain ⟨v, h2, h3⟩ := G.at_ i u hu
    exact ⟨v, h2, hc v h3⟩, G.len.trans f.len⟩
  have st : ∀ {L' : OwnH} {H' : Hp}, StpH W L H L' H' → StpH W ((q, o) :: L) H L' H' := fun s => ⟨fun a u m z => s.1 a u (fun m2 => m (by
    rcases plusL_mu.mp m2 with m2 | m2
    · exact plusL_mu.mpr (.inl m2)
    · exact plusL_mu.mpr (.inr (List.mem_cons_of_mem _ m2)))) z, fun k hk => (s.2 k hk).imp (fun h => List.mem_cons_of_mem _ h) fun h => h⟩
  exact h D σ H oF nF' wF (List.nodup_cons.mp nd).2 G' ⟨fun L' oF' nF2 σ' H' Γ2 s nd' G2 z => O.nx L' oF' nF2 σ' H' Γ2 (st s) nd' G2 z, O.rt, fun L' oF' nF2 σ' H' Γ2 s nd' G2 z => O.bk L' oF' nF2 σ' H' Γ2 (st s) nd' G2 z, fun L' oF' nF2 σ' H' Γ2 s nd' G2 z => O.ct L' oF' nF2 σ' H' Γ2 (st s) nd' G2 z⟩
/-- self.f = e in the world as it is -/
theorem sxh_setnW {α β : Type} {rα : Rep α} {fβ : FRep β} {f : Str} {i : Nat} (n : Nat) {p dx : Addr} {c : Cn} {fs : List (Str × V)} {b : β}
    (hK : W.B.K = K) (hc : L2.Cls K (W.B.cl c)) (hn : NoAttr K (W.B.cl c) f) (hk : L[n]? = some (p, .ins (W.B.cl c) dx fs)) (hi : Γ[i]? = some (some (T (Oi.mk p c dx fs b)))) (hl : (FRep.nms b).length < 1000) (hm : f ∉ FRep.nms b)
    (h : ∀ (oF : W.ok F) (nF : ∀ k ∈ keysH L, F k = none), W.wish F → EvK (W.ownH F L oF nF) tv Γ fun a : α => ∀ fs', R.nx (L.set n (p, .ins (W.B.cl c) dx fs')) (Γ.set i (some (T (Oi.mk p c dx fs' ((⟨f, a⟩, b) : Fd α × β)))))) : SxH W F (sFld K (tVar i) tv f) L Γ R := fun D σ H oF nF wF nd G O => by
  subst hK
  refine h oF nF wF σ H _ G fun y H1 a e1 dy q => ?_
  have G1 := G.ext e1
  obtain ⟨h1, h2⟩ := oi_at G1 hi
  have hp := G1.ok.2 _ (List.mem_of_getElem? hk)
  have hlen : fs.length < 1000 := by
    have := FRep.nm h2
    have e := congrArg List.length this
    rw [List.length_map] at e
    have e : fs.length = (FRep.nms b).length := e
    omega
  refine ⟨_, h1, p, _, dx, fs, rfl, hp, hc, hn, hlen, ?_⟩
  exact ownH_put (T (Oi.mk p c dx _ ((⟨f, a⟩, b) : Fd α × β))) nd G1 (O.step G1.ok.1 (ownH_stp e1)) hk h1 (fun kp => ⟨rfl, FRep.mono kp ⟨y, fs, putF_new (by rw [FRep.nm (b := b) h2]; exact hm), dy, h2⟩⟩) (q _)
/-- self.f = [..], the new list an own thing from now on -/
theorem sxh_setOl {α β : Type} {rα : Rep α} {fβ : FRep β} {f : Str} {i : Nat} {p dx : Addr} {c : Cn} {fs : List (Str × V)} {b : β}
    (hK : W.B.K = K) (hc : L2.Cls K (W.B.cl c)) (hn : NoAttr K (W.B.cl c) f) (hi : Γ[i]? = some (some (T (Oi.mk p c dx fs b)))) (hl : (FRep.nms b).length < 1000) (hm : f ∉ FRep.nms b)
    (h : ∀ Wo, OwnHW W ((p, .ins (W.B.cl c) dx fs) :: L) Wo → EvF Wo tv Γ fun as : List α => ∀ q vs fs', R.nx ((q, .lst vs) :: (p, .ins (W.B.cl c) dx fs') :: L) (Γ.set i (some (T (Oi.mk p c dx fs' ((⟨f, ⟨q, vs, as⟩⟩, b) : Fd (Ol α) × β)))))) : SxH W F (sFld K (tVar i) tv f) ((p, .ins (W.B.cl c) dx fs) :: L) Γ R := fun D σ H oF nF wF nd G O => by
  subst hK
  refine h _ (ownH_w wF) σ H _ G fun q H1 vs as nq e1 hq hd z => ?_
  have G1 := G.ext e1
  obtain ⟨h1, h2⟩ := oi_at G1 hi
  have hp := G1.ok.2 _ List.mem_cons_self
  have hlen : fs.length < 1000 := by
    have := FRep.nm h2
    have e := congrArg List.length this
    rw [List.length_map] at e
    have e : fs.length = (FRep.nms b).length := e
    omega
  refine ⟨_, h1, p, _, dx, fs, rfl, hp, hc, hn, hlen, ?_⟩
  have O1 := O.step G1.ok.1 (ownH_stp e1)
  -- q joins the own things, then p changes
  have nFq : F q = none := fresh_FH G.ok.1 G.wish nq
  have hqk : q ∉ keysH ((p, HO.ins (W.B.cl c) dx fs) :: L) := fun hk => by
    obtain ⟨x, hx, ex⟩ := List.mem_map.mp hk
    have := G.ok.2 x hx
    rw [ex, nq] at this
    cases this
  have nF2 : ∀ k ∈ keysH ((q, HO.lst vs) :: (p, HO.ins (W.B.cl c) dx fs) :: L), F k = none := fun k hk => by
    rcases List.mem_cons.mp hk with rfl | hk
    · exact nFq
    · exact nF k hk
  have G2 : GOk (W.ownH F ((q, .lst vs) :: (p, .ins (W.B.cl c) dx fs) :: L) oF nF2) H1 σ Γ := ⟨⟨G1.ok.1, fun x hx => by
    rcases List.mem_cons.mp hx with rfl | hx
    · exact hq
    · exact G1.ok.2 x hx⟩, G1.wish, fun j t ht => by
      obtain ⟨v, h3, h4⟩ := G.at_ j t ht
      exact ⟨v, h3, Ty.mono (W := (W.toWc.plusL (keysH ((p, HO.ins (W.B.cl c) dx fs) :: L))).plus q) (fun b u m z => e1.keep b u (fun z => m (.inl z)) z) (t.r.grow q nq h4)⟩, G1.len⟩
  obtain ⟨g1, g2⟩ := oi_at G2 hi
  have s2 : StpH W ((p, .ins (W.B.cl c) dx fs) :: L) H ((q, .lst vs) :: (p, .ins (W.B.cl c) dx fs) :: L) H1 := ⟨e1.keep, fun k hk => by
    rcases List.mem_cons.mp hk with rfl | hk
    · exact .inr nq
    · exact .inl hk⟩
  have := ownH_put (L := (q, .lst vs) :: (p, .ins (W.B.cl c) dx fs) :: L) (k := 1) (i := i) (o' := .ins (W.B.cl c) dx (putF f (.ref q) fs)) (T (Oi.mk p c dx (putF f (.ref q) fs) ((⟨f, ⟨q, vs, as⟩⟩, b) : Fd (Ol α) × β))) (List.nodup_cons.mpr ⟨hqk, nd⟩) G2 (O.step G2.ok.1 s2) rfl g1
    (fun kp => ⟨rfl, FRep.mono kp ⟨.ref q, fs, putF_new (by rw [FRep.nm (b := b) g2]; exact hm), ⟨rfl, hd⟩, g2⟩⟩) (z q vs (putF f (.ref q) fs))
  exact this
end
end G
set_option Elab.async false
set_option linter.all false
set_option maxRecDepth 100000
set_option maxHeartbeats 2000000
namespace G
open PySem PySem.Spec PyProof.Rows L2 StX
section
variable {X : Cx} {CX : CXT} {k n : Nat} {f g C p : Addr} {sp : Sp} {E : L2.St → XK} {x kn : Str} {dv : V} {o e e2 : Expr} {es : List Expr} {te tk to tb : TE} {t : TA} {pp sp_ pos apos kp_ : Pos}
def tMakeVSK (i : Nat) (C : Addr) (sp : Sp) (E : L2.St → XK) (K : PySem.W.Frag) (te tk : TE) : TE := fun σ H Q => ∃ v, σ[i]? = some (some v) ∧ v = .ref C ∧ te σ H fun y H1 => tk σ H1 fun v0 H2 => ∃ a xs, y = .ref a ∧ (SqT K H2 a xs ∨ SqL K H2 a xs) ∧ tMakeSK C sp E v0 xs H2 σ Q
/-- x(*y, kn = e2), x a local name that holds the class at C -/
theorem pe_makeVSK (K : PySem.W.Frag) {i : Nat} (M : Mk X.K C f) (F : FnSK X.prog X.w X.K X.mg X.base CX k f kn dv sp) (hr : Room (k + 1) X.A) (hx : ∀ σ, PassesAt CX X σ (E σ)) (hN : X.N[i]? = some x) (hv : Vis X.env.scope x)
    (he : PE X e te) (hk : PE X e2 tk) (hK : X.K = K := by rfl) (hdb : (x == ("__debug__" : Str)) = false := by decide) (hcd : (x == ("__classdict__" : Str)) = false := by decide)
    (hst : backTo pos (starEach [.Starred e sp_] X.env) = [(true, (do let v ← eval e X.env; standAt pos; pure v))] := by rfl)
    (hkw : backToKw pos (keywordEach [⟨some kn, e2, kp_⟩] X.env) = [(some kn, (do let v ← eval e2 X.env; standAt pos; pure v))] := by rfl) :
    PE X (.Call (.Name x pp) [.Starred e sp_] [⟨some kn, e2, kp_⟩] pos) (tMakeVSK i C sp E K te tk) := by
  subst hK
  refine ⟨fun pins s σ H Q I h => ?_⟩
  obtain ⟨v, h1, h2, h3⟩ := h
  subst h2
  refine wpAny_Call_Name_kw (thn ((pe_var (pos := pp) hN hv hdb hcd).run pins s σ H (fun v H' => v = .ref C ∧ te σ H' fun y H1 => tk σ H1 fun v0 H2 => ∃ a xs, y = .ref a ∧ (SqT X.K H2 a xs ∨ SqL X.K H2 a xs) ∧ tMakeSK C sp E v0 xs H2 σ Q) I ⟨_, h1, rfl, h3⟩) fun u s0 ⟨y, H0, I0, ry, ey, q0⟩ => ?_)
  subst ey
  obtain rfl : u = Value.ref C := ry
  rw [hst, hkw]
  refine ks_callK rfl (PySem.W.keeps_K M.kp) (ks_loneK (thn (he.run pins s0 σ H0 _ I0 q0) fun v s1 ⟨y, H1, I1, ry, q1⟩ => thn (hk.run pins s1 σ H1 _ I1 q1) fun w s2 ⟨v0, H2, I2, rw0, a, xs, ey, hxs, q2⟩ => ?_))
  subst ey
  obtain rfl : v = Value.ref a := ry
  exact star_any I2 hxs fun us s3 I3 rv => ⟨I3.kIn, run_makeSK M F hr (hx σ) I3 rv (.inr ⟨w, rfl, rw0⟩) q2⟩
end
/-- a value of any kind -/
def EvO (W : Wd) (te : TE) (Γ : Gam) (k : Ty → Prop) : Prop := ∀ σ H (Q : VK), GOk W H σ Γ → (∀ v H' (o : Ty), Ext W H H' → o.den W H' v → k o → Q v H') → te σ H Q
section
variable {W : Wd} {Γ : Gam} {te tk : TE} {ta : TA} {B : Bs} {K : PySem.W.Frag}
theorem eo_var {i : Nat} {o : Ty} {k : Ty → Prop} (h : Γ[i]? = some (some o)) (q : k o) : EvO W (tVar i) Γ k := fun σ H Q G c => by
  obtain ⟨v, h1, h2⟩ := G.at_ i _ h
  exact ⟨v, h1, c v H o (Ext.refl G.ok) h2 q⟩
theorem makeSK_run {α β γ : Type} {rα : Rep α} {rγ : Rep γ} {fβ : FRep β} {P : PI β} {E : L2.St → XK} {x : Xn → Prop} {k : α → Prop} {c : Cn} {o : Ty} {v0 : V} {rest : List V} {as : List γ} {σ : L2.St} {H1 : Hp} {Q : VK} (mk : β → α) (good : β → Prop) (hx : HX W Γ E x) (G : GOk W H1 σ Γ)
    (hden : ∀ (W' : Wc) (H : Hp) (p dx : Addr) (fs : List (Str × V)) (b : β), W'.B = W.B → ¬ W'.mu p → H p = some (.ins (W.B.cl c) dx fs) → FRep.fd W' H fs b → good b → den W' H (.ref p) (mk b))
    (d0 : o.den W H1 v0) (dr : Dl (den W H1) rest as) (hlen : as.length ≤ 100000) (z : P c (fun b => good b ∧ k (mk b)) x [o, T (Tl.mk as)]) (cc : ∀ v H' (a : α), Ext W H1 H' → den W H' v a → k a → Q v H') : tMakeSK (W.B.cl c) (spIn W.B P) E v0 rest H1 σ Q := by
  intro xx dx nx ndx nex
  have e3 : Ext W H1 (upd (upd H1 dx (.own xx)) xx (.ins (W.B.cl c) dx [])) := ⟨fun a u _ q => by rw [upd_ne (ne_of_none q nx), upd_ne (ne_of_none q ndx)]; exact q, W.st _ _ _ (W.st _ _ _ G.ok (fresh_mu G.ok ndx)) (fresh_mu G.ok nx)⟩
  refine ⟨.ref xx, rest, rfl, Nat.le_trans (by rw [dr.length]; exact hlen) (by decide : 100000 ≤ sizeLine), fun p hp => ?_⟩
  have e4 := Ext.new (o := .tup rest) e3.ok hp
  have hpx : p ≠ xx := fun e => by rw [e, upd_same] at hp; cases hp
  have kk : Kp (W.toWc.plus xx) H1 (upd (upd (upd H1 dx (.own xx)) xx (.ins (W.B.cl c) dx [])) p (.tup rest)) := fun a u m q => (e3.trans e4).keep a u (fun z => m (.inl z)) q
  refine make_run (ws := [v0, V.ref p]) mk good (hx σ H1 G) G.ok hden xx dx nx ndx nex _ e4 ?_ z cc
  refine .cons (t := o) (Ty.mono kk (o.r.grow xx nx d0)) (.cons (t := T (Tl.mk as)) ⟨p, rest, rfl, ⟨fun z => z.elim (fresh_mu e3.ok hp) hpx, upd_same⟩, ?_⟩ .nil)
  exact dr.imp fun _ _ y => Rep.mono kk (Rep.grow xx nx y)
theorem ev_makeVSK {α β γ : Type} {rα : Rep α} {rγ : Rep γ} {fβ : FRep β} {P : PI β} {E : L2.St → XK} {x : Xn → Prop} {k : α → Prop} {c : Cn} {C : Addr} {i : Nat} (mk : β → α) (good : β → Prop) (hB : W.B = B) (hK : W.B.K = K) (hC : B.cl c = C) (hi : Γ[i]? = some (some (T (Cv.mk c)))) (hx : HX W Γ E x)
    (hden : ∀ (W' : Wc) (H : Hp) (p dx : Addr) (fs : List (Str × V)) (b : β), W'.B = B → ¬ W'.mu p → H p = some (.ins (B.cl c) dx fs) → FRep.fd W' H fs b → good b → den W' H (.ref p) (mk b))
    (h : EvK W te Γ fun as : List γ => EvO W tk Γ fun o => as.length ≤ 100000 ∧ P c (fun b => good b ∧ k (mk b)) x [o, T (Tl.mk as)]) : EvK W (tMakeVSK i C (spIn B P) E K te tk) Γ k := by
  subst hB
  subst hC
  subst hK
  refine fun σ H Q G cc => ?_
  obtain ⟨v, h1, h2⟩ := G.at_ i _ hi
  refine ⟨v, h1, h2, h σ H _ G fun y H1 as e1 dy h3 => h3 σ H1 _ (G.ext e1) fun v0 H2 o e2 d0 ⟨hlen, z⟩ => ?_⟩
  obtain ⟨a, vs, hv, hp, hd⟩ := Rep.mono (α := List γ) e2.keep dy
  exact ⟨a, vs, hv, .inr hp.sq, makeSK_run mk good hx ((G.ext e1).ext e2) hden d0 hd hlen z fun v H' b e d q => cc v H' b ((e1.trans e2).trans e) d q⟩
end
structure Em where
instance : Rep Em := ⟨fun W _ v _ => ∃ p, v = .ref p ∧ ∀ H, SqT W.B.K H p [], fun _ h => h, fun _ _ h => h, fun _ h => h⟩
section
variable {W : Wd} {Γ : Gam} {te td ty tx ta tb : TE} {K : PySem.W.Frag}
theorem ei_em {α : Type} {rα : Rep α} {k : List α → Prop} (hK : W.B.K = K) (h : EvK W te Γ fun _ : Em => k []) : EvI W (iTup K te) Γ k := by
  subst hK
  refine fun σ H R G c => h σ H _ G fun v H1 as e1 ⟨p, hv, hp⟩ z => ⟨p, hv, ⟨[], hp H1⟩, c _ H1 [] e1 ⟨?_, ?_, ?_⟩ z⟩
  · intro i H' kp hi
    exact absurd hi (Nat.not_lt_zero _)
  · intro H' kp
    exact ⟨[], hp H', Nat.le_refl _⟩
  · rintro i H' x H'' kp _ hi _
    exact absurd hi (Nat.not_lt_zero _)
theorem ev_dget2 {β : Type} {rβ : Rep β} {k : β → Prop} (h : EvK W td Γ fun d : Dc β => EvK W ty Γ fun s : Str => EvK W tx Γ fun b0 : β => k ((getDc d.l s).getD b0)) : EvK W (tDGet2 td ty tx) Γ k := fun σ H Q E c =>
  h σ H _ E fun x H1 d e1 dx h2 => by
    obtain ⟨p0, kvs0, hv0, hp0, hd0⟩ := id dx
    refine ⟨p0, hv0, ?_, ?_⟩
    · exact .inl ⟨kvs0, .inl hp0.2⟩
    refine h2 σ H1 _ (E.ext e1) fun y H2 s e2 dy h3 => h3 σ H2 _ ((E.ext e1).ext e2) fun z H3 b0 e3 dz q => ?_
    obtain ⟨p, o, hv, hg, ho⟩ := dget_ex s (Rep.mono (α := Dc β) (e2.trans e3).keep dx)
    have dy : y = .str s := dy
    subst dy
    rw [hv0] at hv
    cases hv
    refine ⟨o, hg, ?_⟩
    rcases ho with ⟨e4, e5⟩ | ⟨u, b, e4, e5, e6⟩
    · rw [e5] at q
      rw [e4]
      exact c z H3 b0 ((e1.trans e2).trans e3) dz q
    · rw [e5] at q
      rw [e4]
      exact c u H3 b ((e1.trans e2).trans e3) e6 q
theorem ev_inST {k : Bool → Prop} (hK : W.B.K = K) (h : EvK W ta Γ fun x : Str => EvK W tb Γ fun as : Tl Str => k (decide (x ∈ as.xs))) : EvK W (tOp (rIn K false) ta tb) Γ k := by
  subst hK
  refine ev_two (h.imp fun x hx => hx.imp fun as z v u H Q o dx ⟨p, vs, hu, hp, hd⟩ c => ?_)
  have dx' : v = V.str x := dx
  subst dx' hu
  have e := Dl.strs hd
  refine ⟨p, vs, rfl, .inr hp.sq, rfl, by rw [e]; exact flat_strs as.xs, c _ H _ (Ext.refl o) ?_ z⟩
  show V.bl (inV (V.str x) vs) = _
  rw [e, inV_strs]
end
structure DefD (K : PySem.W.Frag) (name qual : Str) (st : Stmt) (ps : List Str) (dv : V) (f : Addr) : Prop where
  ex : ∃ fd, FunD K name qual (defArgs st) (defBody st) (defScope st) [dv] [] f fd ∧ Binds K fd ps [] ∧ ∃ ds, Vals [dv] ds ∧ Binds K fd ps ds
def spDf (dv : V) (sp : Sp) : Sp := fun vs H Q E => sp (vs ++ [dv]) H Q E
theorem fnR_ofD {CX : CXT} {P : Program} {w : World} {K : PySem.W.Frag} {mg : Str → Option Value} {base : Heap} {st : Stmt} {N ps : List Str} {k : Nat} {sp : Sp} {dv : V} {f : Addr} {name qual : Str} (D : DefD K name qual st ps dv f) (S : FnScope N ps (defScope st)) (len : ∀ vs H Q E, sp vs H Q E → vs.length = ps.length)
    (hbody : ∀ (cdv : Value) (A : Around) (outer : List Env) (s : Shared) (H : Hp) (vs : List V) (Q : VK) (E : XK), Room k (A.deeper (envOfC qual (defScope st) s.heap.objs.size f cdv)) → sp vs H Q E →
      ∃ t, PSs (cxOf CX P w K mg base N qual (defScope st) f cdv A outer s H E) (defBody st) t ∧ t { nx := fun _ H' => Q .non H', rt := Q } (L2.start N vs) H) : FnR P w K mg base CX (k + 1) f sp ∧ FnR P w K mg base CX (k + 1) f (spDf dv sp) := by
  obtain ⟨fd, F, b0, ds, rd, b1⟩ := D.ex
  have ok := F.ok (CX := CX) (P := P) (w := w) (mg := mg) (base := base) S len hbody
  exact ⟨(ok.raw b0 .nil).imp fun vs H Q E h => by rw [List.append_nil]; exact h, ok.raw b1 rd⟩
end G
namespace G
open PySem PySem.Spec PyProof.Rows L2 StX
theorem defD_mk {K : PySem.W.Frag} {name qual : Str} {st : Stmt} {ps : List Str} {f T0 D : Addr} {oc : Value} {od : Option Addr} {kV doc pm : Value} {an : Option Addr} {cdv ct : Value} {osl : Array (Option Value)} {oT : Option Addr} {nT : Nat} {sT : Array (Option Value)}
    (l : K.lookup f = some ⟨oc, od, .func (PySem.W.fnOf name qual (defArgs st) (defBody st) (defScope st) (.ref T0) kV doc pm an cdv ct), osl⟩) (c : PySem.W.codeIn K cdv qual = true) (kp : PySem.W.keepIn K (.ref f) = true) (lT : K.lookup T0 = some ⟨.type "tuple", oT, .seq #[.ref D] nT, sT⟩)
    (h0 : ∀ (T : Addr) (kV doc pm : Value) (an : Option Addr) (cdv ct : Value) (us its : List Value), us.length = ps.length → its.length = 1 →
      ∃ k, bindArgs (PySem.W.fnOf name qual (defArgs st) (defBody st) (defScope st) (.ref T) kV doc pm an cdv ct) ⟨us, []⟩ = seqItems? (.ref T) >>= k ∧ k (some its.toArray) = pure (ps.zip (us ++ its.drop 1)))
    (h1 : ∀ (T : Addr) (kV doc pm : Value) (an : Option Addr) (cdv ct : Value) (us its : List Value), us.length = ps.length - 1 → its.length = 1 →
      ∃ k, bindArgs (PySem.W.fnOf name qual (defArgs st) (defBody st) (defScope st) (.ref T) kV doc pm an cdv ct) ⟨us, []⟩ = seqItems? (.ref T) >>= k ∧ k (some its.toArray) = pure (ps.zip (us ++ its.drop 0)))
    (hp : 0 < ps.length := by decide) : DefD K name qual st ps (V.ref D) f := by
  have F : FunD K name qual (defArgs st) (defBody st) (defScope st) [V.ref D] [] f _ := ⟨⟨oc, od, _, kV, doc, pm, an, cdv, ct, osl, rfl, l, c, .inr ⟨by simp, T0, _, [.ref D], nT, rfl, lT, rfl, .cons rfl .nil⟩, .inl rfl⟩, kp⟩
  obtain ⟨ds0, r0, b0⟩ := F.binds1 (ps := ps) ps.length 1 (by simp) (by simp) h0
  obtain ⟨ds1, r1, b1⟩ := F.binds1 (ps := ps) (ps.length - 1) 0 (by simp) (by simp; omega) h1
  cases r0
  exact ⟨_, F, b0, ds1, r1, b1⟩
end G
set_option Elab.async false
set_option linter.all false
set_option maxRecDepth 100000
set_option maxHeartbeats 2000000
namespace G
open PySem PySem.Spec PyProof.Rows L2 StX
abbrev Grp := Tl Str
def grpD (gs : List Grp) : List (Str × Grp) := mergeD [] (gs.flatMap fun g => g.xs.map fun m => (m, g))
def fltD (ds : List (Str × Grp)) (names : List Str) (nm : Str) : List Str := names.filter fun o => decide (o = nm) || decide (o ∈ ((getDc ds nm).getD ⟨[]⟩).xs)
def keepD (ds : List (Str × Grp)) (names : List Str) (nm : Str) : Bool := decide ((fltD ds names nm).headD nm = nm)
def flD (ds : List (Str × Grp)) (names : List Str) : List (List Str) := (names.filter (keepD ds names)).map (fltD ds names)
def flF (names : List Str) (gs : List Grp) : List (List Str) := flD (grpD gs) names
theorem flD_take {ds : List (Str × Grp)} {names : List Str} {i : Nat} {nm : Str} (h : names[i]? = some nm) :
    ((names.take (i + 1)).filter (keepD ds names)).map (fltD ds names) = ((names.take i).filter (keepD ds names)).map (fltD ds names) ++ (if keepD ds names nm = true then [fltD ds names nm] else []) := by
  rw [List.take_succ, h, List.filter_append, List.map_append]
  congr 1
  cases hk : keepD ds names nm <;> simp [hk]
theorem fltD_head {ds : List (Str × Grp)} {names : List Str} {nm : Str} (h : nm ∈ names) : ∃ a r, fltD ds names nm = a :: r ∧ a ∈ names := by
  have hm : nm ∈ fltD ds names nm := List.mem_filter.mpr ⟨h, by simp⟩
  cases e : fltD ds names nm with
  | nil => rw [e] at hm; cases hm
  | cons a r =>
    have ha : a ∈ fltD ds names nm := by rw [e]; exact List.mem_cons_self
    exact ⟨a, r, rfl, (List.mem_filter.mp ha).1⟩
theorem flF_len (names : List Str) (gs : List Grp) : (flF names gs).length ≤ names.length := by
  unfold flF flD
  rw [List.length_map]
  exact List.length_filter_le _ _
theorem fltD_len (ds : List (Str × Grp)) (names : List Str) (nm : Str) : (fltD ds names nm).length ≤ names.length := List.length_filter_le _ _
/-- the first name of the groups that is unknown (true) or stands twice (false) -/
def badG (names : List Str) (seen : List Str) : List Str → Option (Bool × Str)
  | [] => none
  | w :: r => if w ∉ names then some (true, w) else if w ∈ seen then some (false, w) else badG names (seen ++ [w]) r
theorem badG_none {names : List Str} : ∀ {l seen : List Str}, badG names seen l = none ↔ (∀ w ∈ l, w ∈ names ∧ w ∉ seen) ∧ l.Nodup
  | [], seen => by simp [badG]
  | w :: r, seen => by
    unfold badG
    by_cases h1 : w ∈ names
    · rw [if_neg (not_not_intro h1)]
      by_cases h2 : w ∈ seen
      · rw [if_pos h2]
        exact ⟨fun z => (nomatch z), fun z => absurd h2 (z.1 w List.mem_cons_self).2⟩
      · rw [if_neg h2, badG_none (l := r), List.nodup_cons]
        constructor
        · rintro ⟨a, b⟩
          refine ⟨fun u hu => ?_, fun hw => ?_, b⟩
          · rcases List.mem_cons.mp hu with rfl | hu
            · exact ⟨h1, h2⟩
            · exact ⟨(a u hu).1, fun z => (a u hu).2 (List.mem_append_left _ z)⟩
          · exact (a w hw).2 (List.mem_append_right _ (List.mem_singleton.mpr rfl))
        · rintro ⟨a, b, c⟩
          refine ⟨fun u hu => ⟨(a u (List.mem_cons_of_mem _ hu)).1, fun z => ?_⟩, c⟩
          rcases List.mem_append.mp z with z | z
          · exact (a u (List.mem_cons_of_mem _ hu)).2 z
          · rw [List.mem_singleton.mp z] at hu
            exact b hu
    · rw [if_pos h1]
      exact ⟨fun z => (nomatch z), fun z => absurd (z.1 w List.mem_cons_self).1 h1⟩
theorem badG_step {names seen l : List Str} {i : Nat} {w : Str} (h : l[i]? = some w) (hs : seen = l.take i) (rest : List Str) (pre : List Str) : badG names (pre ++ seen) (l.drop i ++ rest) = if w ∉ names then some (true, w) else if w ∈ pre ++ seen then some (false, w) else badG names (pre ++ l.take (i + 1)) (l.drop (i + 1) ++ rest) := by
  have hi := (List.getElem?_eq_some_iff.mp h).1
  have he := (List.getElem?_eq_some_iff.mp h).2
  rw [List.drop_eq_getElem_cons hi, he]
  show (if w ∉ names then some (true, w) else if w ∈ pre ++ seen then some (false, w) else badG names (pre ++ seen ++ [w]) (l.drop (i + 1) ++ rest)) = _
  rw [hs, List.take_succ, h, List.append_assoc]
  rfl
/-- the fields of a whole rack as they are set -/
abbrev RkB := Fd (List (List Str)) × Fd (List Gau) × Unit
def rkB (gs : List Gau) (fl : List (List Str)) : RkB := (⟨"_faults", fl⟩, ⟨"_gauges", gs⟩, ())
theorem rk_hden {B : Bs} (hT : RackT B) (W' : Wc) (H : Hp) (p dx : Addr) (fs : List (Str × V)) (b : RkB) (hB : W'.B = B) (m : ¬ W'.mu p) (hH : H p = some (.ins (B.cl .Rack) dx fs)) (hf : FRep.fd W' H fs b) (hb : b = rkB b.2.1.a b.1.a) : den W' H (.ref p) (Rk.mk b.2.1.a b.1.a) := by
  subst hB
  rw [hb] at hf
  obtain ⟨v, r, h1, h2, v2, r2, h3, h4, h5⟩ := hf
  have h5 : r2 = [] := h5
  subst h5
  have h3 : r = [(("_gauges" : Str), v2)] := h3
  subst h3
  have h1 : fs = [(("_gauges" : Str), v2), (("_faults" : Str), v)] := h1
  subst h1
  exact ⟨p, dx, v2, v, rfl, m, hH, h4, h2, hT⟩
end G
namespace G
open PySem PySem.Spec PyProof.Rows L2 StX
/-- () -/
theorem ev_tupT0 {α : Type} {rα : Rep α} {W : Wd} {Γ : Gam} {k : Tl α → Prop} (q : k ⟨[]⟩) : EvK W (tTup tNil) Γ k := fun σ H Q G c => by
  show _ ∧ ∀ p, H p = none → _
  refine ⟨by decide, fun p hp => ?_⟩
  exact c (.ref p) _ ⟨[]⟩ (Ext.new G.ok hp) ⟨p, [], rfl, ⟨fresh_mu G.ok hp, upd_same⟩, .nil⟩ q
end G
namespace G
open PySem PySem.Spec PyProof.Rows L2 StX
/-- a name that may stand in an error's text -/
structure NmOk (w : Str) : Prop where
  ok : PyData.strOk w = true
  rep : (reprText w).length ≤ 3000
  len : w.length ≤ 3000
/-- a field that holds an own list, once that list rests -/
theorem rest_fd {α β : Type} {rα : Rep α} {fβ : FRep β} {f : Str} {p q dx : Addr} {c : Cn} {fs : List (Str × V)} {vs : List V} {as : List α} {b : β} (W : Wc) (H : Hp) (v : V) (nm : ¬ W.mu q) (hq : H q = some (.lst vs))
    (h : Ty.den (W.plus q) H v (T (Oi.mk p c dx fs ((⟨f, ⟨q, vs, as⟩⟩, b) : Fd (Ol α) × β)))) : Ty.den W H v (T (Oi.mk p c dx fs ((⟨f, as⟩, b) : Fd (List α) × β))) := by
  obtain ⟨hv, w, r, h1, ⟨h2, h3⟩, h4⟩ := h
  have h2 : w = .ref q := h2
  exact ⟨hv, w, r, h1, ⟨q, vs, h2, ⟨nm, hq⟩, h3.imp fun _ _ d => Rep.shrink q d⟩, FRep.shrink q h4⟩
/-- a rack half made, its list at rest -/
theorem rp_hden {B : Bs} (hT : RackT B) {p dx : Addr} {fs : List (Str × V)} {gs : List Gau} (W : Wc) (H : Hp) (hB : W.B = B) (m : ¬ W.mu p) (hH : H p = some (.ins (B.cl .Rack) dx fs))
    (hf : FRep.fd W H fs ((⟨"_gauges", gs⟩, ()) : Fd (List Gau) × Unit)) : den W H (.ref p) (Rp.mk gs) := by
  subst hB
  obtain ⟨v, r, h1, h2, h4⟩ := hf
  have h4 : r = [] := h4
  subst h4
  have h1 : fs = [(("_gauges" : Str), v)] := h1
  subst h1
  exact ⟨p, dx, v, rfl, m, hH, h2, hT⟩
theorem ea_varO {W : Wd} {Γ : Gam} {tr : TA} {i : Nat} {o : Ty} {k : List Ty → Prop} (h : Γ[i]? = some (some o)) (q : EvA W tr Γ fun ts => k (o :: ts)) : EvA W (tCons (tVar i) tr) Γ k := fun σ H Q G c => by
  obtain ⟨v, h1, h2⟩ := G.at_ i _ h
  refine ⟨v, h1, q σ H _ G fun vs H' ts e d z => c (v :: vs) H' (o :: ts) e (.cons (t := o) (Ty.mono e.keep h2) d) z⟩
end G
set_option Elab.async false
set_option linter.all false
set_option maxRecDepth 100000
set_option maxHeartbeats 2000000
namespace G
open PySem PySem.Spec PyProof.Rows L2 StX
/-- alike data that may be sorted -/
class Srt (α : Type) [Rep α] extends Dat α where
  alk : ∀ a b : α, PySem.W.alike (toD a) (toD b) = true
  tup : (∀ a : α, ∃ x r, toD a = .tuple (x :: r)) ∨ ∀ a : α, toD a ≠ .none ∧ ∀ xs, toD a ≠ .tuple xs
end G
namespace G
open PySem PySem.Spec PyProof.Rows L2 StX
/-- data of one shape -/
class Alk (α : Type) [Rep α] [Dat α] : Prop where
  alk : ∀ a b : α, PySem.W.alike (Dat.toD a) (Dat.toD b) = true
instance : Alk Int := ⟨fun a b => by show PySem.W.alike (.int a) (.int b) = true; simp [PySem.W.alike]⟩
instance : Alk Str := ⟨fun a b => by show PySem.W.alike (.str a) (.str b) = true; simp [PySem.W.alike]⟩
theorem alk_all {α : Type} [Rep α] [Dat α] [Alk α] : ∀ as bs : List α, PySem.W.alikeAll (as.map Dat.toD) (bs.map Dat.toD) = true
  | [], _ => by simp [PySem.W.alikeAll]
  | _ :: _, [] => by simp [PySem.W.alikeAll]
  | a :: as, b :: bs => by
    rw [List.map_cons, List.map_cons, PySem.W.alikeAll, Alk.alk a b, alk_all as bs]
    rfl
instance {α : Type} [Rep α] [Dat α] [Alk α] : Alk (List α) := ⟨fun as bs => by
  show PySem.W.alike (.list (as.map Dat.toD)) (.list (bs.map Dat.toD)) = true
  rw [PySem.W.alike]
  exact alk_all as bs⟩
instance {α β : Type} [Rep α] [Rep β] [Dat α] [Dat β] [Alk α] [Alk β] : Alk (α × β) := ⟨fun a b => by
  show PySem.W.alike (.tuple [Dat.toD a.1, Dat.toD a.2]) (.tuple [Dat.toD b.1, Dat.toD b.2]) = true
  simp [PySem.W.alike, PySem.W.alikeAll, Alk.alk]⟩
instance : Srt Int := { toDat := inferInstance, alk := fun a b => Alk.alk a b, tup := .inr fun a => ⟨fun e => (by cases e), fun xs e => (by cases e)⟩ }
instance : Srt Str := { toDat := inferInstance, alk := fun a b => Alk.alk a b, tup := .inr fun a => ⟨fun e => (by cases e), fun xs e => (by cases e)⟩ }
instance srtPair {α β : Type} [Rep α] [Rep β] [Dat α] [Dat β] [Alk α] [Alk β] : Srt (α × β) := { toDat := inferInstance, alk := fun a b => Alk.alk a b, tup := .inl fun a => ⟨_, _, rfl⟩ }
end G
set_option Elab.async false
set_option linter.all false
set_option maxRecDepth 100000
set_option maxHeartbeats 2000000
namespace G
open PySem PySem.Spec PyProof.Rows L2 StX
def optD {α : Type} [r : Rep α] (W : Wc) (H : Hp) (v : V) : Option α → Prop
  | some a => den W H v a
  | none => v = .non
instance instRepOpt {α : Type} [Rep α] : Rep (Option α) where
  dn := optD
  mono := fun {W H H' v a} e h => by cases a with | none => exact h | some a => exact Rep.mono (a := a) e h
  grow := fun {W H v a} D n h => by cases a with | none => exact h | some a => exact Rep.grow (a := a) D n h
  shrink := fun {W H v a} D h => by cases a with | none => exact h | some a => exact Rep.shrink (a := a) D h
instance {α : Type} [Rep α] [Flat α] : Flat (Option α) := ⟨fun {W W' H H' v a} h => by cases a with | none => exact h | some a => exact Flat.at_ (a := a) h⟩
/-- data that are unlike None -/
class NeNon (α : Type) [Rep α] [Dat α] : Prop where
  ne : ∀ a : α, PyData.eqv .none (Dat.toD a) = false ∧ PyData.eqv (Dat.toD a) .none = false
instance : NeNon Int := ⟨fun a => ⟨rfl, rfl⟩⟩
instance : NeNon Str := ⟨fun a => ⟨rfl, rfl⟩⟩
instance {α : Type} [Rep α] [Dat α] [NeNon α] : Dat (Option α) where
  toD := fun o => match o with | some a => Dat.toD a | none => .none
  dp := fun {W H v a} h => by
    cases a with
    | none => cases (show v = .non from h); exact .non
    | some a => exact Dat.dp (a := a) h
  dep := Dat.dep α
  ddep := fun a => by cases a with | none => exact Nat.zero_le _ | some a => exact Dat.ddep a
  inj := fun a b => by
    cases a with
    | none => cases b with
      | none => exact ⟨fun _ => rfl, fun _ => rfl⟩
      | some b => exact ⟨fun h => absurd ((NeNon.ne b).1.symm.trans h) Bool.false_ne_true, fun h => (by cases h)⟩
    | some a => cases b with
      | none => exact ⟨fun h => absurd ((NeNon.ne a).2.symm.trans h) Bool.false_ne_true, fun h => (by cases h)⟩
      | some b => exact (Dat.inj a b).trans ⟨fun h => by rw [h], fun h => Option.some.inj h⟩
  good := fun a => ∀ b, a = some b → Dat.good b
  gshp := fun a h => by cases a with | none => rfl | some a => exact Dat.gshp a (h a rfl)
end G
set_option Elab.async false
set_option linter.all false
set_option maxRecDepth 100000
set_option maxHeartbeats 2000000
namespace G
open PySem PySem.Spec PyProof.Rows L2 StX
abbrev flatG (gs : List Grp) : List Str := gs.flatMap Tl.xs
structure GrOk (ws : List Str) (gs : List Grp) : Prop where
  nd : (flatG gs).Nodup
  sub : ∀ w ∈ flatG gs, w ∈ ws
def prs (gs : List Grp) : List (Str × Grp) := gs.flatMap fun g => g.xs.map fun m => (m, g)
theorem prs_keys (gs : List Grp) : (prs gs).map (·.1) = flatG gs := by
  unfold prs flatG
  rw [List.map_flatMap]
  congr 1
  funext g
  rw [List.map_map]
  exact List.map_id' _
theorem grpD_eq {gs : List Grp} (h : (flatG gs).Nodup) : grpD gs = prs gs := by
  unfold grpD
  rw [mergeD_nodup]
  · rfl
  · rw [List.nil_append]
    show ((prs gs).map (·.1)).Nodup
    rw [prs_keys]
    exact h
theorem getDc_mem {β : Type} {l : List (Str × β)} (h : (l.map (·.1)).Nodup) {k : Str} {b : β} (hm : (k, b) ∈ l) : getDc l k = some b := by
  unfold getDc
  induction l with
  | nil => cases hm
  | cons e r ih =>
    rw [List.map_cons, List.nodup_cons] at h
    rcases List.mem_cons.mp hm with e1 | hm
    · subst e1
      rw [List.find?_cons_of_pos (by simp)]
      rfl
    · have hne : ¬ e.1 = k := fun q => h.1 (List.mem_map.mpr ⟨_, hm, q.symm⟩)
      rw [List.find?_cons_of_neg (by simpa using hne)]
      exact ih h.2 hm
theorem getDc_no {β : Type} {l : List (Str × β)} {k : Str} (h : k ∉ l.map (·.1)) : getDc l k = none := by
  unfold getDc
  rw [List.find?_eq_none.mpr]
  · rfl
  · intro e he
    simp
    intro q
    exact h (List.mem_map.mpr ⟨e, he, q⟩)
theorem getG_in {gs : List Grp} (h : (flatG gs).Nodup) {g : Grp} (hg : g ∈ gs) {w : Str} (hw : w ∈ g.xs) : getDc (grpD gs) w = some g := by
  rw [grpD_eq h]
  refine getDc_mem (by rw [prs_keys]; exact h) ?_
  exact List.mem_flatMap.mpr ⟨g, hg, List.mem_map.mpr ⟨w, hw, rfl⟩⟩
theorem getG_no {gs : List Grp} (h : (flatG gs).Nodup) {w : Str} (hw : w ∉ flatG gs) : getDc (grpD gs) w = none := by
  rw [grpD_eq h]
  exact getDc_no (by rw [prs_keys]; exact hw)
/-- whether o shares a fault with w -/
def mate (gs : List Grp) (w o : Str) : Bool := decide (o = w) || decide (o ∈ ((getDc (grpD gs) w).getD ⟨[]⟩).xs)
theorem flt_is (gs : List Grp) (ws : List Str) (w : Str) : fltD (grpD gs) ws w = ws.filter (mate gs w) := rfl
theorem mate_refl (gs : List Grp) (w : Str) : mate gs w w = true := by unfold mate; simp
theorem mate_same {gs : List Grp} (h : (flatG gs).Nodup) {w o : Str} (hm : mate gs w o = true) : mate gs o = mate gs w := by
  unfold mate at hm
  by_cases e : o = w
  · rw [e]
  · rw [decide_eq_false e, Bool.false_or] at hm
    have hm := of_decide_eq_true hm
    by_cases hw : w ∈ flatG gs
    · obtain ⟨g, hg, hwg⟩ := List.mem_flatMap.mp hw
      rw [getG_in h hg hwg] at hm
      have hm : o ∈ g.xs := hm
      funext x
      unfold mate
      rw [getG_in h hg hwg, getG_in h hg hm]
      show (decide (x = o) || decide (x ∈ g.xs)) = (decide (x = w) || decide (x ∈ g.xs))
      by_cases hx : x ∈ g.xs
      · rw [decide_eq_true hx, Bool.or_true, Bool.or_true]
      · have h1 : ¬ x = o := fun q => hx (by rw [q]; exact hm)
        have h2 : ¬ x = w := fun q => hx (by rw [q]; exact hwg)
        rw [decide_eq_false h1, decide_eq_false h2]
    · rw [getG_no h hw] at hm
      exact absurd hm (List.not_mem_nil)
theorem found_step {ws : List Str} (nd : ws.Nodup) {gs : List Grp} (hg : (flatG gs).Nodup) {i : Nat} {w : Str} (h : ws[i]? = some w) :
    fltD (grpD gs) ws w ∈ ((ws.take i).filter (keepD (grpD gs) ws)).map (fltD (grpD gs) ws) ↔ keepD (grpD gs) ws w = false := by
  have hi := (List.getElem?_eq_some_iff.mp h).1
  have he := (List.getElem?_eq_some_iff.mp h).2
  have hsp : ws = ws.take i ++ w :: ws.drop (i + 1) := by
    rw [← he, ← List.drop_eq_getElem_cons hi, List.take_append_drop]
  have hwt : w ∉ ws.take i := fun q => by
    rw [hsp] at nd
    exact (List.nodup_append.mp nd).2.2 w q w List.mem_cons_self rfl
  constructor
  · intro hm
    obtain ⟨u, hu, hfu⟩ := List.mem_map.mp hm
    obtain ⟨hut, hku⟩ := List.mem_filter.mp hu
    have hku : (fltD (grpD gs) ws u).headD u = u := of_decide_eq_true hku
    refine decide_eq_false fun q => ?_
    obtain ⟨a, r, hc, _⟩ := fltD_head (ds := grpD gs) (List.mem_of_mem_take hut)
    rw [← hfu, hc] at q
    rw [hc] at hku
    have q : a = w := q
    have hku : a = u := hku
    exact hwt (by rw [← q, hku]; exact hut)
  · intro hk
    have hk : ¬ (fltD (grpD gs) ws w).headD w = w := of_decide_eq_false hk
    have hsplit : fltD (grpD gs) ws w = (ws.take i).filter (mate gs w) ++ w :: (ws.drop (i + 1)).filter (mate gs w) := by
      rw [flt_is]
      conv => lhs; rw [hsp]
      rw [List.filter_append, List.filter_cons_of_pos (mate_refl gs w)]
    cases hf : (ws.take i).filter (mate gs w) with
    | nil =>
      rw [hsplit, hf] at hk
      exact absurd rfl hk
    | cons a r =>
      have ha : a ∈ (ws.take i).filter (mate gs w) := by rw [hf]; exact List.mem_cons_self
      obtain ⟨hat, ham⟩ := List.mem_filter.mp ha
      have hfa : fltD (grpD gs) ws a = fltD (grpD gs) ws w := by rw [flt_is, flt_is, mate_same hg ham]
      refine List.mem_map.mpr ⟨a, List.mem_filter.mpr ⟨hat, ?_⟩, hfa⟩
      refine decide_eq_true ?_
      rw [hfa, hsplit, hf]
      rfl
/-- what the laws say of a word's fault -/
theorem flt_group {ws : List Str} {gs : List Grp} (hg : (flatG gs).Nodup) {g : Grp} (hm : g ∈ gs) {w : Str} (hw : w ∈ g.xs) : fltD (grpD gs) ws w = ws.filter fun o => decide (o ∈ g.xs) := by
  rw [flt_is]
  refine List.filter_congr fun x _ => ?_
  unfold mate
  rw [getG_in hg hm hw]
  show (decide (x = w) || decide (x ∈ g.xs)) = _
  by_cases hx : x = w
  · rw [hx, decide_eq_true hw, Bool.or_true]
  · rw [decide_eq_false hx, Bool.false_or]
theorem flt_alone {ws : List Str} (nd : ws.Nodup) {gs : List Grp} (hg : (flatG gs).Nodup) {w : Str} (hw : w ∉ flatG gs) (hm : w ∈ ws) : fltD (grpD gs) ws w = [w] := by
  rw [flt_is]
  have : ws.filter (mate gs w) = ws.filter fun o => o == w := List.filter_congr fun x _ => by
    unfold mate
    rw [getG_no hg hw]
    show (decide (x = w) || decide (x ∈ ([] : List Str))) = _
    rw [decide_eq_false (List.not_mem_nil), Bool.or_false]
    by_cases e : x = w
    · rw [decide_eq_true e, beq_iff_eq.mpr e]
    · rw [decide_eq_false e, beq_eq_false_iff_ne.mpr e]
  rw [this, List.filter_beq, nd.count, if_pos hm]
  rfl
theorem flF_mem {ws : List Str} {gs : List Grp} {f : List Str} (h : f ∈ flF ws gs) : f ≠ [] ∧ f.length ≤ ws.length ∧ (∀ n ∈ f, n ∈ ws) := by
  unfold flF flD at h
  obtain ⟨w, hw, rfl⟩ := List.mem_map.mp h
  have hws := (List.mem_filter.mp hw).1
  obtain ⟨a, r, hc, _⟩ := fltD_head (ds := grpD gs) hws
  exact ⟨by rw [hc]; simp, fltD_len _ _ _, fun n hn => (List.mem_filter.mp hn).1⟩
theorem badG_ok {ws : List Str} {gs : List Grp} (h : GrOk ws gs) : badG ws [] (flatG gs) = none := badG_none.mpr ⟨fun w hw => ⟨h.sub w hw, List.not_mem_nil⟩, h.nd⟩
end G
set_option Elab.async false
set_option linter.all false
set_option maxRecDepth 100000
set_option maxHeartbeats 2000000
namespace G
open PySem PySem.Spec PyProof.Rows L2 StX
theorem huE {k : Nat} {A : Around} (h : Room k A) : A.units + 65 < cLine := by have := h.un; omega
theorem op_notInDK {X : Cx} (K : PySem.W.Frag) (hu : X.A.units + 65 < cLine) (h : X.K = K := by rfl) : OpR X (compareOp .NotIn) (rNotInD K) := by subst h; exact op_notInD hu
theorem any_eqv {α : Type} [Rep α] [Dat α] [DecidableEq α] (a : α) : ∀ as : List α, ((as.map Dat.toD).any fun z => PyData.eqv z (Dat.toD a)) = decide (a ∈ as)
  | [] => by simp
  | b :: r => by
    rw [List.map_cons, List.any_cons, any_eqv a r, eqv_dec]
    by_cases e : b = a
    · rw [decide_eq_true e, Bool.true_or, decide_eq_true (by rw [e]; exact List.mem_cons_self)]
    · rw [decide_eq_false e, Bool.false_or]
      exact decide_eq_decide.mpr ⟨fun h => List.mem_cons_of_mem _ h, fun h => (List.mem_cons.mp h).resolve_left fun q => e q.symm⟩
section
variable {W : Wd} {Γ : Gam} {ta tb : TE} {K : PySem.W.Frag}
/-- what `in` asks of plain data -/
def InG {α : Type} [Rep α] (a : α) (as : List α) (k : Bool → Prop) : Prop := ∃ (d : Dat α) (_ : DecidableEq α), Dat.dep α < 64 ∧ (Dat.good a ∧ ∀ b ∈ as, Dat.good b) ∧ k (decide (a ∈ as))
theorem ing_in {α : Type} [Rep α] [Dat α] [DecidableEq α] {a : α} {as : List α} {k : Bool → Prop} (h1 : Dat.dep α < 64) (h2 : Dat.good a) (h3 : ∀ b ∈ as, Dat.good b) (h : k (decide (a ∈ as))) : InG a as k := ⟨inferInstance, inferInstance, h1, ⟨h2, h3⟩, h⟩
theorem ev_notInD {α : Type} {rα : Rep α} {k : Bool → Prop} (hK : W.B.K = K) (h : EvK W ta Γ fun a : α => EvK W tb Γ fun as : List α => InG a as fun b => k (!b)) : EvK W (tOp (rNotInD K) ta tb) Γ k := by
  subst hK
  exact ev_two (h.imp fun a ha => ha.imp fun as ⟨d, q, h1, h2, h3⟩ x y H Q o dx dy c => ⟨_, _, Dat.dp dx, Dat.dp dy, shaped_of h2.1 (Nat.le_of_lt h1), shaped_of (α := List α) h2.2 h1, c _ H _ (Ext.refl o) rfl (by rw [any_eqv]; exact h3)⟩)
end
/-- a rack in order -/
structure RkOk (gs : List Gau) (fl : List (List Str)) : Prop where
  len : gs.length ≤ 100
  nd : (gs.map Gau.nm).Nodup
  nm : ∀ g ∈ gs, NmOk g.nm
  go : ∀ g ∈ gs, GauOk g
  fln : fl.length ≤ 100
  ff : ∀ f ∈ fl, f ≠ [] ∧ f.length ≤ 100 ∧ ∀ n ∈ f, n ∈ gs.map Gau.nm
theorem rkok_of {gs : List Gau} {grs : List Grp} (h1 : gs.length ≤ 100) (h2 : (gs.map Gau.nm).Nodup) (h3 : ∀ g ∈ gs, NmOk g.nm) (h4 : ∀ g ∈ gs, GauOk g) : RkOk gs (flF (gs.map Gau.nm) grs) :=
  ⟨h1, h2, h3, h4, Nat.le_trans (flF_len _ _) (by rw [List.length_map]; exact h1), fun f hf => by
    obtain ⟨a, b, c⟩ := flF_mem hf
    exact ⟨a, Nat.le_trans b (by rw [List.length_map]; exact h1), c⟩⟩
end G
namespace G
end G
namespace G
open PySem PySem.Spec PyProof.Rows L2 StX
def grpM (ws : List Str) (ms : List Int) (m : Int) : List Str := ((ws.zip ms).filter fun q => decide (q.2 = m)).map (·.1)
theorem zip_take_filt {ws : List Str} {ms : List Int} {i : Nat} {w : Str} {m : Int} (h1 : ws[i]? = some w) (h2 : ms[i]? = some m) (t : Int) :
    (((ws.zip ms).take (i + 1)).filter fun q => decide (q.2 = t)).map (·.1) = (((ws.zip ms).take i).filter fun q => decide (q.2 = t)).map (·.1) ++ (if m = t then [w] else []) := by
  have hz : (ws.zip ms)[i]? = some (w, m) := by
    rw [List.getElem?_zip_eq_some]
    exact ⟨h1, h2⟩
  rw [List.take_succ, hz, List.filter_append, List.map_append]
  congr 1
  by_cases e : m = t
  · rw [if_pos e]; simp [e]
  · rw [if_neg e]; simp [e]
theorem grpM_sub {ws : List Str} {ms : List Int} {m : Int} : (grpM ws ms m).Sublist ws := by
  unfold grpM
  refine List.Sublist.trans (List.Sublist.map _ (List.filter_sublist)) ?_
  induction ws generalizing ms with
  | nil => simp
  | cons a r ih =>
    cases ms with
    | nil => simp
    | cons b s => rw [List.zip_cons_cons, List.map_cons]; exact List.Sublist.cons_cons a ih
theorem grpM_apart {ws : List Str} (nd : ws.Nodup) {ms : List Int} {m n : Int} (hne : m ≠ n) {w : Str} (h1 : w ∈ grpM ws ms m) : w ∉ grpM ws ms n := by
  intro h2
  unfold grpM at h1 h2
  obtain ⟨p, hp, rfl⟩ := List.mem_map.mp h1
  obtain ⟨q, hq, hqp⟩ := List.mem_map.mp h2
  obtain ⟨hp1, hp2⟩ := List.mem_filter.mp hp
  obtain ⟨hq1, hq2⟩ := List.mem_filter.mp hq
  obtain ⟨i, hi⟩ := List.getElem?_of_mem hp1
  obtain ⟨j, hj⟩ := List.getElem?_of_mem hq1
  obtain ⟨a1, a2⟩ := List.getElem?_zip_eq_some.mp hi
  obtain ⟨b1, b2⟩ := List.getElem?_zip_eq_some.mp hj
  rw [hqp] at b1
  have hij : i = j := (List.getElem?_inj (List.getElem?_eq_some_iff.mp a1).1 nd).mp (a1.trans b1.symm)
  subst hij
  rw [a2] at b2
  have e : p.2 = q.2 := Option.some.inj b2
  have hp2 : p.2 = m := of_decide_eq_true hp2
  have hq2 : q.2 = n := of_decide_eq_true hq2
  exact hne (by rw [← hp2, e, hq2])
theorem grok_of {ws : List Str} (nd : ws.Nodup) {ms : List Int} {g0 g1 : Grp} (h0 : g0.xs.Perm (grpM ws ms 0)) (h1 : g1.xs.Perm (grpM ws ms 1)) : GrOk ws [g0, g1] := by
  have e : flatG [g0, g1] = g0.xs ++ g1.xs := by show g0.xs ++ (g1.xs ++ []) = _; rw [List.append_nil]
  refine ⟨?_, fun w hw => ?_⟩
  · rw [e, List.nodup_append]
    refine ⟨h0.nodup_iff.mpr (grpM_sub.nodup nd), h1.nodup_iff.mpr (grpM_sub.nodup nd), fun a ha b hb q => ?_⟩
    subst q
    exact grpM_apart nd (by decide) (h0.mem_iff.mp ha) (h1.mem_iff.mp hb)
  · rw [e] at hw
    rcases List.mem_append.mp hw with h | h
    · exact grpM_sub.subset (h0.mem_iff.mp h)
    · exact grpM_sub.subset (h1.mem_iff.mp h)
end G
namespace G
open PySem PySem.Spec PyProof.Rows L2 StX
theorem good_nm {w : Str} (h : GoodW w) : NmOk w := ⟨goodW_ok h, (repr_good h).1, (repr_good h).2⟩
theorem nodup_len {α : Type} [DecidableEq α] : ∀ {l m : List α}, l.Nodup → (∀ x ∈ l, x ∈ m) → l.length ≤ m.length
  | [], _, _, _ => Nat.zero_le _
  | a :: r, m, nd, h => by
    have ha := h a List.mem_cons_self
    obtain ⟨h1, h2⟩ := List.nodup_cons.mp nd
    have h3 : r.length ≤ (m.erase a).length := nodup_len h2 fun x hx => (List.mem_erase_of_ne (fun e => h1 (by rw [← e]; exact hx))).mpr (h x (List.mem_cons_of_mem _ hx))
    have h4 := List.length_erase_of_mem ha
    have h5 := List.length_pos_of_mem ha
    rw [List.length_cons]
    omega
theorem grok_len {ws : List Str} {gs : List Grp} (h : GrOk ws gs) (hl : ws.length ≤ 100) : (flatG gs).length ≤ 1000 := by
  have := nodup_len h.nd fun w hw => h.sub w hw
  omega
end G
set_option Elab.async false
set_option linter.all false
set_option maxRecDepth 100000
set_option maxHeartbeats 2000000
namespace G
open PySem PySem.Spec PyProof.Rows L2 StX
/-- a promise that may speak of the heap's size at the call -/
def FnRN (P : Program) (w : World) (K : PySem.W.Frag) (mg : Str → Option Value) (base : Heap) (CX : CXT) (k : Nat) (f : Addr) (sp : Nat → Sp) : Prop :=
  ∀ (A : Around) (outer : List Env) (s : Shared) (H : Hp) (us : List Value) (vs : List V) (Q : VK) (E : XK), Room k A → Env0 P w K mg base A outer s H → Vals vs us → sp s.heap.objs.size vs H Q E →
    codeAny (model P w) A (.call (.ref f) ⟨us, []⟩) (CR CX outer P w H s Q E) s
section
variable {P : Program} {w : World} {K : PySem.W.Frag} {mg : Str → Option Value} {base : Heap}
theorem FnRN.mono {CX : CXT} {j k : Nat} {f : Addr} {sp : Nat → Sp} (F : FnRN P w K mg base CX j f sp) (h : j ≤ k) : FnRN P w K mg base CX k f sp := fun A outer s H us vs Q E hr => F A outer s H us vs Q E (hr.mono h)
end
end G
set_option Elab.async false
set_option linter.all false
set_option maxRecDepth 100000
set_option maxHeartbeats 2000000
namespace G
open PySem PySem.Spec PyProof.Rows L2 StX
def toS (g : Gau) (r : Int) : Stc := ⟨r - sbF g, r + saF g⟩
def tdF (gs : List Gau) (ds : List (Str × Int)) (w : Str) : Stc := ((gs.find? fun g => decide (g.nm = w)).map fun g => toS g (rdF ds w)).getD ⟨0, 0⟩
theorem find_nm {gs : List Gau} (nd : (gs.map Gau.nm).Nodup) {g : Gau} (h : g ∈ gs) : (gs.find? fun e => decide (e.nm = g.nm)) = some g := by
  induction gs with
  | nil => cases h
  | cons e r ih =>
    rw [List.map_cons, List.nodup_cons] at nd
    rcases List.mem_cons.mp h with rfl | hm
    · rw [List.find?_cons_of_pos (by simp)]
    · have hne : ¬ e.nm = g.nm := fun q => nd.1 (List.mem_map.mpr ⟨_, hm, q.symm⟩)
      rw [List.find?_cons_of_neg (by simpa using hne)]
      exact ih nd.2 hm
theorem tdF_at {gs : List Gau} {ds : List (Str × Int)} (nd : (gs.map Gau.nm).Nodup) {g : Gau} (h : g ∈ gs) : tdF gs ds g.nm = toS g (rdF ds g.nm) := by
  unfold tdF
  rw [find_nm nd h]
  rfl
/-- the told stretches of a fault -/
def tfF (gs : List Gau) (ds : List (Str × Int)) (f : List Str) : List Stc := (f.filter fun w => (getDc ds w).isSome).map (tdF gs ds)
/-- the present faults -/
def prF (gs : List Gau) (fl : List (List Str)) (ds : List (Str × Int)) : List (List Stc) := (fl.map (tfF gs ds)).filter fun l => !l.isEmpty
def loS : Stc → List Stc → Int
  | s, [] => s.lo
  | s, t :: r => max s.lo (loS t r)
def hiS : Stc → List Stc → Int
  | s, [] => s.hi
  | s, t :: r => min s.hi (hiS t r)
theorem loS_le {x : Int} : ∀ {s : Stc} {r : List Stc}, loS s r ≤ x ↔ ∀ t ∈ s :: r, t.lo ≤ x
  | s, [] => by simp [loS]
  | s, t :: r => by
    have ih := loS_le (x := x) (s := t) (r := r)
    rw [loS, Int.max_le, ih]
    simp
theorem le_hiS {x : Int} : ∀ {s : Stc} {r : List Stc}, x ≤ hiS s r ↔ ∀ t ∈ s :: r, x ≤ t.hi
  | s, [] => by simp [hiS]
  | s, t :: r => by
    have ih := le_hiS (x := x) (s := t) (r := r)
    rw [hiS, Int.le_min, ih]
    simp
/-- what all stretches of a list have in common -/
def capP : List Stc → List (Int × Int)
  | [] => []
  | s :: r => if loS s r ≤ hiS s r then [(loS s r, hiS s r)] else []
theorem memP_cap {ss : List Stc} (h0 : ss ≠ []) {x : Int} : memP x (capP ss) ↔ ∀ s ∈ ss, inS x s = true := by
  cases ss with
  | nil => exact absurd rfl h0
  | cons s r =>
    have e : (∀ t ∈ s :: r, inS x t = true) ↔ loS s r ≤ x ∧ x ≤ hiS s r := by
      rw [loS_le, le_hiS]
      exact ⟨fun h => ⟨fun t ht => (inS_iff.mp (h t ht)).1, fun t ht => (inS_iff.mp (h t ht)).2⟩, fun ⟨h1, h2⟩ t ht => inS_iff.mpr ⟨h1 t ht, h2 t ht⟩⟩
    rw [e]
    rw [capP]
    by_cases hle : loS s r ≤ hiS s r
    · rw [if_pos hle]
      exact ⟨fun ⟨p, hp, h1, h2⟩ => by rw [List.mem_singleton.mp hp] at h1 h2; exact ⟨h1, h2⟩, fun ⟨h1, h2⟩ => ⟨_, List.mem_singleton.mpr rfl, h1, h2⟩⟩
    · rw [if_neg hle]
      exact ⟨fun ⟨p, hp, _⟩ => (nomatch hp), fun ⟨h1, h2⟩ => absurd (Int.le_trans h1 h2) hle⟩
theorem cap_len (ss : List Stc) : (capP ss).length ≤ 1 := by
  cases ss with
  | nil => exact Nat.zero_le _
  | cons s r =>
    rw [capP]
    split <;> simp
/-- the pieces of what fits each present fault -/
def ptF (pr : List (List Stc)) : List Stc := pr.flatMap fun l => (capP l).map mkStc
theorem pr_ne {gs : List Gau} {fl : List (List Str)} {ds : List (Str × Int)} {l : List Stc} (h : l ∈ prF gs fl ds) : l ≠ [] := by
  have := (List.mem_filter.mp h).2
  intro e
  rw [e] at this
  exact absurd this (by decide)
/-- the number of present faults that fit a level -/
theorem dep_pt {pr : List (List Stc)} (h : ∀ l ∈ pr, l ≠ []) (x : Int) : depS (ptF pr) x = (pr.filter fun l => l.all (inS x)).length := by
  unfold ptF
  induction pr with
  | nil => rfl
  | cons l r ih =>
    have ih := ih fun m hm => h m (List.mem_cons_of_mem _ hm)
    have h0 := h l List.mem_cons_self
    rw [List.flatMap_cons]
    unfold depS at ih ⊢
    rw [List.filter_append, List.length_append]
    have e1 : (((capP l).map mkStc).filter (inS x)).length = if l.all (inS x) then 1 else 0 := by
      have hm := memP_cap h0 (x := x)
      have hc := cap_len l
      by_cases ha : l.all (inS x) = true
      · rw [if_pos ha]
        obtain ⟨p, hp, h1, h2⟩ := hm.mpr (List.all_eq_true.mp ha)
        cases e : capP l with
        | nil => rw [e] at hp; cases hp
        | cons q t =>
          rw [e] at hc hp
          have : t = [] := by cases t with
            | nil => rfl
            | cons u v => simp at hc
          subst this
          have := List.mem_singleton.mp hp
          subst this
          have hi : inS x (mkStc p) = true := inS_iff.mpr ⟨h1, h2⟩
          show (List.filter (inS x) [mkStc p]).length = 1
          rw [List.filter_cons_of_pos hi]
          rfl
      · rw [if_neg ha]
        have hn : ∀ p ∈ capP l, ¬ (p.1 ≤ x ∧ x ≤ p.2) := fun p hp hh => ha (List.all_eq_true.mpr (hm.mp ⟨p, hp, hh.1, hh.2⟩))
        rw [List.filter_eq_nil_iff.mpr fun s hs hh => by
          obtain ⟨p, hp, rfl⟩ := List.mem_map.mp hs
          exact hn p hp (inS_iff.mp hh)]
        rfl
    rw [e1]
    by_cases ha : l.all (inS x) = true
    · rw [if_pos ha, List.filter_cons_of_pos (p := fun l : List Stc => l.all (inS x)) ha, List.length_cons]
      omega
    · rw [if_neg ha, List.filter_cons_of_neg (p := fun l : List Stc => l.all (inS x)) ha]
      omega
/-- the possible levels -/
def PosOk (gs : List Gau) (fl : List (List Str)) (ds : List (Str × Int)) (l : Int) (L : List (Int × Int)) : Prop := ShOk (ptF (prF gs fl ds)) ((prF gs fl ds).length - l) L
end G
namespace G
end G
set_option Elab.async false
set_option linter.all false
set_option maxRecDepth 100000
set_option maxHeartbeats 2000000
namespace G
open PySem PySem.Spec PyProof.Rows L2 StX
theorem filt_split {α : Type} (p : α → Bool) : ∀ l : List α, (l.filter p).length + (l.filter fun a => !p a).length = l.length
  | [] => rfl
  | a :: l => by
    have ih := filt_split p l
    rw [List.filter_cons, List.filter_cons]
    cases hp : p a <;> simp_all <;> omega
end G
namespace G
open PySem PySem.Spec PyProof.Rows L2 StX
end G
set_option Elab.async false
set_option linter.all false
set_option maxRecDepth 100000
set_option maxHeartbeats 2000000
namespace G
open PySem PySem.Spec PyProof.Rows L2 StX
class NoDc (α : Type) [Rep α] : Prop where
  at_ : ∀ {W : Wc} {H : Hp} {v : V} {a : α} {q : Addr} {kvs : List (Key × V)}, H q = some (.dK kvs) → den W H v a → den (W.plus q) H v a
instance : NoDc Int := ⟨fun _ h => h⟩
instance : NoDc Bool := ⟨fun _ h => h⟩
instance : NoDc Str := ⟨fun _ h => h⟩
instance : NoDc Unit := ⟨fun _ h => h⟩
theorem lq_nd {W : Wc} {H : Hp} {p q : Addr} {vs : List V} {kvs : List (Key × V)} (h : H q = some (.dK kvs)) (s : Lq W H p vs) : Lq (W.plus q) H p vs :=
  ⟨fun z => z.elim s.1 fun z => (by have := s.2; rw [z, h] at this; cases this), s.2⟩
theorem tq_nd {W : Wc} {H : Hp} {p q : Addr} {vs : List V} {kvs : List (Key × V)} (h : H q = some (.dK kvs)) (s : Tq W H p vs) : Tq (W.plus q) H p vs :=
  ⟨fun z => z.elim s.1 fun z => (by have := s.2; rw [z, h] at this; cases this), s.2⟩
instance {α : Type} [Rep α] [NoDc α] : NoDc (List α) := ⟨fun h ⟨p, vs, hv, s, d⟩ => ⟨p, vs, hv, lq_nd h s, d.imp fun _ _ x => NoDc.at_ h x⟩⟩
instance {α β : Type} [Rep α] [Rep β] [NoDc α] [NoDc β] : NoDc (α × β) := ⟨fun h ⟨p, x, y, hv, s, d1, d2⟩ => ⟨p, x, y, hv, tq_nd h s, NoDc.at_ h d1, NoDc.at_ h d2⟩⟩
instance {α β : Type} [Rep α] [Rep β] [NoDc α] [NoDc β] : NoDc (Li2 α β) := ⟨fun h ⟨p, x, y, hv, s, d1, d2⟩ => ⟨p, x, y, hv, lq_nd h s, NoDc.at_ h d1, NoDc.at_ h d2⟩⟩
instance {α β γ : Type} [Rep α] [Rep β] [Rep γ] [NoDc α] [NoDc β] [NoDc γ] : NoDc (Li3 α β γ) := ⟨fun h ⟨p, x, y, z, hv, s, d1, d2, d3⟩ => ⟨p, x, y, z, hv, lq_nd h s, NoDc.at_ h d1, NoDc.at_ h d2, NoDc.at_ h d3⟩⟩
end G
set_option Elab.async false
set_option linter.all false
set_option maxRecDepth 100000
set_option maxHeartbeats 2000000
namespace G
open PySem PySem.Spec PyProof.Rows L2 StX
theorem Dk.at {β : Type} {f : V → β → Prop} : ∀ {kvs : List (Key × V)} {l : List (Str × β)}, Dk f kvs l → ∀ {i : Nat} {k : Key} {v : V}, kvs[i]? = some (k, v) → ∃ s b, l[i]? = some (s, b) ∧ k = .inr s ∧ f v b
  | _, _, .nil, i, k, v, h => by simp at h
  | _, _, .cons (k := a) (v := w) (b := b) h r, 0, k, v, e => by
    have e : some ((Sum.inr a : Key), w) = some (k, v) := e
    cases e
    exact ⟨a, b, rfl, rfl, h⟩
  | _, _, .cons h r, i + 1, k, v, e => r.at (i := i) e
end G
set_option Elab.async false
set_option linter.all false
set_option maxRecDepth 100000
set_option maxHeartbeats 2000000
namespace G
open PySem PySem.Spec PyProof.Rows L2 StX
end G
set_option Elab.async false
set_option linter.all false
set_option maxRecDepth 100000
set_option maxHeartbeats 2000000
namespace G
open PySem PySem.Spec PyProof.Rows L2 StX
def outT (x : Int) (p : Int × Int) : Bool := !(decide (p.1 ≤ x) && decide (x ≤ p.2))
def pairsT (td : List (Str × (Int × Int))) (f : List Str) : List (Int × Int) := (f.filter fun w => (getDc td w).isSome).map fun w => (getDc td w).getD (0, 0)
def missT (fl : List (List Str)) (td : List (Str × (Int × Int))) (x : Int) : Int := ((fl.filter fun f => (pairsT td f).any (outT x)).length : Int)
def tpG (gs : List Gau) (e : Str × Int) : Int × Int := ((gs.find? fun g => decide (g.nm = e.1)).map fun g => (e.2 - sbF g, e.2 + saF g)).getD (0, 0)
theorem dc_isSome {β : Type} (l : List (Str × β)) (w : Str) : (getDc l w).isSome = decide (w ∈ l.map (·.1)) := by
  unfold getDc
  rw [Option.isSome_map, Bool.eq_iff_iff, List.find?_isSome, decide_eq_true_iff]
  exact ⟨fun ⟨e, he, hk⟩ => List.mem_map.mpr ⟨e, he, of_decide_eq_true hk⟩, fun h => by obtain ⟨e, he, rfl⟩ := List.mem_map.mp h; exact ⟨e, he, decide_eq_true rfl⟩⟩
structure Tw (gs : List Gau) (ws : List Str) (i : Nat) (ds : List (Str × Int)) (td : List (Str × (Int × Int))) : Prop where
  len : ds.length ≤ i
  nd : (ds.map (·.1)).Nodup
  keys : ∀ w ∈ ds.map (·.1), w ∈ ws.take i
  td : td = ds.map fun e => (e.1, tpG gs e)
section
variable {gs : List Gau} {fl : List (List Str)} {ws : List Str} {i : Nat} {ds : List (Str × Int)} {td : List (Str × (Int × Int))}
theorem Tw.tkeys (h : Tw gs ws i ds td) : td.map (·.1) = ds.map (·.1) := by rw [h.td, List.map_map]; rfl
theorem Tw.isS (h : Tw gs ws i ds td) (w : Str) : (getDc td w).isSome = (getDc ds w).isSome := by rw [dc_isSome, dc_isSome, h.tkeys]
theorem Tw.get (h : Tw gs ws i ds td) (ng : (gs.map Gau.nm).Nodup) {g : Gau} (hg : g ∈ gs) (hs : (getDc ds g.nm).isSome = true) : getDc td g.nm = some ((tdF gs ds g.nm).lo, (tdF gs ds g.nm).hi) ∧ ((tdF gs ds g.nm).lo, (tdF gs ds g.nm).hi) ∈ td.map (·.2) := by
  rw [dc_isSome] at hs
  obtain ⟨e, he, hk⟩ := List.mem_map.mp (of_decide_eq_true hs)
  have hd := getDc_mem h.nd (k := e.1) (b := e.2) he
  have hr : rdF ds g.nm = e.2 := by unfold rdF; rw [← hk, hd]; rfl
  have ht : (e.1, tpG gs e) ∈ td := by rw [h.td]; exact List.mem_map.mpr ⟨e, he, rfl⟩
  have hp : tpG gs e = ((tdF gs ds g.nm).lo, (tdF gs ds g.nm).hi) := by
    rw [tdF_at ng hg, hr]
    unfold tpG
    rw [show (fun g' : Gau => decide (g'.nm = e.1)) = fun e => decide (e.nm = g.nm) by rw [hk], find_nm ng hg]
    rfl
  rw [hp] at ht
  exact ⟨by rw [← hk]; exact getDc_mem (by rw [h.tkeys]; exact h.nd) ht ▸ (by rw [hk]), List.mem_map.mpr ⟨_, ht, rfl⟩⟩
theorem any_not_all {α : Type} {p q : α → Bool} : ∀ {l : List α}, (∀ a ∈ l, p a = !q a) → l.any p = !l.all q
  | [], _ => rfl
  | a :: r, h => by
    rw [List.any_cons, List.all_cons, h a List.mem_cons_self, any_not_all fun b hb => h b (List.mem_cons_of_mem _ hb), Bool.not_and]
theorem Tw.out (h : Tw gs ws i ds td) (ok : RkOk gs fl) {f : List Str} (hf : f ∈ fl) (x : Int) : (pairsT td f).any (outT x) = !(tfF gs ds f).all (inS x) := by
  unfold pairsT tfF
  rw [List.any_map, List.all_map, show (f.filter fun w => (getDc td w).isSome) = f.filter fun w => (getDc ds w).isSome from List.filter_congr fun w _ => h.isS w]
  refine any_not_all fun w hw => ?_
  obtain ⟨hw1, hw2⟩ := List.mem_filter.mp hw
  obtain ⟨g, hg, rfl⟩ := List.mem_map.mp ((ok.ff f hf).2.2 w hw1)
  show outT x ((getDc td g.nm).getD (0, 0)) = !inS x (tdF gs ds g.nm)
  rw [(h.get ok.nd hg hw2).1]
  rfl
theorem Tw.miss (h : Tw gs ws i ds td) (ok : RkOk gs fl) (x : Int) : missT fl td x = (((prF gs fl ds).filter fun l => !l.all (inS x)).length : Int) := by
  unfold missT prF
  rw [List.filter_filter, List.filter_map, List.length_map]
  congr 2
  refine List.filter_congr fun f hf => ?_
  rw [h.out ok hf x]
  show _ = ((!(tfF gs ds f).all (inS x)) && !(tfF gs ds f).isEmpty)
  cases e : tfF gs ds f with
  | nil => rfl
  | cons a r => simp
theorem Tw.pos (h : Tw gs ws i ds td) (ok : RkOk gs fl) {l : Int} {L : List (Int × Int)} (hL : PosOk gs fl ds l L) (x : Int) : memP x L ↔ missT fl td x ≤ l := by
  rw [hL.2 x, dep_pt fun l hl => pr_ne hl, h.miss ok x]
  have := filt_split (fun l : List Stc => l.all (inS x)) (prF gs fl ds)
  omega
theorem Tw.mem (h : Tw gs ws i ds td) (ok : RkOk gs fl) {l : List Stc} (hl : l ∈ prF gs fl ds) {t : Stc} (ht : t ∈ l) : (t.lo, t.hi) ∈ td.map (·.2) := by
  obtain ⟨f, hf, rfl⟩ := List.mem_map.mp (List.mem_filter.mp hl).1
  obtain ⟨w, hw, rfl⟩ := List.mem_map.mp ht
  obtain ⟨hw1, hw2⟩ := List.mem_filter.mp hw
  obtain ⟨g, hg, rfl⟩ := List.mem_map.mp ((ok.ff f hf).2.2 w hw1)
  exact (h.get ok.nd hg hw2).2
end
end G
set_option Elab.async false
set_option linter.all false
set_option maxRecDepth 100000
set_option maxHeartbeats 2000000
namespace G
open PySem PySem.Spec PyProof.Rows L2 StX
/-- what a value was when the dict was locked -/
structure WasP where
  P : V → Prop
instance : Rep WasP := ⟨fun _ _ v w => w.P v, fun _ h => h, fun _ _ h => h, fun _ h => h⟩
end G
set_option Elab.async false
set_option linter.all false
set_option maxRecDepth 100000
set_option maxHeartbeats 2000000
namespace G
open PySem PySem.Spec PyProof.Rows L2 PySem.W
/-- what the module's names reach in n steps (each step from the newest alone; an object may stand there twice) -/
def refsB (g : Addr → Option Obj) (a : Addr) : List Addr := match g a with
  | some ⟨_, _, .func fd, _⟩ => He.refV fd.code ++ He.refV fd.defaults ++ He.refV fd.kwdefaults ++ fd.closure.map (·.2)
  | some ⟨_, _, .cls cd, _⟩ => [cd.ns]
  | some ⟨_, _, .dict es _, _⟩ => es.toList.flatMap fun e => He.refV e.val
  | some ⟨_, _, .seq its _, _⟩ => its.toList.flatMap He.refV
  | some ⟨.type n, _, .fields vs, _⟩ => if n == "property" || n == "classmethod" || n == "staticmethod" then vs.toList.flatMap He.refV else []
  | _ => []
def fro (g : Addr → Option Obj) : Nat → List Addr → List Addr
  | 0, as => as
  | n + 1, as => as ++ fro g n (as.flatMap (refsB g))
def asB (g : Addr → Option Obj) (n : Nat) : List Addr := fro g n [mainGlobals, cStatics]
abbrev FxV : Type := Option (Str × Str × Arguments × FuncBody × Scope × Addr × List Str × Addr)
def fx (K : Frag) (f : Addr) : FxV := match K.lookup f with
  | some ⟨_, _, .func fd, _⟩ => some (fd.name, fd.qualname, fd.params, fd.body, fd.scope, fd.globals, fd.closure.map (·.1), fd.builtins)
  | _ => none
def fxD (K : Frag) (f : Addr) : Value := match K.lookup f with
  | some ⟨_, _, .func fd, _⟩ => fd.defaults
  | _ => .none
def fxK (K : Frag) (f : Addr) : Value := match K.lookup f with
  | some ⟨_, _, .func fd, _⟩ => fd.kwdefaults
  | _ => .none
def fxC (K : Frag) (f : Addr) : Value := match K.lookup f with
  | some ⟨_, _, .func fd, _⟩ => fd.code
  | _ => .none
def vAd : Value → Addr
  | .ref a => a
  | _ => 0
/-- a def of the text: where it stands, its names, its statement, what it closes over -/
structure FxS where
  at_ : Frag → Addr
  name : Str
  qual : Str
  st : Stmt
  cl : List Str
def FxS.val (d : FxS) : FxV := some (d.name, d.qual, defArgs d.st, FuncBody.stmts (defBody d.st), defScope d.st, mainGlobals, d.cl, builtinsNs)
theorem fx_ok {K : Frag} {f : Addr} {name qual : Str} {st : Stmt} (e : fx K f = some (name, qual, defArgs st, FuncBody.stmts (defBody st), defScope st, mainGlobals, [], builtinsNs)) :
    ∃ oc od osl doc pm an ct, K.lookup f = some ⟨oc, od, .func (fnOf name qual (defArgs st) (defBody st) (defScope st) (fxD K f) (fxK K f) doc pm an (fxC K f) ct), osl⟩ := by
  unfold fx at e
  unfold fxD fxK fxC
  cases q : K.lookup f with
  | none => rw [q] at e; cases e
  | some o =>
    obtain ⟨oc, od, dt, osl⟩ := o
    rw [q] at e
    cases dt with
    | func fd =>
      obtain ⟨n1, n2, n3, n4, n5, n6, n7, n8, n9, n10, n11, n12, n13, n14, n15⟩ := fd
      have e2 : (some (n1, n2, n3, n4, n5, n6, n7.map (·.1), n15) : FxV) = some (name, qual, defArgs st, FuncBody.stmts (defBody st), defScope st, mainGlobals, [], builtinsNs) := e
      simp only [Option.some.injEq, Prod.mk.injEq, List.map_eq_nil_iff] at e2
      obtain ⟨h1, h2, h3, h4, h5, h6, h7, h8⟩ := e2
      subst h1 h2 h3 h4 h5 h6 h7 h8
      exact ⟨oc, od, osl, n10, n11, n12, n14, rfl⟩
    | _ => cases e
def recB (K : Frag) (p : Addr) (T : String) (f : Addr) : Bool := match recIn K p T with
  | some (.ref g :: _) => decide (g = f)
  | _ => false
theorem recB_ok {K : Frag} {p f : Addr} {T : String} (h : recB K p T f = true) : ∃ rs, recIn K p T = some (.ref f :: rs) := by
  unfold recB at h
  split at h
  · rename_i g rs e
    rw [of_decide_eq_true h] at e
    exact ⟨rs, e⟩
  · cases h
def rf (K : Frag) (p : Addr) (T : String) : Addr := match recIn K p T with
  | some (.ref g :: _) => g
  | _ => 0
def cpA (K : Frag) (C : Addr) (m : Str) : Addr := match findCls K (.ref C) (.type "type") m with
  | some (.get _ (.ref p) _ _) => p
  | _ => 0
def cgB (K : Frag) (C : Addr) (gid : String) (m : Str) : Bool := match findCls K (.ref C) (.type "type") m with
  | some (.get (.builtin g) (.ref _) .none (.ref D)) => decide (g = gid) && decide (D = C)
  | _ => false
theorem cgB_ok {K : Frag} {C : Addr} {gid : String} {m : Str} (h : cgB K C gid m = true) : findCls K (.ref C) (.type "type") m = some (.get (.builtin gid) (.ref (cpA K C m)) .none (.ref C)) := by
  unfold cgB at h
  unfold cpA
  split at h
  · rename_i g p D e
    obtain ⟨h1, h2⟩ := Bool.and_eq_true_iff.mp h
    rw [e, of_decide_eq_true h1, of_decide_eq_true h2]
  · cases h
def cvB (K : Frag) (C : Addr) (m : Str) (f : Addr) : Bool := match findCls K (.ref C) (.type "type") m with
  | some (.val (.ref g)) => decide (g = f)
  | _ => false
theorem cvB_ok {K : Frag} {C f : Addr} {m : Str} (h : cvB K C m f = true) : findCls K (.ref C) (.type "type") m = some (.val (.ref f)) := by
  unfold cvB at h
  split at h
  · rename_i g e
    rw [e, of_decide_eq_true h]
  · cases h
def ciB (K : Frag) (C : Addr) (m : Str) (i : Int) : Bool := match findCls K (.ref C) (.type "type") m with
  | some (.val (.int j _)) => decide (j = i)
  | _ => false
theorem ciB_ok {K : Frag} {C : Addr} {m : Str} {i : Int} (h : ciB K C m i = true) : ∃ t, findCls K (.ref C) (.type "type") m = some (.val (.int i t)) := by
  unfold ciB at h
  split at h
  · rename_i j t e
    rw [of_decide_eq_true h] at e
    exact ⟨t, e⟩
  · cases h
def cbB (K : Frag) (C : Addr) (m : Str) (id : String) : Bool := match findCls K (.ref C) (.type "type") m with
  | some (.val (.builtin g)) => decide (g = id)
  | _ => false
theorem cbB_ok {K : Frag} {C : Addr} {m : Str} {id : String} (h : cbB K C m id = true) : findCls K (.ref C) (.type "type") m = some (.val (.builtin id)) := by
  unfold cbB at h
  split at h
  · rename_i g e
    rw [e, of_decide_eq_true h]
  · cases h
def gsB (K : Frag) (x v : Str) : Bool := match nsIn K mainGlobals x with
  | some (some (.str y _)) => decide (y = v)
  | _ => false
theorem gsB_ok {K : Frag} {x v : Str} (h : gsB K x v = true) : ∃ t, nsIn K mainGlobals x = some (some (.str v t)) := by
  unfold gsB at h
  split at h
  · rename_i y t e
    rw [of_decide_eq_true h] at e
    exact ⟨t, e⟩
  · cases h
/-- a tuple of texts -/
def txB : List Value → List Str → Bool
  | [], [] => true
  | .str x _ :: r, y :: s => decide (x = y) && txB r s
  | _, _ => false
def tsB (K : Frag) (c : Addr) (ws : List Str) : Bool := match K.lookup c with
  | some ⟨.type n, _, .seq its _, _⟩ => n == "tuple" && txB its.toList ws
  | _ => false
theorem txB_ok : ∀ {its : List Value} {ws : List Str}, txB its ws = true → ∃ ts : List Tok, ts.length = ws.length ∧ its = (ws.zip ts).map fun p => Value.str p.1 p.2
  | [], [], _ => ⟨[], rfl, rfl⟩
  | .str x t :: r, y :: s, h => by
    obtain ⟨h1, h2⟩ := Bool.and_eq_true_iff.mp (show (decide (x = y) && txB r s) = true from h)
    obtain ⟨ts, e1, e2⟩ := txB_ok h2
    exact ⟨t :: ts, congrArg (· + 1) e1, by rw [of_decide_eq_true h1, e2]; rfl⟩
theorem tsB_ok {K : Frag} {c : Addr} {ws : List Str} (h : tsB K c ws = true) : ∃ (od : Option Addr) (n : Nat) (sl : Array (Option Value)) (ts : List Tok), ts.length = ws.length ∧ K.lookup c = some ⟨.type "tuple", od, .seq ((ws.zip ts).map fun p => Value.str p.1 p.2).toArray n, sl⟩ := by
  unfold tsB at h
  split at h
  · rename_i n od its m sl e
    obtain ⟨h1, h2⟩ := Bool.and_eq_true_iff.mp h
    obtain ⟨ts, e1, e2⟩ := txB_ok h2
    refine ⟨od, m, sl, ts, e1, ?_⟩
    rw [e, eq_of_beq h1, ← e2]
  · cases h
/-- a tuple of one object, an empty one -/
def t1B (K : Frag) (c x : Addr) : Bool := match K.lookup c with
  | some ⟨.type n, _, .seq its _, _⟩ => n == "tuple" && (match its.toList with | [.ref y] => decide (y = x) | _ => false)
  | _ => false
theorem t1B_ok {K : Frag} {c x : Addr} (h : t1B K c x = true) : ∃ (od : Option Addr) (n : Nat) (sl : Array (Option Value)), K.lookup c = some ⟨.type "tuple", od, .seq #[.ref x] n, sl⟩ := by
  unfold t1B at h
  split at h
  · rename_i n od its m sl e
    obtain ⟨h1, h2⟩ := Bool.and_eq_true_iff.mp h
    split at h2
    · rename_i y e2
      refine ⟨od, m, sl, ?_⟩
      have e3 : its = #[Value.ref y] := by
        obtain ⟨l⟩ := its
        simp only at e2
        rw [e2]
      rw [e, eq_of_beq h1, e3, of_decide_eq_true h2]
    · cases h2
  · cases h
def t1A (K : Frag) (c : Addr) : Addr := match K.lookup c with
  | some ⟨_, _, .seq its _, _⟩ => (match its.toList with | [.ref y] => y | _ => 0)
  | _ => 0
def nsA (K : Frag) (d : Addr) (x : Str) : Addr := match nsIn K d x with
  | some (some (.ref a)) => a
  | _ => 0
def t0B (K : Frag) (c : Addr) : Bool := match K.lookup c with
  | some ⟨.type n, _, .seq its _, _⟩ => n == "tuple" && its.toList.isEmpty
  | _ => false
theorem t0B_ok {K : Frag} {c : Addr} (h : t0B K c = true) : ∃ (od : Option Addr) (n : Nat) (sl : Array (Option Value)), K.lookup c = some ⟨.type "tuple", od, .seq #[] n, sl⟩ := by
  unfold t0B at h
  split at h
  · rename_i n od its m sl e
    obtain ⟨h1, h2⟩ := Bool.and_eq_true_iff.mp h
    refine ⟨od, m, sl, ?_⟩
    have e3 : its = #[] := by
      obtain ⟨l⟩ := its
      rw [List.isEmpty_iff] at h2
      simp only at h2
      rw [h2]
    rw [e, eq_of_beq h1, e3]
  · cases h
/-- an error class -/
def exB (K : Frag) (C : Addr) (bm : List Value) : Bool := match K.lookup C with
  | some ⟨.type n, _, .cls cd, sl⟩ => n == "type" && (match cd.mro, sl.toList with
    | .ref C' :: m, [_, _, _, _, some (.builtin n), _] => C' == C && n == "ValueError.__new__" && !cd.hasDel && decide (m = bm) && cd.hasDict
    | _, _ => false)
  | _ => false
theorem exB_ok {K : Frag} {C : Addr} {bm : List Value} (h : exB K C bm = true) : ∃ nm N qn bs sn sub ab col dd k0 k1 k2 k3 k5, K.lookup C = some (excClassObj nm qn C N bs bm true sn sub ab col dd k0 k1 k2 k3 k5 "ValueError.__new__") := by
  unfold exB at h
  split at h
  · rename_i n dd cd sl ho
    obtain ⟨h1, h⟩ := Bool.and_eq_true_iff.mp h
    split at h
    · rename_i C' m k0 k1 k2 k3 n2 k5 hm hs
      simp only [Bool.and_eq_true, beq_iff_eq, Bool.not_eq_true', decide_eq_true_iff] at h h1
      obtain ⟨⟨⟨⟨rfl, rfl⟩, hdel⟩, rfl⟩, hdct⟩ := h
      obtain ⟨nm, bs, mro, ns, qn, hd, sn, sub, ab, col, del⟩ := cd
      dsimp only at hm hdel hdct
      subst hm hdel hdct h1
      have hsl : sl = #[k0, k1, k2, k3, some (.builtin "ValueError.__new__"), k5] := by
        obtain ⟨l⟩ := sl
        simp only at hs
        rw [hs]
      subst hsl
      exact ⟨nm, ns, qn, bs, sn, sub, ab, col, dd, k0, k1, k2, k3, k5, ho⟩
    · cases h
  · cases h
def obsB (ex : List (Frag → Bool)) (fn : List FxS) (K : Frag) : Bool × List FxV := (ex.all fun b => b K, fn.map fun d => fx K (d.at_ K))
def valB (fn : List FxS) : Bool × List FxV := (true, fn.map FxS.val)
def SaysB (ex : List (Frag → Bool)) (fn : List FxS) (K : Frag) : Prop := obsB ex fn K = valB fn
def obsBG (n : Nat) (ex : List (Frag → Bool)) (fn : List FxS) (g : Addr → Option Obj) : Bool × List FxV := obsB ex fn (He.frG g (asB g n))
def hookB (n : Nat) (ex : List (Frag → Bool)) (fn : List FxS) : Hook where
  α := Bool × List FxV
  obs := fun s => obsBG n ex fn s.heap.get?
  val := fun _ => valB fn
  says := fun _ h => ∃ K : Frag, K.In h ∧ SaysB ex fn K
  of := fun _ _ e => ⟨_, He.frG_in, e⟩
  keeps := fun _ _ _ ⟨K, hK, c⟩ k => ⟨K, Frag.In.keeps hK k, c⟩
theorem obsBG_eq {n : Nat} {ex : List (Frag → Bool)} {fn : List FxS} {g : Addr → Option Obj} {s : Shared} (h : ∀ a, g a = s.heap.get? a) : obsBG n ex fn g = (hookB n ex fn).obs s := by
  have e : g = s.heap.get? := funext h
  rw [e] <;> rfl
section
variable {ex : List (Frag → Bool)} {fn : List FxS} {K : Frag}
theorem SaysB.fact (c : SaysB ex fn K) (i : Nat) {b : Frag → Bool} (h : ex[i]? = some b := by rfl) : b K = true :=
  List.all_eq_true.mp (show (ex.all fun b => b K) = true from congrArg (fun z : Bool × List FxV => z.1) c) b (List.mem_of_getElem? h)
theorem SaysB.fnc (c : SaysB ex fn K) (i : Nat) {d : FxS} (h : fn[i]? = some d := by rfl) : fx K (d.at_ K) = d.val := by
  have e : fn.map (fun d => fx K (d.at_ K)) = fn.map FxS.val := congrArg (fun z : Bool × List FxV => z.2) c
  have e2 : (fn.map fun d => fx K (d.at_ K))[i]? = (fn.map FxS.val)[i]? := by rw [e]
  rw [List.getElem?_map, List.getElem?_map, h] at e2
  exact Option.some.inj e2
end
theorem some3 {α β γ : Type} {a a' : α} {b b' : β} {c c' : γ} (h1 : a = a') (h2 : b = b') (h3 : c = c') : some (a, b, c) = some (a', b', c') := by
  subst h1 h2 h3
  rfl
end G
set_option Elab.async false
set_option linter.all false
set_option maxRecDepth 100000
set_option maxHeartbeats 2000000
namespace G
open PySem PySem.Spec PyProof.Rows L2 StX
instance {α : Type} [Rep α] [NoDc α] : NoDc (Ol α) := ⟨fun h d => ⟨d.1, d.2.imp fun _ _ x => NoDc.at_ h x⟩⟩
instance {α : Type} [Rep α] [NoDc α] : NoDc (Od α) := ⟨fun h d => ⟨d.1, d.2.imp fun _ _ x => NoDc.at_ h x⟩⟩
section
variable {W : Wd} {F : Hp} {L : OwnH} {Γ : Gam} {ta tb te : TE} {tt : TT} {t u : TS} {R : PoH} {g : TG}
/-- d.pop(k), d an own dict -/
def dropDc {β : Type} (l : List (Str × β)) (k : Str) : List (Str × β) := l.filter fun e => decide (e.1 ≠ k)
end
end G
set_option Elab.async false
set_option linter.all false
set_option maxRecDepth 100000
set_option maxHeartbeats 2000000
namespace G
open PySem PySem.Spec PyProof.Rows L2 StX
end G
namespace G
open PySem PySem.Spec PyProof.Rows L2 StX
end G
namespace G
open PySem PySem.Spec PyProof.Rows L2 StX
end G
set_option Elab.async false
set_option linter.all false
set_option maxRecDepth 100000
set_option maxHeartbeats 2000000
namespace G
open PySem PySem.Spec PyProof.Rows L2 StX
structure CsT (B : Bs) : Prop where
  cl : L2.Cls B.K (B.cl .Case)
  n1 : NoAttr B.K (B.cl .Case) "level"
  n2 : NoAttr B.K (B.cl .Case) "readings"
  n3 : NoAttr B.K (B.cl .Case) "lot"
  n4 : NoAttr B.K (B.cl .Case) "reply"
structure Cs where
  lv : Int
  ds : List (Str × Int)
  lot : List Str
  rp : Int
def csF (lv : Int) (y z : V) (rp : Int) : List (Str × V) := [("level", .int lv), ("readings", y), ("lot", z), ("reply", .int rp)]
instance : Rep Cs :=
  ⟨fun W H v c => ∃ a dx y z, v = .ref a ∧ ¬ W.mu a ∧ H a = some (.ins (W.B.cl .Case) dx (csF c.lv y z c.rp)) ∧ den W H y (Dc.mk c.ds) ∧ den W H z c.lot ∧ CsT W.B,
   fun e ⟨a, dx, y, z, hv, m, h, h1, h3, h2⟩ => ⟨a, dx, y, z, hv, m, e _ _ m h, Rep.mono e h1, Rep.mono e h3, h2⟩,
   fun D n ⟨a, dx, y, z, hv, m, h, h1, h3, h2⟩ => ⟨a, dx, y, z, hv, mu_grow n m h, h, Rep.grow D n h1, Rep.grow D n h3, h2⟩,
   fun D ⟨a, dx, y, z, hv, m, h, h1, h3, h2⟩ => ⟨a, dx, y, z, hv, fun z => m (.inl z), h, Rep.shrink D h1, Rep.shrink D h3, h2⟩⟩
instance : Ins Cs .Case ["level", "readings", "lot", "reply"] := ⟨fun ⟨a, dx, y, z, hv, m, h, _⟩ => ⟨a, dx, _, hv, m, h, rfl⟩⟩
theorem Dk.drop {β : Type} {f : V → β → Prop} (k : Str) : ∀ {kvs : List (Key × V)} {l : List (Str × β)}, Dk f kvs l → Dk f (dropK kvs (.inr k)) (dropDc l k)
  | _, _, .nil => .nil
  | _, _, .cons (k := a) h t => by
    unfold dropK dropDc
    by_cases e : a = k
    · rw [List.filter_cons_of_neg (by simpa using inr_iff.mpr e), List.filter_cons_of_neg (by simpa using e)]
      exact t.drop k
    · rw [List.filter_cons_of_pos (by simpa using fun q => e (inr_iff.mp q)), List.filter_cons_of_pos (by simpa using e)]
      exact .cons h (t.drop k)
end G
namespace G
open PySem PySem.Spec PyProof.Rows L2 StX
end G
namespace G
open PySem PySem.Spec PyProof.Rows L2 StX
end G
set_option Elab.async false
set_option linter.all false
set_option maxRecDepth 100000
set_option maxHeartbeats 2000000
namespace G
open PySem PySem.Spec PyProof.Rows L2 StX
end G
set_option Elab.async false
set_option linter.all false
set_option maxRecDepth 100000
set_option maxHeartbeats 2000000
namespace G
open PySem PySem.Spec PyProof.Rows L2 StX
section
variable {Y : Cx} {xe : Value → Shared → Prop} {pins : List (Addr × Obj)} {σ : L2.St} {H : Hp} {s : Shared}
theorem okx (ok : Y.Ok) : ({ Y with xe := xe } : Cx).Ok :=
  ⟨ok.mod, ok.kind, ok.glob, ok.blt, ok.above, ok.inj, ok.has, ok.cab, ok.hd, ok.frames, ok.stk, ok.exf, ok.bs, ok.bsz, ok.noex, ok.exfs, ok.funs, ok.frf⟩
end
/-- what is wished of errors in W holds in W' -/
def XIn (W W' : Wd) : Prop := ∀ (E : XK) (x : Xn → Prop), (∀ H', W.ok H' → W.wish H' → XOk W H' E x) → ∀ H', W'.ok H' → W'.wish H' → XOk W' H' E x
theorem XIn.plus {W : Wd} {D : Addr} {xs : List V} {H1 : Hp} {n : H1 D = none} {o1 : W.ok H1} {w1 : W.wish H1} : XIn W (W.plus D xs H1 n o1 w1) := fun E x h H' o w nn d H2 e z q => by
  have s : Sub W (W.plus D xs H1 n o1 w1) := Sub.plus
  refine h H2 (s.ok H2 e.ok) (s.wish H2 e.ok ((W.plus D xs H1 n o1 w1).wst H' H2 e.keep e.ok w)) nn d H2 (Ext.refl (s.ok H2 e.ok)) ?_ q
  rcases z with z | ⟨dd, vs, a1, a2, a3, a4⟩
  · exact .inl z
  · exact .inr ⟨dd, vs, a1, fun m => a2 (.inl m), a3, a4.imp fun _ _ y => Fv.shrink D y⟩
def misF {β : Type} (ds : List (Str × β)) (ns : List Str) : Option Str := ns.find? fun n => (getDc ds n).isNone
def MisR (ds : List (Str × Int)) (r : Ru) (ok : Int → Prop) (xx : Xn → Prop) : Prop := match misF ds (namesF r) with
  | none => ok (ansF (rdF ds) r)
  | some n => (reprText n).length ≤ 3000 ∧ n.length ≤ 3000 ∧ xx ⟨.MissingReading, [("name", .s n)]⟩
theorem MisR.imp {ds : List (Str × Int)} {r : Ru} {ok ok' : Int → Prop} {xx : Xn → Prop} (h : MisR ds r ok xx) (i : ∀ a, ok a → ok' a) : MisR ds r ok' xx := by
  unfold MisR at h ⊢
  split at h
  · exact i _ h
  · exact h
end G
set_option Elab.async false
set_option linter.all false
set_option maxRecDepth 100000
set_option maxHeartbeats 2000000
namespace G
open PySem PySem.Spec PyProof.Rows L2 StX
structure FF (H H' : Hp) (p : Addr) (qs : List Addr) (fl : List (List Str)) : Prop where
  new : ∀ a ∈ p :: qs, H a = none
  nd : (p :: qs).Nodup
  len : qs.length = fl.length
  atp : H' p = some (.lst (qs.map V.ref))
  atq : ∀ (i : Nat) (q : Addr) (f : List Str), qs[i]? = some q → fl[i]? = some f → H' q = some (.lst (f.map V.str))
def EvFF (W : Wd) (te : TE) (Γ : Gam) (k : List (List Str) → Prop) : Prop :=
  ∀ σ H (Q : VK), GOk W H σ Γ → (∀ p qs H' fl, Ext W H H' → FF H H' p qs fl → k fl → Q (.ref p) H') → te σ H Q
theorem dl_of_strs {W : Wc} {H : Hp} : ∀ l : List Str, Dl (den W H) (l.map V.str) l
  | [] => .nil
  | a :: r => .cons rfl (dl_of_strs r)
theorem EvFF.imp {W : Wd} {te : TE} {Γ : Gam} {k k' : List (List Str) → Prop} (h : EvFF W te Γ k) (i : ∀ fl, k fl → k' fl) : EvFF W te Γ k' := fun σ H Q G c => h σ H Q G fun p qs H' fl e f q => c p qs H' fl e f (i fl q)
theorem EvFF.k {W : Wd} {te : TE} {Γ : Gam} {k : List (List Str) → Prop} (h : EvFF W te Γ k) : EvK W te Γ k := fun σ H Q G c => h σ H Q G fun p qs H' fl e f q => by
  have nm : ∀ a ∈ p :: qs, ¬ W.mu a := fun a ha => fresh_mu G.ok (f.new a ha)
  refine c (.ref p) H' fl e ⟨p, qs.map V.ref, rfl, ⟨nm p List.mem_cons_self, f.atp⟩, ?_⟩ q
  refine dl_of_at (by rw [List.length_map]; exact f.len) fun i v a hv ha => ?_
  rw [List.getElem?_map] at hv
  cases hq : qs[i]? with
  | none => rw [hq] at hv; cases hv
  | some q =>
    rw [hq] at hv
    cases hv
    exact ⟨q, a.map V.str, rfl, ⟨nm q (List.mem_cons_of_mem _ (List.mem_of_getElem? hq)), f.atq i q a hq ha⟩, dl_of_strs a⟩
theorem growLs {W : Wc} {H : Hp} {v : V} (t : Ty) {r : List Addr} : ∀ ks : List Addr, (∀ k ∈ ks, H k = none) → t.den (W.plusL r) H v → t.den (W.plusL (ks ++ r)) H v
  | [], _, d => d
  | k :: ks, h, d => t.r.grow k (h k List.mem_cons_self) (growLs t ks (fun j hj => h j (List.mem_cons_of_mem _ hj)) d)
section
variable {W : Wd} {F : Hp} {L : OwnH} {Γ : Gam} {R : PoH} {te to : TE}
theorem newHs {H H1 : Hp} {σ : L2.St} {D : Ends} {oF : W.ok F} {nF : ∀ k ∈ keysH L, F k = none} {i : Nat} (N : OwnH) (v : V) (t : Ty) (nd : (keysH L).Nodup) (G : GOk (W.ownH F L oF nF) H σ Γ) (O : EOkH W F L H D R)
    (n : ∀ k ∈ keysH N, H k = none) (ndN : (keysH N).Nodup) (e : Ext (W.ownH F L oF nF) H H1) (hp : ∀ x ∈ N, H1 x.1 = some x.2) (ht : t.den (W.toWc.plusL (keysH (N ++ L))) H1 v) (q : R.nx (N ++ L) (Γ.set i (some t))) : D.nx (σ.set i (some v)) H1 := by
  have hks : keysH (N ++ L) = keysH N ++ keysH L := List.map_append
  have nF' : ∀ k ∈ keysH (N ++ L), F k = none := fun k hk => by
    rw [hks] at hk
    rcases List.mem_append.mp hk with hk | hk
    · exact fresh_FH G.ok.1 G.wish (n k hk)
    · exact nF k hk
  have nd' : (keysH (N ++ L)).Nodup := by
    rw [hks]
    refine List.nodup_append.mpr ⟨ndN, nd, fun a ha b hb z => ?_⟩
    subst z
    obtain ⟨x, hx, e1⟩ := List.mem_map.mp hb
    have h1 := G.ok.2 x hx
    have h2 := n a ha
    rw [e1, h2] at h1
    cases h1
  have s : StpH W L H (N ++ L) H1 := ⟨e.keep, fun k hk => by
    rw [hks] at hk
    rcases List.mem_append.mp hk with hk | hk
    · exact .inr (n k hk)
    · exact .inl hk⟩
  have G1 := G.ext e
  have kp : Kp (W.toWc.plusL (keysH (N ++ L))) H H1 := fun b u m z => e.keep b u (fun z => m (by
    rw [hks]
    rcases plusL_mu.mp z with z | z
    · exact plusL_mu.mpr (.inl z)
    · exact plusL_mu.mpr (.inr (List.mem_append_right _ z)))) z
  have G2 : GOk (W.ownH F (N ++ L) oF nF') H1 σ Γ := ⟨⟨G1.ok.1, fun x hx => by
    rcases List.mem_append.mp hx with hx | hx
    · exact hp x hx
    · exact G1.ok.2 x hx⟩, G1.wish, fun j t ht => by
      obtain ⟨v, h1, h2⟩ := G.at_ j t ht
      have h3 : t.den (W.toWc.plusL (keysH (N ++ L))) H v := by
        rw [hks]
        exact growLs t (keysH N) n h2
      exact ⟨v, h1, Ty.mono kp h3⟩, G.len⟩
  exact O.nx _ oF nF' _ H1 _ s nd' (G2.set i (t := t) ht) q
/-- the own things of such a list -/
def ffL (p : Addr) (qs : List Addr) (fl : List (List Str)) : OwnH := (p, .lst (qs.map V.ref)) :: (qs.zip fl).map fun e => (e.1, .lst (e.2.map V.str))
abbrev FfT (p : Addr) : Ty := T (Oi.mk p .Rack p [] ())
theorem ff_keys {p : Addr} {qs : List Addr} {fl : List (List Str)} (h : qs.length = fl.length) : keysH (ffL p qs fl) = p :: qs := by
  show p :: (((qs.zip fl).map fun e => ((e.1, HO.lst (e.2.map V.str)) : Addr × HO)).map (·.1)) = _
  rw [List.map_map]
  congr 1
  induction qs generalizing fl with
  | nil => rfl
  | cons a r ih =>
    cases fl with
    | nil => cases h
    | cons b s => exact congrArg (a :: ·) (ih (by simpa using h))
/-- x = .., a new list of new lists: from now on all of them are own -/
theorem sxh_newFF {i : Nat} (h : ∀ Wo, OwnHW W L Wo → EvFF Wo te Γ fun fl => ∀ p qs, (p :: qs).Nodup → qs.length = fl.length → R.nx (ffL p qs fl ++ L) (Γ.set i (some (FfT p)))) : SxH W F (tAsg te (gName i)) L Γ R := fun D σ H oF nF wF nd G O =>
  h _ (ownH_w wF) σ H _ G fun p qs H1 fl e f q => newHs (ffL p qs fl) (.ref p) (FfT p) nd G O (by rw [ff_keys f.len]; exact f.new) (by rw [ff_keys f.len]; exact f.nd) e (fun x hx => by
    rcases List.mem_cons.mp hx with rfl | hx
    · exact f.atp
    · obtain ⟨⟨a, b⟩, hm, rfl⟩ := List.mem_map.mp hx
      obtain ⟨m, hm⟩ := List.getElem?_of_mem hm
      obtain ⟨h1, h2⟩ := List.getElem?_zip_eq_some.mp hm
      exact f.atq m a b h1 h2) ⟨rfl, rfl⟩ (q p qs f.nd f.len)
/-- at rest it is the list -/
theorem ff_frz {p : Addr} {qs : List Addr} {fl : List (List Str)} {L' : OwnH} {Γ Γ' : Gam} {B : Bs} (hl : qs.length = fl.length) (hL : ∀ x ∈ ffL p qs fl, x ∈ L') (h : FrzH B L' Γ Γ') : FrzH B L' (some (FfT p) :: Γ) (some (T fl) :: Γ') :=
  FrzH.ownJ (o := Oi.mk p .Rack p [] ()) (a := fl) (fun W H _ hx _ => by
    have h1 := hx _ (hL _ List.mem_cons_self)
    refine ⟨p, qs.map V.ref, rfl, ⟨h1.1, h1.2⟩, ?_⟩
    refine dl_of_at (by rw [List.length_map]; exact hl) fun i v a hv ha => ?_
    rw [List.getElem?_map] at hv
    cases hq : qs[i]? with
    | none => rw [hq] at hv; cases hv
    | some q =>
      rw [hq] at hv
      cases hv
      have h2 := hx (q, .lst (a.map V.str)) (hL _ (List.mem_cons_of_mem _ (List.mem_map.mpr ⟨(q, a), List.mem_of_getElem? (List.getElem?_zip_eq_some.mpr ⟨hq, ha⟩), rfl⟩)))
      exact ⟨q, a.map V.str, rfl, ⟨h2.1, h2.2⟩, dl_of_strs a⟩) h
/-- o.append(e), o an own list by its address; i: any slot that is known -/
theorem sxh_appAt {α : Type} {rα : Rep α} {K : PySem.W.Frag} {i : Nat} {t : Ty} (n : Nat) {p : Addr} {vs : List V} (hk : L[n]? = some (p, .lst vs)) (hi : Γ[i]? = some (some t)) (hl : vs.length < 100000)
    (h : ∀ Wo, OwnHW W L Wo → EvK Wo to Γ fun r : Rf => r.a = p ∧ EvK Wo te Γ fun a : α => ∀ v, R.nx (L.set n (p, .lst (vs ++ [v]))) (Γ.set i (some t))) : SxH W F (tDrop (tBM K "list" rAppend to (tCons te tNil))) L Γ R := fun D σ H oF nF wF nd G O => by
  refine h _ (ownH_w wF) σ H _ G fun v H1 r e1 d ⟨hr, h2⟩ => ?_
  obtain rfl : v = V.ref r.a := d
  subst hr
  have G1 := G.ext e1
  refine ⟨.inl ⟨rfl, _, .inl (.inl (G1.ok.2 _ (List.mem_of_getElem? hk)))⟩, ?_⟩
  refine h2 σ H1 _ G1 fun w H2 a e2 da q => ?_
  have G2 := G1.ext e2
  refine ⟨r.a, vs, w, rfl, rfl, G2.ok.2 _ (List.mem_of_getElem? hk), Nat.lt_of_lt_of_le hl (by decide : 100000 ≤ sizeLine), ?_⟩
  obtain ⟨u, h3, h4⟩ := G2.at_ i t hi
  exact ownH_put t nd G2 (O.step G2.ok.1 (ownH_stp (e1.trans e2))) hk h3 (fun kp => Ty.mono kp h4) (q w)
end
end G
set_option Elab.async false
set_option linter.all false
set_option maxRecDepth 100000
set_option maxHeartbeats 2000000
namespace G
open PySem PySem.Spec PyProof.Rows L2 StX
end G
set_option Elab.async false
set_option linter.all false
set_option maxRecDepth 100000
set_option maxHeartbeats 2000000
namespace G
open PySem PySem.Spec PyProof.Rows L2 StX
structure TwT (B : Bs) : Prop where
  cl : L2.Cls B.K (B.cl .Twins)
  n1 : NoAttr B.K (B.cl .Twins) "readings"
  n2 : NoAttr B.K (B.cl .Twins) "low_level"
  n3 : NoAttr B.K (B.cl .Twins) "low_lot"
  n4 : NoAttr B.K (B.cl .Twins) "high_level"
  n5 : NoAttr B.K (B.cl .Twins) "high_lot"
structure Twn where
  ds : List (Str × Int)
  lo : Int
  ll : List Str
  hi : Int
  hl : List Str
def twF (x : V) (lo : Int) (y : V) (hi : Int) (z : V) : List (Str × V) := [("readings", x), ("low_level", .int lo), ("low_lot", y), ("high_level", .int hi), ("high_lot", z)]
instance : Rep Twn :=
  ⟨fun W H v c => ∃ a dx x y z, v = .ref a ∧ ¬ W.mu a ∧ H a = some (.ins (W.B.cl .Twins) dx (twF x c.lo y c.hi z)) ∧ den W H x (Dc.mk c.ds) ∧ den W H y c.ll ∧ den W H z c.hl ∧ TwT W.B,
   fun e ⟨a, dx, x, y, z, hv, m, h, h1, h2, h3, hT⟩ => ⟨a, dx, x, y, z, hv, m, e _ _ m h, Rep.mono e h1, Rep.mono e h2, Rep.mono e h3, hT⟩,
   fun D n ⟨a, dx, x, y, z, hv, m, h, h1, h2, h3, hT⟩ => ⟨a, dx, x, y, z, hv, mu_grow n m h, h, Rep.grow D n h1, Rep.grow D n h2, Rep.grow D n h3, hT⟩,
   fun D ⟨a, dx, x, y, z, hv, m, h, h1, h2, h3, hT⟩ => ⟨a, dx, x, y, z, hv, fun z => m (.inl z), h, Rep.shrink D h1, Rep.shrink D h2, Rep.shrink D h3, hT⟩⟩
instance : Ins Twn .Twins ["readings", "low_level", "low_lot", "high_level", "high_lot"] := ⟨fun ⟨a, dx, x, y, z, hv, m, h, _⟩ => ⟨a, dx, _, hv, m, h, rfl⟩⟩
end G
set_option Elab.async false
set_option linter.all false
set_option maxRecDepth 100000
set_option maxHeartbeats 2000000
namespace G
open PySem PySem.Spec PyProof.Rows L2 StX
/-- as, cut at t, looks as bs does, cut at u -/
def CutL (t u : Int) : List Int → List Int → Prop
  | [], [] => True
  | a :: as, b :: bs => (a ≤ t ↔ b ≤ u) ∧ CutL t u as bs
  | _, _ => False
theorem CutL.length {t u : Int} : ∀ {as bs : List Int}, CutL t u as bs → as.length = bs.length
  | [], [], _ => rfl
  | _ :: _, _ :: _, h => congrArg (· + 1) (CutL.length h.2)
theorem CutL.up {t u : Int} : ∀ {ns as bs : List Int}, CutL t u as bs → wUp ns as t = wUp ns bs u
  | _, [], [], _ => rfl
  | [], _ :: _, _ :: _, _ => rfl
  | n :: ns, a :: as, b :: bs, h => by
    have ih := CutL.up (ns := ns) h.2
    unfold wUp at ih ⊢
    rw [List.zip_cons_cons, List.zip_cons_cons, List.filter_cons, List.filter_cons]
    show (List.map _ (if decide (a ≤ t) = true then _ else _)).sum = (List.map _ (if decide (b ≤ u) = true then _ else _)).sum
    rw [show decide (a ≤ t) = decide (b ≤ u) from decide_eq_decide.mpr h.1]
    split
    · rw [List.map_cons, List.map_cons, List.sum_cons, List.sum_cons, ih]
    · exact ih
end G
set_option Elab.async false
set_option linter.all false
set_option maxRecDepth 100000
set_option maxHeartbeats 2000000
namespace G
open PySem PySem.Spec PyProof.Rows L2 StX
inductive Nm where
  | s (x : Str) | n | i (j : Int) | t (x : Str)
deriving DecidableEq
def nmD (W : Wc) (H : Hp) (v : V) : Nm → Prop
  | .s x => v = .str x
  | .n => v = .non
  | .i j => v = .int j
  | .t x => ∃ q, v = .ref q ∧ Tq W H q [.str x]
instance : Rep Nm where
  dn := nmD
  mono := fun {W H H' v a} e h => by
    cases a with
    | s x => exact h
    | n => exact h
    | i j => exact h
    | t x => exact h.imp fun q z => ⟨z.1, z.2.mono e⟩
  grow := fun {W H v a} D n h => by
    cases a with
    | s x => exact h
    | n => exact h
    | i j => exact h
    | t x => exact h.imp fun q z => ⟨z.1, z.2.grow D n⟩
  shrink := fun {W H v a} D h => by
    cases a with
    | s x => exact h
    | n => exact h
    | i j => exact h
    | t x => exact h.imp fun q z => ⟨z.1, z.2.shrink D⟩
def nmP : Nm → PyData
  | .s x => .str x
  | .n => .none
  | .i j => .int j
  | .t x => .tuple [.str x]
theorem eqv_t1 (x y : Str) : PyData.eqv (.tuple [.str x]) (.tuple [.str y]) = (x == y) := by
  show ((x == y) && true) = _
  rw [Bool.and_true]
instance : Dat Nm where
  toD := nmP
  dp := fun {W H v a} h => by
    cases a with
    | s x => cases (show v = .str x from h); exact .str x
    | n => cases (show v = .non from h); exact .non
    | i j => cases (show v = .int j from h); exact .int j
    | t x =>
      obtain ⟨q, rfl, z⟩ := h
      exact .tup z.sq (.cons (.str x) .nil)
  dep := 1
  ddep := fun a => by
    cases a with
    | s x => exact Nat.zero_le 1
    | n => exact Nat.zero_le 1
    | i j => exact Nat.zero_le 1
    | t x => exact Nat.le_refl 1
  inj := fun a b => by
    cases a with
    | s x => cases b with
      | s y => exact (beq_iff_eq (a := x) (b := y)).trans ⟨fun h => by rw [h], fun h => by cases h; rfl⟩
      | n => exact ⟨fun h => Bool.noConfusion h, fun h => nomatch h⟩
      | i j => exact ⟨fun h => Bool.noConfusion h, fun h => nomatch h⟩
      | t y => exact ⟨fun h => Bool.noConfusion h, fun h => nomatch h⟩
    | n => cases b with
      | s y => exact ⟨fun h => Bool.noConfusion h, fun h => nomatch h⟩
      | n => exact ⟨fun _ => rfl, fun _ => rfl⟩
      | i j => exact ⟨fun h => Bool.noConfusion h, fun h => nomatch h⟩
      | t y => exact ⟨fun h => Bool.noConfusion h, fun h => nomatch h⟩
    | i j => cases b with
      | s y => exact ⟨fun h => Bool.noConfusion h, fun h => nomatch h⟩
      | n => exact ⟨fun h => Bool.noConfusion h, fun h => nomatch h⟩
      | i l => exact (beq_iff_eq (a := j) (b := l)).trans ⟨fun h => by rw [h], fun h => by cases h; rfl⟩
      | t y => exact ⟨fun h => Bool.noConfusion h, fun h => nomatch h⟩
    | t x => cases b with
      | s y => exact ⟨fun h => Bool.noConfusion h, fun h => nomatch h⟩
      | n => exact ⟨fun h => Bool.noConfusion h, fun h => nomatch h⟩
      | i j => exact ⟨fun h => Bool.noConfusion h, fun h => nomatch h⟩
      | t y =>
        show PyData.eqv (.tuple [.str x]) (.tuple [.str y]) = true ↔ _
        rw [eqv_t1]
        exact beq_iff_eq.trans ⟨fun h => by rw [h], fun h => by cases h; rfl⟩
  good := fun a => ∀ x, a = .s x ∨ a = .t x → (PyData.str x).canLay0 = true
  gshp := fun a h => by
    cases a with
    | s x => exact h x (.inl rfl)
    | n => rfl
    | i j => rfl
    | t x =>
      show ((PyData.str x).canLay0 && true) = true
      rw [h x (.inr rfl)]
      rfl
inductive Rs where
  | one (x : Nm) | lst (x : Nm)
deriving DecidableEq
def rsD (W : Wc) (H : Hp) (v : V) : Rs → Prop
  | .one x => den W H v x
  | .lst x => den W H v [x]
instance : Rep Rs where
  dn := rsD
  mono := fun {W H H' v a} e h => by
    cases a with
    | one x => exact Rep.mono (a := x) e h
    | lst x => exact Rep.mono (a := [x]) e h
  grow := fun {W H v a} D n h => by
    cases a with
    | one x => exact Rep.grow (a := x) D n h
    | lst x => exact Rep.grow (a := [x]) D n h
  shrink := fun {W H v a} D h => by
    cases a with
    | one x => exact Rep.shrink (a := x) D h
    | lst x => exact Rep.shrink (a := [x]) D h
def rsP : Rs → PyData
  | .one x => Dat.toD x
  | .lst x => Dat.toD [x]
instance : Dat Rs where
  toD := rsP
  dp := fun {W H v a} h => by
    cases a with
    | one x => exact Dat.dp (a := x) h
    | lst x => exact Dat.dp (a := [x]) h
  dep := 2
  ddep := fun a => by
    cases a with
    | one x => exact Nat.le_trans (Dat.ddep x) (by decide)
    | lst x => exact Dat.ddep [x]
  inj := fun a b => by
    cases a with
    | one x => cases b with
      | one y => exact (Dat.inj x y).trans ⟨fun h => by rw [h], fun h => by cases h; rfl⟩
      | lst y => cases x <;> exact ⟨fun h => Bool.noConfusion h, fun h => nomatch h⟩
    | lst x => cases b with
      | one y => cases y <;> exact ⟨fun h => Bool.noConfusion h, fun h => nomatch h⟩
      | lst y => exact (Dat.inj [x] [y]).trans ⟨fun h => by cases h; rfl, fun h => by cases h; rfl⟩
  good := fun a => match a with | .one x => Dat.good x | .lst x => Dat.good x
  gshp := fun a h => by
    cases a with
    | one x => exact Dat.gshp x h
    | lst x => exact Dat.gshp [x] fun y hy => by rw [List.mem_singleton.mp hy]; exact h
end G
set_option Elab.async false
set_option linter.all false
set_option maxRecDepth 100000
set_option maxHeartbeats 2000000
namespace G
open PySem PySem.Spec PyProof.Rows L2 StX
def Nm.isS : Nm → Bool
  | .s _ => true
  | _ => false
end G
set_option Elab.async false
set_option linter.all false
set_option maxRecDepth 100000
set_option maxHeartbeats 2000000
namespace G
open PySem PySem.Spec PyProof.Rows L2 StX
end G
set_option Elab.async false
set_option linter.all false
set_option maxRecDepth 100000
set_option maxHeartbeats 2000000
namespace G
open PySem PySem.Spec PyProof.Rows L2 StX
def txtE (e : Int × Value) : Str := match e.2 with | .str x _ => x | _ => Str.empty
def OkT (P : Program) (w : World) (e : Int × Value) : Prop := ∃ x tk, e.2 = Value.str x tk ∧ e.1 = (strKind P w).hash x
def SetT (P : Program) (w : World) (h : Heap) (a : Addr) (S : Str → Bool) (n : Nat) : Prop :=
  ∃ o es ep t, h.get? a = some o ∧ o.ExactSet ∧ o.data = .set es ep t ∧ (∀ e ∈ es.toList, OkT P w e) ∧ (es.toList.map txtE).Nodup ∧ (∀ k, S k = true ↔ k ∈ es.toList.map txtE) ∧
    es.size < scanBound ∧ t.fits es.size = true ∧ es.size = n ∧ Ris t.place.toList ∧ (w.params.followText "set-order" = true ∨ t.led = true)
section
variable {P : Program} {w : World}
theorem SetT.lt {h : Heap} {a : Addr} {S : Str → Bool} {n : Nat} (R : SetT P w h a S n) : a < h.objs.size := by
  obtain ⟨o, _, _, _, ho, _⟩ := R
  exact Heap.lt_size ho
variable {A : Around} {E : Value → Shared → Prop} {s : Shared} {a : Addr} {S : Str → Bool} {n : Nat}
end
end G
set_option Elab.async false
set_option linter.all false
set_option maxRecDepth 100000
set_option maxHeartbeats 2000000
namespace G
open PySem PySem.Spec PyProof.Rows L2 StX
end G
set_option Elab.async false
set_option linter.all false
set_option maxRecDepth 100000
set_option maxHeartbeats 2000000
namespace G
open PySem PySem.Spec PyProof.Rows L2 StX
structure SG (γ : Type) (SO : Addr → (γ → Bool) → Nat → HO) where
  S : γ → Bool
  n : Nat
instance {γ : Type} {SO : Addr → (γ → Bool) → Nat → HO} : Rep (SG γ SO) := ⟨fun W H v s => ∃ a, v = .ref a ∧ ¬ W.mu a ∧ H a = some (SO a s.S s.n), fun e ⟨a, hv, m, h⟩ => ⟨a, hv, m, e _ _ m h⟩, fun D n ⟨a, hv, m, h⟩ => ⟨a, hv, mu_grow n m h, h⟩, fun D ⟨a, hv, m, h⟩ => ⟨a, hv, fun z => m (.inl z), h⟩⟩
end G
set_option Elab.async false
set_option linter.all false
set_option maxRecDepth 100000
set_option maxHeartbeats 2000000
namespace G
open PySem PySem.Spec PyProof.Rows L2 StX
end G
set_option Elab.async false
set_option linter.all false
set_option maxRecDepth 100000
set_option maxHeartbeats 2000000
namespace G
open PySem PySem.Spec PyProof.Rows L2 StX
open Sem (wp)
end G
set_option Elab.async false
set_option linter.all false
set_option maxRecDepth 100000
set_option maxHeartbeats 2000000
namespace G
open PySem PySem.Spec PyProof.Rows L2 StX
def tStar (td ty tx : TE) : TE := fun σ H Q => ∀ p, H p = none → td σ (upd H p (.dK [])) fun v H1 => ∃ a kvs, v = .ref a ∧ a ≠ p ∧ H1 a = some (.dK kvs) ∧ H1 p = some (.dK []) ∧ kvs.length ≤ 1000 ∧
  ∀ q, q ≠ p → upd H1 p (.dK (mergeK [] kvs)) q = none → ty σ (upd (upd H1 p (.dK (mergeK [] kvs))) q (.dK [])) fun y H2 => tx σ H2 fun x H3 => ∃ k : Key, y = kV k ∧ H3 p = some (.dK (mergeK [] kvs)) ∧ H3 q = some (.dK []) ∧
    Q (.ref p) (upd (upd H3 q (.dK (putK [] k x))) p (.dK (putK (mergeK [] kvs) k x)))
end G
set_option Elab.async false
set_option linter.all false
set_option maxRecDepth 100000
set_option maxHeartbeats 2000000
namespace G
open PySem PySem.Spec PyProof.Rows L2 StX
structure FinT (B : Bs) : Prop where
  cl : L2.Cls B.K (B.cl .Finder)
  nr : NoAttr B.K (B.cl .Finder) "_rules"
  nl : NoAttr B.K (B.cl .Finder) "_left"
structure Fi where
  rs : List Ru
  lf : List Int
instance : Rep Fi :=
  ⟨fun W H v r => ∃ a dx w u, v = .ref a ∧ ¬ W.mu a ∧ H a = some (.ins (W.B.cl .Finder) dx [("_rules", w), ("_left", u)]) ∧ den W H w (Tl.mk r.rs) ∧ den W H u r.lf ∧ FinT W.B,
   fun {W H H' v r} e ⟨a, dx, w, u, hv, m, h, h1, h3, h2⟩ => ⟨a, dx, w, u, hv, m, e _ _ m h, Rep.mono (a := Tl.mk r.rs) e h1, Rep.mono (a := r.lf) e h3, h2⟩,
   fun {W H v r} D n ⟨a, dx, w, u, hv, m, h, h1, h3, h2⟩ => ⟨a, dx, w, u, hv, mu_grow n m h, h, Rep.grow (a := Tl.mk r.rs) D n h1, Rep.grow (a := r.lf) D n h3, h2⟩,
   fun {W H v r} D ⟨a, dx, w, u, hv, m, h, h1, h3, h2⟩ => ⟨a, dx, w, u, hv, fun z => m (.inl z), h, Rep.shrink (a := Tl.mk r.rs) D h1, Rep.shrink (a := r.lf) D h3, h2⟩⟩
instance : Ins Fi .Finder ["_rules", "_left"] := ⟨fun ⟨a, dx, w, u, hv, m, h, _⟩ => ⟨a, dx, _, hv, m, h, rfl⟩⟩
end G
namespace G
open PySem PySem.Spec PyProof.Rows L2 StX
instance {β : Type} [Rep β] : NotNon (Dc β) := ⟨fun ⟨p, _, hv, _⟩ e => by rw [hv] at e; cases e⟩
end G
set_option Elab.async false
set_option linter.all false
set_option maxRecDepth 100000
set_option maxHeartbeats 2000000
namespace G
open PySem PySem.Spec PyProof.Rows L2 StX
/-- a dict that was not there at F -/
structure Yg (F : Hp) (β : Type) where
  l : List (Str × β)
instance {F : Hp} {β : Type} [Rep β] : Rep (Yg F β) where
  dn := fun W H v y => den W H v (Dc.mk y.l) ∧ ∃ p, v = .ref p ∧ F p = none
  mono := fun {W H H' v y} e h => ⟨Rep.mono (a := Dc.mk y.l) e h.1, h.2⟩
  grow := fun {W H v y} D n h => ⟨Rep.grow (a := Dc.mk y.l) D n h.1, h.2⟩
  shrink := fun {W H v y} D h => ⟨Rep.shrink (a := Dc.mk y.l) D h.1, h.2⟩
abbrev PFd (β : Type) := (List (Str × β) → Prop) → List Ty → Prop
def EvFD {β : Type} [Rep β] (W : Wd) (te : TE) (Γ : Gam) (k : List (Str × β) → Prop) : Prop :=
  ∀ σ H (Q : VK), GOk W H σ Γ → (∀ p H' kvs (ds : List (Str × β)), H p = none → Ext W H H' → H' p = some (.dK kvs) → Dk (den (W.toWc.plus p) H') kvs ds → k ds → Q (.ref p) H') → te σ H Q
section
variable {W : Wd} {Γ : Gam} {ta : TA} {te : TE} {B : Bs} {β : Type} {rβ : Rep β} [Flat β] {P : PFd β} {E : XK}
/-- and what it gives may be read alone -/
theorem EvFD.k {k : Dc β → Prop} (h : EvFD W te Γ fun ds => k ⟨ds⟩) : EvK W te Γ k := fun σ H Q G c => h σ H Q G fun p H' kvs ds n e hp hk q => c (.ref p) H' ⟨ds⟩ e ⟨p, kvs, rfl, ⟨fresh_mu G.ok n, hp⟩, hk.flat⟩ q
end
end G
set_option Elab.async false
set_option linter.all false
set_option maxRecDepth 100000
set_option maxHeartbeats 2000000
namespace G
open PySem PySem.Spec PyProof.Rows L2 StX
/-- a free place was free at F -/
def Mk (W : Wd) (F : Hp) : Prop := ∀ H p, W.ok H → W.wish H → H p = none → F p = none
theorem Mk.sub {W W' : Wd} {F : Hp} (m : Mk W F) (s : Sub W W') : Mk W' F := fun H p o w n => m H p (s.ok H o) (s.wish H o w) n
instance {F : Hp} {β : Type} [Rep β] : NotNon (Yg F β) := ⟨fun {W H v a} ⟨_, p, hv, _⟩ e => by rw [hv] at e; cases e⟩
section
variable {W : Wd} {F : Hp} {L : OwnH} {Γ : Gam} {ta : TA} {te ty tx : TE} {t : TS} {R : PoH} {B : Bs} {β : Type} {rβ : Rep β} {E : XK}
def EvYO {β : Type} [Rep β] (W : Wd) (te : TE) (Γ : Gam) (k : Option (List (Str × β)) → Prop) : Prop :=
  ∀ σ H (Q : VK), GOk W H σ Γ → (k none → ∀ H', Ext W H H' → Q .non H') → (∀ p H' kvs (ds : List (Str × β)), H p = none → Ext W H H' → H' p = some (.dK kvs) → Dk (den (W.toWc.plus p) H') kvs ds → k (some ds) → Q (.ref p) H') → te σ H Q
/-- and what it gives may be read alone -/
theorem EvYO.k [Flat β] {k : Option (Dc β) → Prop} (h : EvYO W te Γ fun o : Option (List (Str × β)) => k (o.map Dc.mk)) : EvK W te Γ k := fun σ H Q G c => h σ H Q G (fun q H' e => c .non H' none e rfl q)
  fun p H' kvs ds n e hp hk q => c (.ref p) H' (some ⟨ds⟩) e ⟨p, kvs, rfl, ⟨fresh_mu G.ok n, hp⟩, hk.flat⟩ q
end
end G
set_option Elab.async false
set_option linter.all false
set_option maxRecDepth 100000
set_option maxHeartbeats 2000000
namespace G
open PySem PySem.Spec PyProof.Rows L2 StX
def EvFO {β : Type} [FRep β] (W : Wd) (c : Cn) (te : TE) (Γ : Gam) (k : β → Prop) : Prop :=
  ∀ σ H (Q : VK), GOk W H σ Γ → (∀ p dx fs H' (b : β), H p = none → Ext W H H' → H' p = some (.ins (W.B.cl c) dx fs) → FRep.fd (W.toWc.plus p) H' fs b → k b → Q (.ref p) H') → te σ H Q
end G
set_option Elab.async false
set_option linter.all false
set_option maxRecDepth 100000
set_option maxHeartbeats 2000000
namespace G
open PySem PySem.Spec PyProof.Rows L2 StX
end G
set_option Elab.async false
set_option linter.all false
set_option maxRecDepth 100000
set_option maxHeartbeats 2000000
namespace PySem
open PySem.Spec PyProof.Rows Sem
end PySem
namespace G
open PySem PySem.Spec PyProof.Rows L2 StX
end G
namespace G
open PySem PySem.Spec PyProof.Rows L2 StX
end G
set_option Elab.async false
set_option linter.all false
set_option maxRecDepth 100000
set_option maxHeartbeats 2000000
namespace PySem
open PySem.Spec PyProof.Rows
end PySem
set_option Elab.async false
set_option linter.all false
set_option maxRecDepth 100000
set_option maxHeartbeats 2000000
namespace G
open PySem PySem.Spec PyProof.Rows L2 StX
end G
set_option Elab.async false
set_option linter.all false
set_option maxRecDepth 100000
set_option maxHeartbeats 2000000
namespace G
open PySem PySem.Spec PyProof.Rows L2 StX
end G
set_option Elab.async false
set_option linter.all false
set_option maxRecDepth 100000
set_option maxHeartbeats 2000000
namespace G
open PySem PySem.Spec PyProof.Rows L2 StX
section
variable {W W0 : Wd} {Γ : Gam} {te : TE} {B : Bs} {E : L2.St → XK} {C : Addr} {K : PySem.W.Frag}
/-- the new object read as data -/
theorem EvFO.k {α β : Type} {rα : Rep α} {fβ : FRep β} {cn : Cn} {kd : α → Prop} (mk : β → α) (good : β → Prop) (hden : ∀ (W' : Wc) (H : Hp) (p dx : Addr) (fs : List (Str × V)) (b : β), W'.B = W.B → ¬ W'.mu p → H p = some (.ins (W.B.cl cn) dx fs) → FRep.fd W' H fs b → good b → den W' H (.ref p) (mk b)) (h : EvFO W cn te Γ fun b => good b ∧ kd (mk b)) : EvK W te Γ kd := fun σ H Q G c =>
  h σ H Q G fun p dx fs H' b n e hp hf q => c (.ref p) H' (mk b) e (hden W.toWc H' p dx fs b rfl (fresh_mu G.ok n) hp (FRep.shrink p hf) q.1) q.2
end
end G
set_option Elab.async false
set_option linter.all false
set_option maxRecDepth 100000
set_option maxHeartbeats 2000000
namespace G
open PySem PySem.Spec PyProof.Rows L2 StX
end G
set_option Elab.async false
set_option linter.all false
set_option maxRecDepth 100000
set_option maxHeartbeats 2000000
namespace G
open PySem PySem.Spec PyProof.Rows L2 StX
abbrev Cells (β : Type) := β → OwnH
end G
namespace G
open PySem PySem.Spec PyProof.Rows L2 StX
structure KpT (B : Bs) : Prop where
  cl : L2.Cls B.K (B.cl .Keeper)
  nl : NoAttr B.K (B.cl .Keeper) "_limit"
  nk : NoAttr B.K (B.cl .Keeper) "_kept"
  nd : NoAttr B.K (B.cl .Keeper) "_dropped"
/-- a keeper as data -/
structure Kd where
  lim : Int
  ks : List Str
  gone : List Str
instance : Rep Kd :=
  ⟨fun W H v r => ∃ a dx w u, v = .ref a ∧ ¬ W.mu a ∧ H a = some (.ins (W.B.cl .Keeper) dx [("_limit", .int r.lim), ("_kept", w), ("_dropped", u)]) ∧ den W H w r.ks ∧ den W H u r.gone ∧ KpT W.B,
   fun {W H H' v r} e ⟨a, dx, w, u, hv, m, h, h1, h3, h2⟩ => ⟨a, dx, w, u, hv, m, e _ _ m h, Rep.mono (a := r.ks) e h1, Rep.mono (a := r.gone) e h3, h2⟩,
   fun {W H v r} D n ⟨a, dx, w, u, hv, m, h, h1, h3, h2⟩ => ⟨a, dx, w, u, hv, mu_grow n m h, h, Rep.grow (a := r.ks) D n h1, Rep.grow (a := r.gone) D n h3, h2⟩,
   fun {W H v r} D ⟨a, dx, w, u, hv, m, h, h1, h3, h2⟩ => ⟨a, dx, w, u, hv, fun z => m (.inl z), h, Rep.shrink (a := r.ks) D h1, Rep.shrink (a := r.gone) D h3, h2⟩⟩
instance : Ins Kd .Keeper ["_limit", "_kept", "_dropped"] := ⟨fun ⟨a, dx, w, u, hv, m, h, _⟩ => ⟨a, dx, _, hv, m, h, rfl⟩⟩
abbrev KB := Fd (Ol Str) × Fd (List Str) × Fd Int × Unit
def kpB (lim : Int) (ks : List Str) (q : Addr) (us : List V) (gone : List Str) : KB := (⟨"_dropped", ⟨q, us, gone⟩⟩, ⟨"_kept", ks⟩, ⟨"_limit", lim⟩, ())
def kpC : Cells KB := fun b => [(b.1.a.p, .lst b.1.a.vs)]
end G
set_option Elab.async false
set_option linter.all false
set_option maxRecDepth 100000
set_option maxHeartbeats 2000000
namespace G
open PySem PySem.Spec PyProof.Rows L2 StX
class NoTp (α : Type) [Rep α] : Prop where
  at_ : ∀ {W : Wc} {H : Hp} {v : V} {a : α} {q : Addr} {o : HO}, H q = some o → (∀ xs, o ≠ .tup xs) → den W H v a → den (W.plus q) H v a
instance : NoTp Int := ⟨fun _ _ h => h⟩
instance : NoTp Bool := ⟨fun _ _ h => h⟩
instance : NoTp Str := ⟨fun _ _ h => h⟩
instance : NoTp Unit := ⟨fun _ _ h => h⟩
theorem tq_nt {W : Wc} {H : Hp} {p q : Addr} {vs : List V} {o : HO} (h : H q = some o) (ho : ∀ xs, o ≠ .tup xs) (s : Tq W H p vs) : Tq (W.plus q) H p vs :=
  ⟨fun z => z.elim s.1 fun z => (by have := s.2; rw [z, h] at this; exact ho _ (Option.some.inj this)), s.2⟩
instance {α β : Type} [Rep α] [Rep β] [NoTp α] [NoTp β] : NoTp (α × β) := ⟨fun h ho ⟨p, x, y, hv, s, d1, d2⟩ => ⟨p, x, y, hv, tq_nt h ho s, NoTp.at_ h ho d1, NoTp.at_ h ho d2⟩⟩
instance {α β γ : Type} [Rep α] [Rep β] [Rep γ] [NoTp α] [NoTp β] [NoTp γ] : NoTp (T3 α β γ) := ⟨fun h ho ⟨p, x, y, z, hv, s, d1, d2, d3⟩ => ⟨p, x, y, z, hv, tq_nt h ho s, NoTp.at_ h ho d1, NoTp.at_ h ho d2, NoTp.at_ h ho d3⟩⟩
end G
set_option Elab.async false
set_option linter.all false
set_option maxRecDepth 100000
set_option maxHeartbeats 2000000
namespace G
open PySem PySem.Spec PyProof.Rows L2 StX
instance {β : Type} [Rep β] : PyTy (Dc β) "dict" := ⟨fun ⟨p, kvs, hv, s, _⟩ => by subst hv; exact .base (.dK s.2)⟩
end G
set_option Elab.async false
set_option linter.all false
set_option maxRecDepth 100000
set_option maxHeartbeats 2000000
namespace G
open PySem PySem.Spec PyProof.Rows L2 StX
section
variable {W : Wd} {F : Hp} {L L' : OwnH} {Γ : Gam} {R : PoH} {ta : TA} {te te0 te1 tb to : TE} {t : TS} {B : Bs} {K : PySem.W.Frag}
structure PrB where
  p0 : Addr
  d0 : Addr
  f0 : List (Str × V)
  b0 : KB
  p1 : Addr
  d1 : Addr
  f1 : List (Str × V)
  b1 : KB
instance : FRep PrB :=
  ⟨fun W H fs b => fs = [] ∧ FRep.fd W H b.f0 b.b0 ∧ FRep.fd W H b.f1 b.b1, fun e h => ⟨h.1, FRep.mono e h.2.1, FRep.mono e h.2.2⟩, fun D n h => ⟨h.1, FRep.grow D n h.2.1, FRep.grow D n h.2.2⟩,
   fun D h => ⟨h.1, FRep.shrink D h.2.1, FRep.shrink D h.2.2⟩, fun _ => [], fun h => by rw [h.1]; rfl⟩
end
end G
set_option Elab.async false
set_option linter.all false
set_option maxRecDepth 100000
set_option maxHeartbeats 2000000
namespace G
open PySem PySem.Spec PyProof.Rows L2 StX
end G
set_option Elab.async false
set_option linter.all false
set_option maxRecDepth 100000
set_option maxHeartbeats 2000000
namespace G
open PySem PySem.Spec PyProof.Rows L2 StX
def od2 {α : Type} : List α → List α
  | [] => []
  | [_] => []
  | _ :: b :: r => b :: od2 r
end G
set_option Elab.async false
set_option linter.all false
set_option maxRecDepth 100000
set_option maxHeartbeats 2000000
namespace GN
open PySem PySem.Spec PyProof.Rows L2 GenW
section
variable {X : Cx} {tg iter : Expr} {body : List Stmt} {wi : TI} {g : TG} {tb : TGn} {pos : Pos}
def tGFor (wi : TI) (g : TG) (tb : TGn) : TGn := fun D ys σ H => wi σ H fun J H1 => ∃ U : Nat → Nat → List V → L2.St → Hp → Prop, (∃ m, U 0 m ys σ H1) ∧ ∀ i m ys σ H, U i m ys σ H →
  (J.stop i H ∧ D.nx ys σ H) ∨ (J.go i H ∧ ∃ N : List V → L2.St → Hp → Prop, (∀ ys' σ' H', N ys' σ' H' → ∃ m', m' < m ∧ U (i + 1) m' ys' σ' H') ∧
    ∀ x H', J.yld i H x H' → g x σ H' fun σ2 H2 => tb { D with nx := N, ct := N, bk := D.nx } ys σ2 H2)
end
end GN
namespace G
open PySem PySem.Spec PyProof.Rows L2 StX
theorem ei_rng2 {W : Wd} {Γ : Gam} {te tb : TE} {k : List Int → Prop} (h : EvK W te Γ fun a : Int => EvK W tb Γ fun b : Int => ((-(2 ^ 62) ≤ a ∧ a < 2 ^ 62) ∧ -(2 ^ 62) ≤ b ∧ b < 2 ^ 62) ∧ k ((List.range (b - a).toNat).map fun i : Nat => a + (i : Int))) : EvI W (iRng2 (tCons te (tCons tb tNil))) Γ k := by
  refine fun σ H R G c => h σ H _ G fun v H1 a e1 hv q => q σ H1 _ (G.ext e1) fun u H2 b e2 hu ⟨⟨⟨b1, b2⟩, b3, b4⟩, z⟩ => ?_
  have hv : v = V.int a := hv
  have hu : u = V.int b := hu
  subst hv hu
  refine ⟨a, b, rfl, ⟨b1, b2, b3, b4⟩, c _ H2 _ (e1.trans e2) ⟨?_, ?_, ?_⟩ z⟩
  · intro i H' kp hi
    rw [List.length_map, List.length_range] at hi
    exact hi
  · intro H' kp
    show (b - a).toNat ≤ _
    rw [List.length_map, List.length_range]
    exact Nat.le_refl _
  · rintro i H' x H'' kp _ hi ⟨rfl, hx⟩
    rw [List.length_map, List.length_range] at hi
    exact ⟨a + (i : Int), by rw [List.getElem?_map, List.getElem?_range hi]; rfl, .inl rfl, hx, fun D o _ _ => hx⟩
def chS (row : List Int) : Int := match row.getLast? with
  | some x => x + 1
  | none => 0
def chF (n : Int) : Nat → List (List Int)
  | 0 => [[]]
  | k + 1 => (chF n k).flatMap fun row => (List.range (n - chS row).toNat).map fun i : Nat => row ++ [chS row + (i : Int)]
theorem chS_snoc (row : List Int) (x : Int) : chS (row ++ [x]) = x + 1 := by
  unfold chS
  rw [List.getLast?_append]
  rfl
def chW (n : Int) (row : List Int) : Nat := 2 ^ (n - chS row).toNat
theorem pow_sum : ∀ m : Nat, ((List.range m).map fun i => 2 ^ (m - 1 - i)).sum + 1 = 2 ^ m
  | 0 => rfl
  | m + 1 => by
    rw [List.range_succ_eq_map, List.map_cons, List.sum_cons, List.map_map]
    have e : ((fun i => 2 ^ (m + 1 - 1 - i)) ∘ Nat.succ) = fun i => 2 ^ (m - 1 - i) := funext fun i => by
      show 2 ^ (m + 1 - 1 - (i + 1)) = 2 ^ (m - 1 - i)
      congr 1
      omega
    rw [e]
    have := pow_sum m
    rw [show m + 1 - 1 - 0 = m by omega, Nat.pow_succ]
    omega
theorem ch_step (n : Int) (row : List Int) : (((List.range (n - chS row).toNat).map fun i : Nat => row ++ [chS row + (i : Int)]).map (chW n)).sum ≤ chW n row := by
  rw [List.map_map]
  have e : (List.range (n - chS row).toNat).map (chW n ∘ fun i : Nat => row ++ [chS row + (i : Int)]) = (List.range (n - chS row).toNat).map fun i => 2 ^ ((n - chS row).toNat - 1 - i) := List.map_congr_left fun i hi => by
    show 2 ^ (n - chS (row ++ [chS row + (i : Int)])).toNat = _
    rw [chS_snoc]
    congr 1
    have := List.mem_range.mp hi
    omega
  rw [e]
  unfold chW
  have := pow_sum (n - chS row).toNat
  omega
theorem sum_flat (n : Int) : ∀ rows : List (List Int), (((rows.flatMap fun row => (List.range (n - chS row).toNat).map fun i : Nat => row ++ [chS row + (i : Int)])).map (chW n)).sum ≤ (rows.map (chW n)).sum
  | [] => Nat.le_refl _
  | r :: rows => by
    rw [List.flatMap_cons, List.map_append, List.sum_append, List.map_cons, List.sum_cons]
    exact Nat.add_le_add (ch_step n r) (sum_flat n rows)
theorem ch_sum (n : Int) : ∀ k, ((chF n k).map (chW n)).sum ≤ 2 ^ n.toNat
  | 0 => by
    show 2 ^ (n - 0).toNat + 0 ≤ _
    rw [Int.sub_zero]
    exact Nat.le_refl _
  | k + 1 => Nat.le_trans (sum_flat n (chF n k)) (ch_sum n k)
theorem len_sum (n : Int) : ∀ rows : List (List Int), rows.length ≤ (rows.map (chW n)).sum
  | [] => Nat.le_refl _
  | r :: rows => by
    rw [List.map_cons, List.sum_cons, List.length_cons]
    have h1 : 1 ≤ chW n r := Nat.one_le_two_pow
    have := len_sum n rows
    omega
theorem ch_len (n : Int) (k : Nat) : (chF n k).length ≤ 2 ^ n.toNat := Nat.le_trans (len_sum n _) (ch_sum n k)
/-- a row: so many ascending positions below n -/
structure ChR (n : Int) (k : Nat) (row : List Int) : Prop where
  len : row.length = k
  lo : ∀ x ∈ row, 0 ≤ x
  hi : ∀ x ∈ row, x < n
  asc : row.Pairwise (· < ·)
  st : 0 ≤ chS row
  lt : ∀ x ∈ row, x < chS row
theorem ch_row {n : Int} : ∀ {k : Nat} {row : List Int}, row ∈ chF n k → ChR n k row
  | 0, row, h => by
    rw [List.mem_singleton.mp h]
    exact ⟨rfl, fun x h => (nomatch h), fun x h => (nomatch h), .nil, Int.le_refl _, fun x h => (nomatch h)⟩
  | k + 1, row, h => by
    obtain ⟨r0, h0, h1⟩ := List.mem_flatMap.mp h
    obtain ⟨i, hi, rfl⟩ := List.mem_map.mp h1
    have q := ch_row h0
    have hi := List.mem_range.mp hi
    have q5 := q.st
    refine ⟨by rw [List.length_append, q.len]; rfl, fun x hx => ?_, fun x hx => ?_, ?_, by rw [chS_snoc]; omega, fun x hx => ?_⟩
    · rcases List.mem_append.mp hx with hx | hx
      · exact q.lo x hx
      · rw [List.mem_singleton.mp hx]; omega
    · rcases List.mem_append.mp hx with hx | hx
      · exact q.hi x hx
      · rw [List.mem_singleton.mp hx]; omega
    · refine List.pairwise_append.mpr ⟨q.asc, List.pairwise_singleton _ _, fun a ha b hb => ?_⟩
      rw [List.mem_singleton.mp hb]
      have := q.lt a ha
      omega
    · rw [chS_snoc]
      rcases List.mem_append.mp hx with hx | hx
      · have := q.lt x hx
        omega
      · rw [List.mem_singleton.mp hx]; omega
end G
set_option Elab.async false
set_option linter.all false
set_option maxRecDepth 100000
set_option maxHeartbeats 2000000
namespace GN
open PySem PySem.Spec PyProof.Rows L2 GenW
abbrev EndG (Gh : Type) := Gh → Nat → Shared → Result → Shared → Prop
abbrev ProG (Gh : Type) := Gh → Nat → Shared → Value → Shared → (Gh → Resume → Shared → Prop) → Prop
section
variable {Gh : Type}
def StopG (R : EndG Gh) (Y : ProG Gh) (n : Nat) (go : Gh → Code → Sem PySem.Fin → List Frame → Shared → Prop) (g : Gh) (s₀ : Shared) (e : End) (s' : Shared) : Prop :=
  match e with
  | .ret r => R g n s₀ r s'
  | .susp v gd l k c p fs => (End.susp v gd l k c p fs).quiet = true ∧ Y g (n - 1) s₀ v s' fun g' r s2 => go g' c (k r) fs s2
def SegG (M : Model) (A : Around) (R : EndG Gh) (Y : ProG Gh) : Nat → Gh → Shared → Code → Sem PySem.Fin → List Frame → Shared → Prop
  | 0 => fun g s₀ c t fs s => ∀ Γ p, Γ.code = c → Γ.Woken A → ∃ e s', Runs M Γ p t fs s e s' ∧ StopG R Y 0 (fun _ _ _ _ _ => False) g s₀ e s'
  | n + 1 => fun g s₀ c t fs s => ∀ Γ p, Γ.code = c → Γ.Woken A → ∃ e s', Runs M Γ p t fs s e s' ∧ StopG R Y (n + 1) (fun g' c' t' fs' s2 => SegG M A R Y n g' s2 c' t' fs' s2) g s₀ e s'
def goG (M : Model) (A : Around) (R : EndG Gh) (Y : ProG Gh) : Nat → Gh → Code → Sem PySem.Fin → List Frame → Shared → Prop
  | 0 => fun _ _ _ _ _ => False
  | n + 1 => fun g c t fs s2 => SegG M A R Y n g s2 c t fs s2
variable {M : Model} {A : Around} {R : EndG Gh} {Y : ProG Gh} {n : Nat} {g : Gh} {s₀ s : Shared} {c : Code} {fs : List Frame}
theorem sg_iff {t : Sem PySem.Fin} : SegG M A R Y n g s₀ c t fs s ↔ ∀ Γ p, Γ.code = c → Γ.Woken A → ∃ e s', Runs M Γ p t fs s e s' ∧ StopG R Y n (goG M A R Y n) g s₀ e s' := by
  cases n <;> rfl
theorem sg_wrap {α : Type} {m : Sem α} {K : α → Sem PySem.Fin} {H : Value → Sem PySem.Fin} {gd lv} (h : wpAny M (A.over c fs) m (fun a s' => SegG M A R Y n g s₀ c (K a) fs s') (fun x s' => SegG M A R Y n g s₀ c (H x) fs s') s) : SegG M A R Y n g s₀ c (m.wrap K H gd lv) fs s := by
  rw [sg_iff]
  rintro Γ p rfl hΓ
  exact runs_wrap_of_wp K H gd lv m (h (Γ.over fs) p (hΓ.over fs)) (fun a p' s' h' => sg_iff.mp h' Γ p' rfl hΓ) fun x p' s' h' => sg_iff.mp h' Γ p' rfl hΓ
theorem sg_bind {α β : Type} {m : Sem α} {K : α → Sem β} {K' : β → Sem PySem.Fin} {H' : Value → Sem PySem.Fin} {gd lv} (h : wpAny M (A.over c fs) m (fun a s' => SegG M A R Y n g s₀ c ((K a).wrap K' H' gd lv) fs s') (fun x s' => SegG M A R Y n g s₀ c (H' x) fs s') s) :
    SegG M A R Y n g s₀ c ((m >>= K).wrap K' H' gd lv) fs s := by
  rw [Sem.bind_eq_wrap', Sem.wrap_wrap]
  exact sg_wrap h
theorem sg_at {p' : Pos} {k : Unit → Sem PySem.Fin} (h : SegG M A R Y n g s₀ c (k ()) fs s) : SegG M A R Y n g s₀ c (.at p' k) fs s :=
  sg_wrap (m := standAt p') (K := k) (H := .raise) (gd := id) (lv := id) (wpAny_standAt h)
theorem sg_point {l : List Value} {k : Unit → Sem PySem.Fin} (h : SegG M A R Y n g s₀ c (k ()) fs s) : SegG M A R Y n g s₀ c (.point l k) fs s :=
  sg_wrap (m := point) (K := k) (H := .raise) (gd := id) (lv := fun _ => l) (wpAny_point h)
theorem sg_call {c' : Code} {h gd l} {k : Result → Sem PySem.Fin} (hc : ∀ p, SegG M A R Y n g s₀ c' (M.den c') (.ret k h gd l c p [] :: fs) s) : SegG M A R Y n g s₀ c (.call c' h gd l k) fs s := by
  rw [sg_iff]
  rintro Γ p rfl hΓ
  obtain ⟨e, s', hr, he⟩ := sg_iff.mp (hc p) (Γ.goto c') p rfl (hΓ.goto c')
  exact ⟨e, s', runs_call_seg hr, he⟩
theorem sg_leaf {k h gd l c₁ p₁ kp} (r : Result) (hk : SegG M A R Y n g s₀ c₁ (k r) fs s) : SegG M A R Y n g s₀ c (leafOf r) (.ret k h gd l c₁ p₁ kp :: fs) s := by
  rw [sg_iff]
  rintro Γ p rfl hΓ
  obtain ⟨e, s', hr, he⟩ := sg_iff.mp hk (Γ.goto c₁) p₁ rfl (hΓ.goto c₁)
  exact ⟨e, s', Runs.pop r hr, he⟩
theorem sg_again {c' : Code} (hq : c'.quiet = true) (hc : SegG M A R Y n g s₀ c' (M.den c') fs s) : SegG M A R Y n g s₀ c (.pure (.again c')) fs s := by
  rw [sg_iff]
  rintro Γ p rfl hΓ
  obtain ⟨e, s', hr, he⟩ := sg_iff.mp hc (Γ.goto c') p rfl (hΓ.goto c')
  exact ⟨e, s', Runs.head (c₁ := c') (fun _ _ x => .again hq x) hr, he⟩
theorem sg_end (r : Result) (h : R g n s₀ r s) : SegG M A R Y n g s₀ c (leafOf r) [] s := by
  rw [sg_iff]
  rintro Γ p rfl _
  exact ⟨.ret r, s, Runs.leaf r, h⟩
theorem sg_yield {v gd l} {k : Resume → Sem PySem.Fin} (hfs : splitAtGen fs = none) (hg : gd = false) (hfg : fs.any Frame.guarded = false) (h : Y g n s₀ v s fun g' r s2 => SegG M A R Y n g' s2 c (k r) fs s2) : SegG M A R Y (n + 1) g s₀ c (.yield v gd l k) fs s := by
  rintro Γ p rfl _
  exact ⟨_, s, Runs.yield' fs hfs, And.intro (by simp [End.quiet, hg, hfg]) h⟩
variable {env : Env} {K : Flow → Sem PySem.Fin} {H : Value → Sem PySem.Fin} {gd : Bool → Bool} {lv : List Value → List Value}
theorem sg_nil (h : SegG M A R Y n g s₀ c (K .next) fs s) : SegG M A R Y n g s₀ c ((execs [] env).wrap K H gd lv) fs s := h
theorem sg_cons {st : Stmt} {rest : List Stmt} (h : SegG M A R Y n g s₀ c ((exec st env).wrap (fun f => match f with | .next => (execs rest env).wrap K H gd lv | f => K f) H gd lv) fs s) : SegG M A R Y n g s₀ c ((execs (st :: rest) env).wrap K H gd lv) fs s := by
  rw [execs_cons_wrap]
  exact h
theorem sg_yieldE {e : Expr} {yp pos : Pos} (hfs : splitAtGen fs = none) (hgd : gd false = false) (hfg : fs.any Frame.guarded = false)
    (h : wpAny M (A.over c fs) (eval e env) (fun v s' => ∀ kap : Gh → Resume → Shared → Prop, (∀ g' x s2, (match x with | .ref _ => False | _ => SegG M A R Y n g' s2 c (K .next) fs s2) → kap g' (.send x) s2) → Y g n s₀ v s' kap) (fun x s' => SegG M A R Y (n + 1) g s₀ c (H x) fs s') s)
    (hco : env.scope.isCoroutine = false := by rfl) (hi : interactive env = false := by rfl) : SegG M A R Y (n + 1) g s₀ c ((exec (.Expr (.Yield (some e) yp) pos) env).wrap K H gd lv) fs s := by
  rw [exec_Expr env _ pos hi rfl]
  show SegG M A R Y (n + 1) g s₀ c (.at pos fun _ => ((eval e env >>= fun v => (standAt yp >>= fun _ => yieldOut env v)) >>= fun x => dropValue (.Yield (some e) yp) pos x).wrap K H gd lv) fs s
  have hy : ∀ v, yieldOut env v = yieldValue v := fun v => by simp only [yieldOut, hco, Bool.false_eq_true, if_false]
  simp only [hy]
  refine sg_at ?_
  rw [Sem.bind_eq_wrap', Sem.bind_eq_wrap', Sem.wrap_wrap, Sem.wrap_wrap]
  refine sg_wrap (wpAny_mono h (fun v s' h' => ?_) fun _ _ x => x)
  refine sg_at (sg_yield hfs hgd hfg ?_)
  refine h' _ fun g' x s2 hx => ?_
  cases x <;> first | exact hx | exact hx.elim
end
section
variable {Gh : Type} {prog : Program} {w : World} {A : Around} {R : EndG Gh} {Y : ProG Gh} {n : Nat} {g : Gh} {s₀ s : Shared} {fs : List Frame} {env : Env} {tg : Expr} {it : Value} {body : List Stmt}
abbrev offG (M : Model) (A : Around) (R : EndG Gh) (Y : ProG Gh) (n : Nat) (g : Gh) (s₀ : Shared) (c : Code) (fs : List Frame) (env : Env) (x : Value) (s' : Shared) : Prop :=
  SegG M A R Y n g s₀ c ((do noteFrame x env; theTreesLotGoes x : Sem Unit).wrap (fun _ => .raise x) .raise id id) fs s'
theorem sg_forTurn (h : wpAny (model prog w) (A.over (.forLoop tg it body [] env) fs) (pyNext it) (fun r s1 => match r with
      | none => SegG (model prog w) A R Y n g s₀ (.forLoop tg it body [] env) (.pure (.again (.block [] env))) fs s1
      | some v => wpAny (model prog w) (A.over (.forLoop tg it body [] env) fs) (letOwnedTupleGo tg it v) (fun _ s2 => wpAny (model prog w) (A.over (.forLoop tg it body [] env) fs) (assign tg env v) (fun _ s3 =>
          SegG (model prog w) A R Y n g s₀ (.forLoop tg it body [] env) ((execs body env).wrap (fun f => match f with
            | .next | .cont => .pure (.again (.forLoop tg it body [] env))
            | .brk => .pure (.done .next)
            | .ret v => .pure (.done (.ret v))) (fun e => (do noteFrame e env; theTreesLotGoes e : Sem Unit).wrap (fun _ => .raise e) .raise id id) id id) fs s3)
        (offG (model prog w) A R Y n g s₀ (.forLoop tg it body [] env) fs env) s2) (offG (model prog w) A R Y n g s₀ (.forLoop tg it body [] env) fs env) s1)
      (offG (model prog w) A R Y n g s₀ (.forLoop tg it body [] env) fs env) s) :
    SegG (model prog w) A R Y n g s₀ (.forLoop tg it body [] env) ((model prog w).den (.forLoop tg it body [] env)) fs s := by
  show SegG _ A R Y n g s₀ _ ((forTurn tg it body [] env).onRaise (fun x => do noteFrame x env; theTreesLotGoes x)) fs s
  rw [Sem.onRaise_eq_wrap]
  have off : ∀ (x : Value) (s' : Shared), offG (model prog w) A R Y n g s₀ (.forLoop tg it body [] env) fs env x s' → SegG (model prog w) A R Y n g s₀ (.forLoop tg it body [] env) ((do noteFrame x env; theTreesLotGoes x : Sem Unit).bind fun _ => (.raise x : Sem PySem.Fin)) fs s' := fun x s' hx => by
    rw [Sem.bind_eq_wrap]
    exact hx
  unfold forTurn
  refine sg_bind (wpAny_standAt ?_)
  refine sg_bind (wpAny_onRaise (wpAny_mono h (fun r s1 h1 => ?_) fun x s' hx => wpAny_standAt (off x s' hx)))
  cases r with
  | none => exact h1
  | some v =>
    refine sg_bind (wpAny_mono h1 (fun _ s2 h2 => ?_) fun x s' hx => off x s' hx)
    refine sg_bind (wpAny_mono h2 (fun _ s3 h3 => ?_) fun x s' hx => off x s' hx)
    rw [Sem.bind_eq_wrap', Sem.wrap_wrap]
    rw [Sem.wrap_congr (execs body env) _ _ (K' := fun f => match f with
            | .next | .cont => .pure (.again (.forLoop tg it body [] env))
            | .brk => .pure (.done .next)
            | .ret v => .pure (.done (.ret v))) (H' := (fun e => (do noteFrame e env; theTreesLotGoes e : Sem Unit).wrap (fun _ => .raise e) .raise id id))
        (fun f => by cases f <;> rfl) (fun e => by (show (do noteFrame e env; theTreesLotGoes e : Sem Unit).bind (fun _ => .raise e) = _; rw [Sem.bind_eq_wrap]))]
    exact h3
theorem sg_block0 (h : SegG (model prog w) A R Y n g s₀ (.block [] env) (.pure (.done .next)) fs s) : SegG (model prog w) A R Y n g s₀ (.block [] env) ((model prog w).den (.block [] env)) fs s := h
theorem sg_func (h : SegG (model prog w) A R Y n g s₀ (.func body env) ((execs body env).wrap (fun f => .pure (.done (.ret (match f with | .ret v => v | _ => .none)))) (fun e => (leaving env e).wrap (fun _ => .raise e) .raise id id) id id) fs s) :
    SegG (model prog w) A R Y n g s₀ (.func body env) ((model prog w).den (.func body env)) fs s := by
  show SegG _ A R Y n g s₀ _ (.point [] fun _ => ((execs body env).onRaise (leaving env)) >>= _) fs s
  refine sg_point ?_
  rw [Sem.onRaise_eq_wrap, Sem.bind_eq_wrap', Sem.wrap_wrap]
  rw [Sem.wrap_congr (execs body env) _ _ (K' := fun f => .pure (.done (.ret (match f with | .ret v => v | _ => .none)))) (H' := fun e => (leaving env e).wrap (fun _ => .raise e) .raise id id) (fun f => by cases f <;> rfl) (fun e => by rw [Sem.bind_eq_wrap, Sem.wrap_wrap]; rfl)]
  exact h
end
end GN
set_option Elab.async false
set_option linter.all false
set_option maxRecDepth 100000
set_option maxHeartbeats 2000000
namespace GN
open PySem PySem.Spec PyProof.Rows L2 GenW
def preH (k : Nat) (h : Heap) : Heap := { h with objs := h.objs.extract 0 k }
theorem preH_get {k b : Nat} {h : Heap} : (preH k h).get? b = if b < k then h.get? b else none := by
  unfold preH Heap.get?
  show (match (h.objs.extract 0 k)[b]? with | some ⟨_, _, .freed, _⟩ => none | o => o) = _
  rw [Array.getElem?_extract]
  by_cases c : b < k
  · rw [if_pos c]
    by_cases d : b < h.objs.size
    · rw [if_pos (by omega), Nat.zero_add]
      rfl
    · rw [if_neg (by omega), Array.getElem?_eq_none (by omega)]
  · rw [if_neg c, if_neg (by omega)]
theorem preH_size {k : Nat} {h : Heap} (hk : k ≤ h.objs.size) : (preH k h).objs.size = k := by
  unfold preH
  rw [Array.size_extract]
  omega
theorem preH_some {k b : Nat} {h : Heap} {o : Obj} (e : (preH k h).get? b = some o) : b < k ∧ h.get? b = some o := by
  rw [preH_get] at e
  by_cases c : b < k
  · rw [if_pos c] at e
    exact ⟨c, e⟩
  · rw [if_neg c] at e
    cases e
theorem preH_of {k b : Nat} {h : Heap} {o : Obj} (c : b < k) (e : h.get? b = some o) : (preH k h).get? b = some o := by
  rw [preH_get, if_pos c]
  exact e
theorem funFrames_pre {k : Nat} {h base : Heap} : ∀ {l : List Env}, h.FunFrames base l → (∀ b ∈ frs l, b < k) → (preH k h).FunFrames base l
  | [], _, _ => trivial
  | env :: rest, ⟨hk, ⟨L, o, hf, hn, ho, hd⟩, hr⟩, hb => by
    have e : frs (env :: rest) = L :: frs rest := by
      unfold frs
      rw [List.filterMap_cons, hf]
    refine ⟨hk, ⟨L, o, hf, hn, preH_of (hb L (by rw [e]; exact List.mem_cons_self)) ho, hd⟩, funFrames_pre hr fun b hm => hb b (by rw [e]; exact List.mem_cons_of_mem _ hm)⟩
/-- the consumer's turn, from s to s2: it changes what is its own (C) and lays new objects; what the generator tells of its heap (H) stays true; young cells of others don't matter -/
structure CTurn (X : Cx) (H : Hp) (C : Addr → Prop) (s s2 : Shared) : Prop where
  os : s2.os = s.os
  bare : AllBare s2.gens
  size : s.heap.objs.size ≤ s2.heap.objs.size
  keep : ∀ b o, ¬ C b → H b = none → ((∃ o', X.base.get? b = some o') ∨ X.s_0.heap.objs.size ≤ b) → s.heap.get? b = some o → s2.heap.get? b = some o
  hok : HOk X.prog X.w H s2.heap
/-- what the generator's own things are apart from -/
structure Away (X : Cx) (ip : List (Addr × Obj)) (H : Hp) (C : Addr → Prop) : Prop where
  un : ∀ b, C b → H b = none
  loc : ∀ b, C b → b ≠ X.env.locals
  cell : ∀ b, C b → ∀ x c, X.env.cells.lookup x = some c → c ≠ b
  pin : ∀ b, C b → ∀ p ∈ X.pn ++ ip, p.1 ≠ b
  base : ∀ b o, C b → X.base.get? b = some o → False
  pinN : ∀ p ∈ X.pn ++ ip, X.s_0.heap.objs.size ≤ p.1
  cellN : ∀ x c, X.env.cells.lookup x = some c → X.s_0.heap.objs.size ≤ c
/-- the same context, based on a later state -/
def reX (X : Cx) (s : Shared) (H : Hp) (xe : Value → Shared → Prop) : Cx := { X with s_0 := { s with heap := preH X.s_0.heap.objs.size s.heap }, H_0 := H, xe := xe }
open Classical in
/-- what stands at the consumer's addresses (frames and cells aside) -/
noncomputable def ownPins (X : Cx) (C : Addr → Prop) (h : Heap) : List (Addr × Obj) := (List.range h.objs.size).filterMap fun b => match h.get? b with
  | some o => if C b ∧ b ∉ X.fs ∧ (∀ v, o.data ≠ .cell v) then some (b, o) else none
  | none => none
theorem ownPins_mem {X : Cx} {C : Addr → Prop} {h : Heap} {p : Addr × Obj} (hp : p ∈ ownPins X C h) : h.get? p.1 = some p.2 ∧ C p.1 ∧ p.1 ∉ X.fs ∧ ∀ v, p.2.data ≠ .cell v := by
  unfold ownPins at hp
  obtain ⟨b, _, hb⟩ := List.mem_filterMap.mp hp
  cases e : h.get? b with
  | none => rw [e] at hb; cases hb
  | some o =>
    rw [e] at hb
    dsimp only at hb
    split at hb
    · rename_i c
      cases hb
      exact ⟨e, c⟩
    · cases hb
theorem ownPins_of {X : Cx} {C : Addr → Prop} {h : Heap} {b : Addr} {o : Obj} (e : h.get? b = some o) (c : C b) (f : b ∉ X.fs) (d : ∀ v, o.data ≠ .cell v) : (b, o) ∈ ownPins X C h := by
  unfold ownPins
  refine List.mem_filterMap.mpr ⟨b, List.mem_range.mpr (Heap.lt_size e), ?_⟩
  rw [e]
  dsimp only
  rw [if_pos ⟨c, f, d⟩]
open Classical in
/-- some lists given away -/
noncomputable def dropL (Gv : Addr → Prop) (H : Hp) : Hp := fun b => if Gv b then none else H b
theorem dropL_none {Gv : Addr → Prop} {H : Hp} {b : Addr} (h : H b = none) : dropL Gv H b = none := by
  unfold dropL
  split
  · rfl
  · exact h
theorem dropL_in {Gv : Addr → Prop} {H : Hp} {b : Addr} (h : Gv b) : dropL Gv H b = none := by
  unfold dropL
  rw [if_pos h]
theorem dropL_out {Gv : Addr → Prop} {H : Hp} {b : Addr} (h : ¬ Gv b) : dropL Gv H b = H b := by
  unfold dropL
  rw [if_neg h]
theorem dropL_some {Gv : Addr → Prop} {H : Hp} {b : Addr} {u : HO} (h : dropL Gv H b = some u) : ¬ Gv b ∧ H b = some u := by
  unfold dropL at h
  split at h
  · cases h
  · rename_i n
    exact ⟨n, h⟩
theorem inv_drop {X : Cx} {pins : List (Addr × Obj)} {σ : L2.St} {H : Hp} {s : Shared} {Gv : Addr → Prop} (I : Inv X pins σ H s) (hG : ∀ b, Gv b → ∃ xs, H b = some (.lst xs)) : Inv X pins σ (dropL Gv H) s := by
  have keep : ∀ {b : Addr} {u : HO}, H b = some u → (∀ xs, u ≠ .lst xs) → dropL Gv H b = some u := fun {b u} h n => by
    rw [dropL_out fun g => ?_]
    · exact h
    · obtain ⟨xs, e⟩ := hG b g
      rw [h] at e
      exact n xs (Option.some.inj e)
  obtain ⟨ok, os, bare, base, loc, cell, free, freeC, pin, hok, len⟩ := I
  refine ⟨ok, os, bare, ⟨base.keep, base.slot, fun b o e n hx => dropL_none (base.free b o e n hx), base.there, fun b xs e => keep (base.tups b xs e) (fun _ h => by cases h), fun b o u e => keep (base.frzs b o u e) (fun _ h => by cases h), fun b ps e => ?_⟩, loc, cell, dropL_none free, fun x c e => dropL_none (freeC x c e), fun p hp => ?_, fun b u q => ?_, len⟩
  · obtain ⟨more, h⟩ := base.tbls b ps e
    exact ⟨more, keep h (fun _ h => by cases h)⟩
  · obtain ⟨h1, h2, h3⟩ := pin p hp
    exact ⟨h1, dropL_none h2, h3⟩
  · obtain ⟨_, q⟩ := dropL_some q
    exact (hok b u q).stay (fun _ _ _ y => y) (fun c y => keep y (fun _ h => by cases h)) fun c xs y => keep y (fun _ h => by cases h)
theorem Away.grow0 {X : Cx} {pins ip : List (Addr × Obj)} {σ : L2.St} {H : Hp} {s : Shared} {C C2 : Addr → Prop} (I : Inv X pins σ H s) (hip : ∀ p ∈ ip, p ∈ pins) (aw : Away X ip H C) (hC : ∀ b, C2 b → C b ∨ s.heap.objs.size ≤ b) : Away X ip H C2 where
  un := fun b h => (hC b h).elim (aw.un b) fun z => I.hok.fresh z
  loc := fun b h => (hC b h).elim (aw.loc b) fun z => Nat.ne_of_gt (Nat.lt_of_lt_of_le I.lt z)
  cell := fun b h x c e => (hC b h).elim (fun z => aw.cell b z x c e) fun z q => by
    obtain ⟨v, o, ho, _⟩ := I.cell x c e
    have := Heap.lt_size ho
    rw [q] at this
    exact absurd (Nat.lt_of_lt_of_le this z) (Nat.lt_irrefl _)
  pin := fun b h p hp => (hC b h).elim (fun z => aw.pin b z p hp) fun z q => by
    have hp2 : p ∈ X.pn ++ pins := (List.mem_append.mp hp).elim (fun z => List.mem_append_left _ z) fun z => List.mem_append_right _ (hip p z)
    have := Heap.lt_size (I.pin p hp2).1
    rw [q] at this
    exact absurd (Nat.lt_of_lt_of_le this z) (Nat.lt_irrefl _)
  base := fun b o h e => (hC b h).elim (fun z => aw.base b o z e) fun z => absurd (Nat.lt_of_lt_of_le (Heap.lt_size (I.bk b o e)) z) (Nat.lt_irrefl _)
  pinN := aw.pinN
  cellN := aw.cellN
theorem Away.grow {X : Cx} {pins ip : List (Addr × Obj)} {σ : L2.St} {H : Hp} {s : Shared} {C C2 Gv : Addr → Prop} (I : Inv X pins σ H s) (hip : ∀ p ∈ ip, p ∈ pins) (aw : Away X ip H C) (hG : ∀ b, Gv b → ∃ xs, H b = some (.lst xs)) (hC : ∀ b, C2 b → C b ∨ s.heap.objs.size ≤ b ∨ Gv b) : Away X ip (dropL Gv H) C2 := by
  have gv : ∀ b, Gv b → H b ≠ none := fun b g e => by
    obtain ⟨xs, h⟩ := hG b g
    rw [e] at h
    cases h
  have main : ∀ b, C2 b → (C b ∨ s.heap.objs.size ≤ b) ∨ Gv b := fun b h => (hC b h).elim (fun z => .inl (.inl z)) fun z => z.elim (fun z => .inl (.inr z)) .inr
  have a0 := Away.grow0 I hip aw (C2 := fun b => C b ∨ s.heap.objs.size ≤ b) fun b h => h
  refine ⟨fun b h => (main b h).elim (fun z => dropL_none (a0.un b z)) dropL_in, fun b h => (main b h).elim (a0.loc b) fun g e => gv b g (by rw [e]; exact I.free), fun b h x c e => (main b h).elim (fun z => a0.cell b z x c e) fun g q => gv b g (by rw [← q]; exact I.freeC x c e), fun b h p hp => (main b h).elim (fun z => a0.pin b z p hp) fun g q => gv b g ?_, fun b o h e => (main b h).elim (fun z => a0.base b o z e) fun g => gv b g (I.bs b o e).2, aw.pinN, aw.cellN⟩
  have hp2 : p ∈ X.pn ++ pins := (List.mem_append.mp hp).elim (fun z => List.mem_append_left _ z) fun z => List.mem_append_right _ (hip p z)
  rw [← q]
  exact (I.pin p hp2).2.1
/-- woken again: the context is based on what stands now -/
theorem inv_rebase {X : Cx} {pins ip : List (Addr × Obj)} {σ : L2.St} {H : Hp} {s s2 : Shared} {C2 : Addr → Prop} {xe : Value → Shared → Prop} (I : Inv X pins σ H s) (hip : ∀ p ∈ ip, p ∈ pins) (aw : Away X ip H C2) (t : CTurn X H C2 s s2) (hf : s2.heap.FunFrames X.base X.outer) :
    Inv (reX X s2 H xe) (ip ++ ownPins X C2 s2.heap) σ H s2 := by
  obtain ⟨ok, os, bare, base, loc, cell, free, freeC, pin, hok, len⟩ := id I
  have k0 : X.s_0.heap.objs.size ≤ s2.heap.objs.size := Nat.le_trans I.sz t.size
  have sz : (preH X.s_0.heap.objs.size s2.heap).objs.size = X.s_0.heap.objs.size := preH_size k0
  have nb : ∀ b o, X.base.get? b = some o → ¬ C2 b := fun b o e h => aw.base b o h e
  have bs2 : ∀ b o, X.base.get? b = some o → s2.heap.get? b = some o := fun b o e => t.keep b o (nb b o e) (I.bs b o e).2 (.inl ⟨o, e⟩) (I.bk b o e)
  have fsH : ∀ b ∈ X.fs, H b = none := fun b hb => by
    obtain ⟨_, o, ho, _⟩ := ok.funs.mem hb
    by_cases hx : b ∈ X.ex
    · exact absurd hb (ok.exfs b hx)
    · exact base.free b o ho (ok.frf b hb) hx
  refine ⟨⟨ok.mod, ok.kind, ok.glob, ok.blt, by show (preH _ _).objs.size ≤ _; rw [sz]; exact ok.above, ok.inj, ok.has, fun x c h1 h2 => by show (preH _ _).objs.size ≤ _; rw [sz]; exact ok.cab x c h1 h2, ok.hd, ok.frames, ok.stk, ok.exf, fun b o e => ⟨?_, (I.bs b o e).2⟩, by show _ ≤ (preH _ _).objs.size; rw [sz]; exact ok.bsz, ok.noex, ok.exfs, ?_, fsH⟩,
    rfl, t.bare, ⟨fun b o e _ _ _ => (preH_some e).2, fun b o e _ _ _ => ⟨o.slots, (preH_some e).2⟩, fun b o e n _ => n, fun b o e _ => ⟨o, (preH_some e).2⟩, fun b xs e => e, fun b o u e => e, fun b ps e => ⟨#[], by rw [show H b = _ from e]; simp⟩⟩, ?_, fun x c e => ?_, free, freeC, fun p hp => ?_, fun b u q => ?_, len⟩
  · exact preH_of (Heap.lt_size (ok.bs b o e).1) (bs2 b o e)
  · show (preH X.s_0.heap.objs.size s2.heap).FunFrames X.base X.outer
    refine funFrames_pre hf fun b hb => ?_
    obtain ⟨_, o, ho, _⟩ := ok.funs.mem hb
    exact Heap.lt_size ho
  · obtain ⟨m, ⟨o, es, ep, ho, hdat, r⟩, hl⟩ := loc
    have nl : ¬ C2 X.env.locals := fun h => aw.loc _ h rfl
    refine ⟨m, ⟨o, es, ep, t.keep _ o nl free (.inr ok.above) ho, hdat, r⟩, fun i x v h1 h2 h3 => ?_⟩
    obtain ⟨u, ru, lk⟩ := hl i x v h1 h2 h3
    refine ⟨u, ru, ?_⟩
    rcases lk with lk | ⟨hk, c, hc, o2, ho2, hd⟩
    · exact .inl lk
    · exact .inr ⟨hk, c, hc, o2, t.keep c o2 (fun h => aw.cell c h x c hc rfl) (freeC x c hc) (.inr (aw.cellN x c hc)) ho2, hd⟩
  · obtain ⟨v, o, ho, hd⟩ := cell x c e
    exact ⟨v, o, t.keep c o (fun h => aw.cell c h x c e rfl) (freeC x c e) (.inr (aw.cellN x c e)) ho, hd⟩
  · rcases List.mem_append.mp hp with hp | hp
    · obtain ⟨a1, a2⟩ := pin p (List.mem_append_left _ hp)
      exact ⟨t.keep _ _ (fun h => aw.pin _ h p (List.mem_append_left _ hp) rfl) a2.1 (.inr (aw.pinN p (List.mem_append_left _ hp))) a1, a2⟩
    · rcases List.mem_append.mp hp with hp | hp
      · obtain ⟨a1, a2⟩ := pin p (List.mem_append_right _ (hip p hp))
        exact ⟨t.keep _ _ (fun h => aw.pin _ h p (List.mem_append_right _ hp) rfl) a2.1 (.inr (aw.pinN p (List.mem_append_right _ hp))) a1, a2⟩
      · obtain ⟨h1, h2, h3, h4⟩ := ownPins_mem hp
        exact ⟨h1, aw.un _ h2, aw.loc _ h2, h3, h4⟩
  · exact t.hok b u q
abbrev re (X : Cx) (s : Shared) (H : Hp) : Cx := reX X s H X.xe
/-- the consumer's addresses when it wakes the generator at s -/
structure COk (X : Cx) (C : Addr → Prop) (s : Shared) : Prop where
  at_ : ∀ b, C b → ∃ o, s.heap.get? b = some o ∧ ((∀ v, o.data ≠ .cell v) ∨ b < X.s_0.heap.objs.size)
  fr : s.heap.FunFrames X.base X.outer
  size : X.s_0.heap.objs.size ≤ s.heap.objs.size
/-- running, woken at s₀ -/
structure GIx (X : Cx) (C : Addr → Prop) (s₀ : Shared) (ip : List (Addr × Obj)) (σ : L2.St) (H : Hp) (s : Shared) : Prop where
  w : COk X C s₀
  aw : Away X ip H C
  inv : ∃ HW pins, (∀ b, C b → HW b = none) ∧ Inv (re X s₀ HW) pins σ H s ∧ (∀ p ∈ ip, p ∈ pins) ∧ ∀ b o, C b → b ∉ X.fs → (∀ v, o.data ≠ .cell v) → s₀.heap.get? b = some o → (b, o) ∈ pins
theorem GIx.mk' {X : Cx} {C : Addr → Prop} {s₀ : Shared} {ip pins : List (Addr × Obj)} {σ : L2.St} {H HW : Hp} {s : Shared} (hx : X.ex = []) (hs : X.s_0.heap.FunFrames X.base X.outer) (w : COk X C s₀) (aw : Away X ip HW C) (I : Inv (re X s₀ HW) pins σ H s) (h1 : ∀ p ∈ ip, p ∈ pins)
    (h2 : ∀ b o, C b → b ∉ X.fs → (∀ v, o.data ≠ .cell v) → s₀.heap.get? b = some o → (b, o) ∈ pins) : GIx X C s₀ ip σ H s := by
  refine ⟨w, ⟨fun b hb => ?_, aw.loc, aw.cell, aw.pin, aw.base, aw.pinN, aw.cellN⟩, HW, pins, aw.un, I, h1, h2⟩
  obtain ⟨o, ho, hc⟩ := w.at_ b hb
  have old : b < X.s_0.heap.objs.size → H b = none := fun hlt => I.base.free b o (preH_of hlt ho) (aw.un b hb) (by show b ∉ X.ex; rw [hx]; exact List.not_mem_nil)
  by_cases hf : b ∈ X.fs
  · obtain ⟨_, o2, ho2, _⟩ := hs.mem hf
    exact old (Heap.lt_size ho2)
  rcases hc with hc | hc
  · exact (I.pin (b, o) (List.mem_append_right _ (h2 b o hb hf hc ho))).2.1
  · exact old hc
/-- what stood at the consumer's addresses stands there -/
theorem GIx.kept {X : Cx} {C : Addr → Prop} {s₀ : Shared} {ip : List (Addr × Obj)} {σ : L2.St} {H : Hp} {s : Shared} (hx : X.ex = []) (h : GIx X C s₀ ip σ H s) : ∀ b o, C b → s₀.heap.get? b = some o → (b ∉ X.fs → s.heap.get? b = some o) ∧ ∃ sl, s.heap.get? b = some { o with slots := sl } := fun b o hb ho => by
  obtain ⟨HW, pins, a1, I, a2, a3⟩ := h.inv
  obtain ⟨o', ho', hc⟩ := h.w.at_ b hb
  rw [ho] at ho'
  cases ho'
  have nx : b ∉ (re X s₀ HW).ex := by show b ∉ X.ex; rw [hx]; exact List.not_mem_nil
  by_cases hf : b ∈ X.fs
  · refine ⟨fun n => absurd hf n, ?_⟩
    rcases hc with hc | hc
    · obtain ⟨_, o2, ho2, _⟩ := I.ok.funs.mem hf
      exact I.base.slot b o (preH_of (preH_some ho2).1 ho) (a1 b hb) hf nx
    · exact I.base.slot b o (preH_of hc ho) (a1 b hb) hf nx
  · have q : s.heap.get? b = some o := by
      rcases hc with hc | hc
      · exact (I.pin (b, o) (List.mem_append_right _ (a3 b o hb hf hc ho))).1
      · exact I.base.keep b o (preH_of hc ho) (a1 b hb) hf nx
    exact ⟨fun _ => q, o.slots, q⟩
/-- woken again -/
theorem GIx.wake {X : Cx} {C C2 Gv : Addr → Prop} {s₀ s s2 : Shared} {ip : List (Addr × Obj)} {σ : L2.St} {H : Hp} (hx : X.ex = []) (hs : X.s_0.heap.FunFrames X.base X.outer) (h : GIx X C s₀ ip σ H s) (hG : ∀ b, Gv b → ∃ xs, H b = some (.lst xs)) (hC : ∀ b, C2 b → C b ∨ s.heap.objs.size ≤ b ∨ Gv b)
    (t : CTurn X (dropL Gv H) (fun b => C b ∨ s.heap.objs.size ≤ b ∨ Gv b) s s2) (w2 : COk X C2 s2) : GIx X C2 s2 ip σ (dropL Gv H) s2 := by
  obtain ⟨HW, pins, a1, I, a2, a3⟩ := h.inv
  have k0 : (preH X.s_0.heap.objs.size s₀.heap).objs.size = X.s_0.heap.objs.size := preH_size h.w.size
  have aw0 : Away (re X s₀ HW) ip H C := ⟨h.aw.un, h.aw.loc, h.aw.cell, h.aw.pin, h.aw.base, fun p hp => by show (preH _ _).objs.size ≤ _; rw [k0]; exact h.aw.pinN p hp, fun x c e => by show (preH _ _).objs.size ≤ _; rw [k0]; exact h.aw.cellN x c e⟩
  have aw1 := aw0.grow I a2 hG (C2 := fun b => C b ∨ s.heap.objs.size ≤ b ∨ Gv b) fun b h => h
  have aw2 : Away X ip (dropL Gv H) C2 := ⟨fun b hb => aw1.un b (hC b hb), fun b hb => aw1.loc b (hC b hb), fun b hb => aw1.cell b (hC b hb), fun b hb => aw1.pin b (hC b hb), fun b o hb => aw1.base b o (hC b hb), h.aw.pinN, h.aw.cellN⟩
  have t2 : CTurn (re X s₀ HW) (dropL Gv H) (fun b => C b ∨ s.heap.objs.size ≤ b ∨ Gv b) s s2 := ⟨t.os, t.bare, t.size, fun b o n h c e => t.keep b o n h (c.imp id fun z => by have z : (preH X.s_0.heap.objs.size s₀.heap).objs.size ≤ b := z; rw [k0] at z; exact z) e, t.hok⟩
  have I2 := inv_rebase (xe := X.xe) (inv_drop I hG) a2 aw1 t2 w2.fr
  have eX : reX (re X s₀ HW) s2 (dropL Gv H) X.xe = re X s2 (dropL Gv H) := by
    show ({ X with s_0 := { s2 with heap := preH (preH X.s_0.heap.objs.size s₀.heap).objs.size s2.heap }, H_0 := dropL Gv H, xe := X.xe } : Cx) = _
    rw [k0]
    rfl
  rw [eX] at I2
  exact GIx.mk' hx hs w2 aw2 I2 (fun p hp => List.mem_append_left _ hp) fun b o hb hf hc ho => List.mem_append_right _ (ownPins_of ho (hC b hb) hf hc)
end GN
set_option Elab.async false
set_option linter.all false
set_option maxRecDepth 100000
set_option maxHeartbeats 2000000
namespace GN
open PySem PySem.Spec PyProof.Rows L2 GenW
def YX (X : Cx) (N : Nat) (Item : Nat → V → Hp → (Addr → Prop) → Prop) : ProG (Addr → Prop) := fun C n s₀ v s kap =>
  ∃ ip σ H x Gv, RelV x v ∧ GIx X C s₀ ip σ H s ∧ n < N ∧ Item (N - 1 - n) x H Gv ∧ (∀ b, Gv b → ∃ xs, H b = some (.lst xs)) ∧
    ∀ C2 s2, (∀ b, C2 b → C b ∨ s.heap.objs.size ≤ b ∨ Gv b) → CTurn X (dropL Gv H) (fun b => C b ∨ s.heap.objs.size ≤ b ∨ Gv b) s s2 → COk X C2 s2 → kap C2 (.send .none) s2
/-- it ends, without an exception -/
def FX (X : Cx) (N : Nat) (Q : Nat → Hp → Prop) : EndG (Addr → Prop) := fun C n s₀ r s => (r = .ok (.ret .none) ∨ r = .ok .next) ∧ ∃ ip σ H, n ≤ N ∧ GIx X C s₀ ip σ H s ∧ Q (N - n) H
def GSPx (X : Cx) (C : Addr → Prop) (s₀ : Shared) (ip : List (Addr × Obj)) (D : GEnds) (ys : List V) (f : Flow) (s : Shared) : Prop :=
  match f with
  | .next => ∃ σ H, GIx X C s₀ ip σ H s ∧ D.nx ys σ H
  | .brk => ∃ σ H, GIx X C s₀ ip σ H s ∧ D.bk ys σ H
  | .cont => ∃ σ H, GIx X C s₀ ip σ H s ∧ D.ct ys σ H
  | .ret u => ∃ v σ H, GIx X C s₀ ip σ H s ∧ RelV v u ∧ D.rt ys v H
/-- where the generator's code stands -/
structure GCx (X : Cx) (A : Around) (c : Code) (fs : List Frame) (gd : Bool → Bool) : Prop where
  ex : X.ex = []
  fr : X.s_0.heap.FunFrames X.base X.outer
  over : A.over c fs = X.A
  split : splitAtGen fs = none
  guard : fs.any Frame.guarded = false
  gd : gd false = false
structure GKx (X : Cx) (N : Nat) (Item : Nat → V → Hp → (Addr → Prop) → Prop) (ip : List (Addr × Obj)) (A : Around) (R : EndG (Addr → Prop)) (c : Code) (fs : List Frame) (K : Flow → Sem PySem.Fin) (J : Value → Sem PySem.Fin) (D : GEnds) : Prop where
  ok : ∀ (n : Nat) (C : Addr → Prop) (ys : List V) (s₀ s : Shared) (f : Flow), n + ys.length = N → GSPx X C s₀ ip D ys f s → SegG (model X.prog X.w) A R (YX X N Item) n C s₀ c (K f) fs s
  exc : ∀ (n : Nat) (C : Addr → Prop) (s₀ : Shared) (e : Value) (s : Shared), X.xe e s → SegG (model X.prog X.w) A R (YX X N Item) n C s₀ c (J e) fs s
structure GSx (X : Cx) (N : Nat) (Item : Nat → V → Hp → (Addr → Prop) → Prop) (st : Stmt) (t : TGn) : Prop where
  run : ∀ (A : Around) (C : Addr → Prop) (ip : List (Addr × Obj)) (R : EndG (Addr → Prop)) (n : Nat) (ys : List V) (s₀ : Shared) (c : Code) (fs : List Frame) (K : Flow → Sem PySem.Fin) (J : Value → Sem PySem.Fin) (gd : Bool → Bool) (lv : List Value → List Value) (s : Shared) (σ : L2.St) (H : Hp) (D : GEnds),
    GCx X A c fs gd → n + ys.length = N → GKx X N Item ip A R c fs K J D → GIx X C s₀ ip σ H s → t D ys σ H →
    SegG (model X.prog X.w) A R (YX X N Item) n C s₀ c ((exec st X.env).wrap K J gd lv) fs s
structure GSsx (X : Cx) (N : Nat) (Item : Nat → V → Hp → (Addr → Prop) → Prop) (st : List Stmt) (t : TGn) : Prop where
  run : ∀ (A : Around) (C : Addr → Prop) (ip : List (Addr × Obj)) (R : EndG (Addr → Prop)) (n : Nat) (ys : List V) (s₀ : Shared) (c : Code) (fs : List Frame) (K : Flow → Sem PySem.Fin) (J : Value → Sem PySem.Fin) (gd : Bool → Bool) (lv : List Value → List Value) (s : Shared) (σ : L2.St) (H : Hp) (D : GEnds),
    GCx X A c fs gd → n + ys.length = N → GKx X N Item ip A R c fs K J D → GIx X C s₀ ip σ H s → t D ys σ H →
    SegG (model X.prog X.w) A R (YX X N Item) n C s₀ c ((execs st X.env).wrap K J gd lv) fs s
section
variable {X : Cx} {N : Nat} {Item : Nat → V → Hp → (Addr → Prop) → Prop} {st : Stmt} {rest : List Stmt}
theorem spx {C : Addr → Prop} {s₀ s' : Shared} {ip pins : List (Addr × Obj)} {HW : Hp} {D : GEnds} {ys : List V} {f : Flow} (hx : X.ex = []) (hs : X.s_0.heap.FunFrames X.base X.outer) (w : COk X C s₀) (aw : Away X ip HW C) (h1 : ∀ p ∈ ip, p ∈ pins)
    (h2 : ∀ b o, C b → b ∉ X.fs → (∀ v, o.data ≠ .cell v) → s₀.heap.get? b = some o → (b, o) ∈ pins) (h : SP (re X s₀ HW) pins (D.at ys) f s') : GSPx X C s₀ ip D ys f s' := by
  cases f with
  | next => obtain ⟨σ, H, I, q⟩ := h; exact ⟨σ, H, GIx.mk' hx hs w aw I h1 h2, q⟩
  | brk => obtain ⟨σ, H, I, q⟩ := h; exact ⟨σ, H, GIx.mk' hx hs w aw I h1 h2, q⟩
  | cont => obtain ⟨σ, H, I, q⟩ := h; exact ⟨σ, H, GIx.mk' hx hs w aw I h1 h2, q⟩
  | ret u => obtain ⟨v, σ, H, I, r1, q⟩ := h; exact ⟨v, σ, H, GIx.mk' hx hs w aw I h1 h2, r1, q⟩
/-- a statement that hands out nothing -/
theorem gsx_ps {t : TS} (h : ∀ s H, PS (re X s H) st t) : GSx X N Item st (tPlain t) := by
  refine ⟨fun A C ip R n ys s₀ c fs K J gd lv s σ H D g hn k hI ht => ?_⟩
  obtain ⟨w, aw, HW, pins, a1, I, a2, a3⟩ := hI
  refine sg_wrap ?_
  rw [g.over]
  exact wpAny_mono ((h s₀ HW).run pins s σ H (D.at ys) I ht) (fun f s' hs => k.ok n C ys s₀ s' f hn (spx g.ex g.fr w ⟨a1, aw.loc, aw.cell, aw.pin, aw.base, aw.pinN, aw.cellN⟩ a2 a3 hs)) fun x s' hx => k.exc n C s₀ x s' hx
theorem gssx_nil : GSsx X N Item [] tG0 := by
  refine ⟨fun A C ip R n ys s₀ c fs K J gd lv s σ H D g hn k hI ht => ?_⟩
  exact sg_nil (k.ok n C ys s₀ s .next hn ⟨σ, H, hI, ht⟩)
theorem gssx_cons {t u : TGn} (a : GSx X N Item st t) (b : GSsx X N Item rest u) : GSsx X N Item (st :: rest) (tGThen t u) := by
  refine ⟨fun A C ip R n ys s₀ c fs K J gd lv s σ H D g hn k hI ht => ?_⟩
  refine sg_cons ?_
  refine a.run A C ip R n ys s₀ c fs _ J gd lv s σ H { D with nx := fun ys' σ' H' => u D ys' σ' H' } g hn ⟨fun n' C' ys' s₀' s' f hn' hs => ?_, k.exc⟩ hI ht
  cases f with
  | next =>
    obtain ⟨σ', H', I', q⟩ := hs
    exact b.run A C' ip R n' ys' s₀' c fs K J gd lv s' σ' H' D g hn' k I' q
  | brk => exact k.ok n' C' ys' s₀' s' .brk hn' hs
  | cont => exact k.ok n' C' ys' s₀' s' .cont hn' hs
  | ret u => exact k.ok n' C' ys' s₀' s' (.ret u) hn' hs
/-- yield e -/
def tGYieldX (N : Nat) (Item : Nat → V → Hp → (Addr → Prop) → Prop) (te : TE) : TGn := fun D ys σ H => ys.length < N ∧ te σ H fun x H1 => ∃ Gv : Addr → Prop, (∀ b, Gv b → ∃ xs, H1 b = some (.lst xs)) ∧ Item ys.length x H1 Gv ∧ D.nx (ys ++ [x]) σ (dropL Gv H1)
theorem gsx_yield {e : Expr} {yp pos : Pos} {te : TE} (he : ∀ s H, PE (re X s H) e te) (hco : X.env.scope.isCoroutine = false := by rfl) (hi : interactive X.env = false := by rfl) : GSx X N Item (.Expr (.Yield (some e) yp) pos) (tGYieldX N Item te) := by
  refine ⟨fun A C ip R n ys s₀ c fs K J gd lv s σ H D g hn k hI ht => ?_⟩
  obtain ⟨hlt, ht⟩ := ht
  obtain ⟨n, rfl⟩ : ∃ m, n = m + 1 := ⟨n - 1, by omega⟩
  obtain ⟨w, aw, HW, pins, a1, I, a2, a3⟩ := hI
  refine sg_yieldE g.split g.gd g.guard ?_ hco hi
  rw [g.over]
  refine wpAny_mono ((he s₀ HW).run pins s σ H _ I ht) (fun v s' hv => ?_) fun x s' hx => k.exc _ C s₀ x s' hx
  obtain ⟨x, H1, I1, rv, Gv, hG, qi, q⟩ := hv
  have G1 : GIx X C s₀ ip σ H1 s' := GIx.mk' g.ex g.fr w ⟨a1, aw.loc, aw.cell, aw.pin, aw.base, aw.pinN, aw.cellN⟩ I1 a2 a3
  intro kap hk
  refine ⟨ip, σ, H1, x, Gv, rv, G1, by omega, by rw [show N - 1 - n = ys.length by omega]; exact qi, hG, fun C2 s2 hC ct w2 => hk C2 .none s2 ?_⟩
  refine k.ok n C2 (ys ++ [x]) s2 s2 .next ?_ ⟨σ, dropL Gv H1, G1.wake g.ex g.fr hG hC ct w2, q⟩
  rw [List.length_append, List.length_singleton]
  omega
theorem GIx.canon {C : Addr → Prop} {s₀ s : Shared} {ip : List (Addr × Obj)} {σ : L2.St} {H : Hp} (h : GIx X C s₀ ip σ H s) : ∃ HW, (∀ b, C b → HW b = none) ∧ Inv (re X s₀ HW) (ip ++ ownPins X C s₀.heap) σ H s := by
  obtain ⟨HW, pins, a1, I, a2, a3⟩ := h.inv
  refine ⟨HW, a1, I.pins_of fun p hp => ?_⟩
  rcases List.mem_append.mp hp with hp | hp
  · exact I.pin p (List.mem_append_right _ (a2 p hp))
  · obtain ⟨h1, h2, h3, h4⟩ := ownPins_mem hp
    exact I.pin p (List.mem_append_right _ (a3 p.1 p.2 h2 h3 h4 h1))
theorem own_in {C : Addr → Prop} {s₀ : Shared} {ip : List (Addr × Obj)} : ∀ b o, C b → b ∉ X.fs → (∀ v, o.data ≠ .cell v) → s₀.heap.get? b = some o → (b, o) ∈ ip ++ ownPins X C s₀.heap := fun b o hb hf hc ho => List.mem_append_right _ (ownPins_of ho hb hf hc)
theorem gsx_for {tg iter : Expr} {body : List Stmt} {wi : TI} {g : TG} {tb : TGn} {pos : Pos} (hp : PassesOwn (model X.prog X.w) X.A X.env X.xe) (hc : X.calm = true) (hi : ∀ s H, L2.PI (re X s H) tg iter wi) (hg : ∀ s H, PG (re X s H) tg g) (hb : GSsx X N Item body tb)
    (hs : ∀ x, foldedSetIterable iter X.env x = pure x := by intro _; rfl) : GSx X N Item (.For tg iter body [] pos) (tGFor wi g tb) := by
  refine ⟨fun A C ip R n ys s₀ c fs K J gd lv s σ H D gc hn k hI ht => ?_⟩
  obtain ⟨HW, a1, I⟩ := hI.canon
  have w0 := hI.w
  have aw0 := hI.aw
  rw [exec_For]
  refine sg_bind (wpAny_standAt ?_)
  refine sg_bind ?_
  rw [gc.over]
  refine wpAny_mono ((hi s₀ HW).run _ s σ H _ I ht) (fun v s1 h1 => ?_) fun x s' hx => k.exc n C s₀ x s' hx
  refine sg_bind (wpAny_of_eq (hs v) ?_)
  refine sg_bind (wpAny_standAt ?_)
  refine sg_bind (wpAny_holding ?_)
  rw [gc.over]
  refine wpAny_mono h1 (fun itv s2 h2 => ?_) fun x s' hx => k.exc n C s₀ x s' hx
  obtain ⟨it, fp, tn, Jt, H2, e, I2, T, st2, f2, U, ⟨m0, u0⟩, turn⟩ := h2
  subst e
  show SegG _ _ _ _ _ _ _ _ ((runOwn (.forLoop tg (.ref it) body [] X.env) X.env).wrap K J gd lv) fs s2
  refine sg_call fun p => ?_
  have k0 : ∀ {s : Shared}, X.s_0.heap.objs.size ≤ s.heap.objs.size → (preH X.s_0.heap.objs.size s.heap).objs.size = X.s_0.heap.objs.size := fun h => preH_size h
  -- what holds of the iterator's objects throughout
  have fpk : ∀ b ∈ fp, b ≠ X.env.locals ∧ b ∉ X.fs ∧ (b ∈ X.ex ∨ X.s_0.heap.objs.size ≤ b) ∧ (∀ x c, X.env.cells.lookup x = some c → c ≠ b) ∧ ∀ p ∈ X.pn ++ ip, p.1 ≠ b := fun b hb => by
    obtain ⟨_, q2, q3, q4, q5, q6⟩ := f2 b hb
    refine ⟨q2, q3, ?_, q5, fun p hp => q6 p ?_⟩
    · have q4 : b ∈ X.ex ∨ (preH X.s_0.heap.objs.size s₀.heap).objs.size ≤ b := q4
      rw [k0 w0.size] at q4
      exact q4
    · exact (List.mem_append.mp hp).elim (fun z => List.mem_append_left _ z) fun z => List.mem_append_right _ (List.mem_append_left _ z)
  have fpC : ∀ b ∈ fp, ¬ C b := fun b hb hC => by
    obtain ⟨_, _, q3, _, _, q6⟩ := f2 b hb
    obtain ⟨o, ho, hc⟩ := w0.at_ b hC
    rcases hc with hc | hc
    · exact q6 (b, o) (List.mem_append_right _ (own_in b o hC q3 hc ho)) rfl
    · rcases (fpk b hb).2.2.1 with z | z
      · rw [gc.ex] at z; exact List.not_mem_nil z
      · exact Nat.lt_irrefl _ (Nat.lt_of_lt_of_le hc z)
  have stat : ∀ {C : Addr → Prop} {s₀' : Shared} {HW' H' : Hp}, X.s_0.heap.objs.size ≤ s₀'.heap.objs.size → (∀ b ∈ fp, H' b = none ∧ ¬ C b) → ∀ b ∈ fp, FpOk (re X s₀' HW') (ip ++ ownPins X C s₀'.heap) H' b := fun {C s₀' HW' H'} hsz hn b hb => by
    obtain ⟨q2, q3, q4, q5, q6⟩ := fpk b hb
    refine ⟨(hn b hb).1, q2, q3, ?_, q5, fun p hp => ?_⟩
    · show b ∈ X.ex ∨ (preH X.s_0.heap.objs.size s₀'.heap).objs.size ≤ b
      rw [k0 hsz]
      exact q4
    · rcases List.mem_append.mp hp with hp | hp
      · exact q6 p (List.mem_append_left _ hp)
      · rcases List.mem_append.mp hp with hp | hp
        · exact q6 p (List.mem_append_right _ hp)
        · intro z
          have := (ownPins_mem hp).2.1
          rw [z] at this
          exact (hn b hb).2 this
  have gl : ∀ (c' : Code) (hw : c'.weight = 0) (hu : c'.cUnits = 0) (kk : Result → Sem PySem.Fin), GCx X A c' (.ret kk none (gd false) (lv []) c p [] :: fs) id := fun c' hw hu kk =>
    { ex := gc.ex, fr := gc.fr, over := (over_loop hw hu).trans gc.over,
      split := by
        show (splitAtGen fs).map _ = none
        rw [gc.split]; rfl
      guard := by
        show (gd false || fs.any Frame.guarded) = false
        rw [gc.gd, gc.guard]; rfl
      gd := rfl }
  have camex : ∀ (n : Nat) (C : Addr → Prop) (s₀ s : Shared) (e : Value), cameBackBy (model X.prog X.w) X.A X.env X.xe e s → SegG (model X.prog X.w) A R (YX X N Item) n C s₀ c (((Sem.raise e : Sem Flow).onRaise (cameBack X.env)).wrap K J gd lv) fs s := fun n C s₀ s e h => by
    show SegG _ _ _ _ _ _ _ _ (((cameBack X.env e).bind fun _ => (Sem.raise e : Sem Flow)).wrap K J gd lv) _ _
    rw [Sem.bind_eq_wrap, Sem.wrap_wrap]
    refine sg_wrap ?_
    rw [gc.over]
    exact wpAny_mono h (fun _ s' hx => k.exc n C s₀ e s' hx) fun x s' hx => k.exc n C s₀ x s' hx
  have loop : ∀ (m i n : Nat) (C : Addr → Prop) (ys : List V) (s₀ s : Shared) (σ : L2.St) (H : Hp), n + ys.length = N → U i m ys σ H → GIx X C s₀ ip σ H s → tn i s.heap → (∀ b ∈ fp, H b = none ∧ ¬ C b) →
      SegG (model X.prog X.w) A R (YX X N Item) n C s₀ (.forLoop tg (.ref it) body [] X.env) ((model X.prog X.w).den (.forLoop tg (.ref it) body [] X.env))
        (.ret (fun r => ((match r with | .ok f => (.pure f : Sem Flow) | .error e => .raise e).onRaise (cameBack X.env)).wrap K J gd lv) none (gd false) (lv []) c p [] :: fs) s := by
    intro m
    induction m using Nat.strongRecOn with
    | ind m ih =>
      intro i n C ys s₀ s σ H hn u hI st fr
      have ee : ∀ (n : Nat) (C : Addr → Prop) (s₀ : Shared) (x : Value) (s' : Shared), X.xe x s' → offG (model X.prog X.w) A R (YX X N Item) n C s₀ (.forLoop tg (.ref it) body [] X.env)
          (.ret (fun r => ((match r with | .ok f => (.pure f : Sem Flow) | .error e => .raise e).onRaise (cameBack X.env)).wrap K J gd lv) none (gd false) (lv []) c p [] :: fs) X.env x s' := fun n C s₀ x s' hx => by
        refine sg_wrap ?_
        rw [(gl (.forLoop tg (.ref it) body [] X.env) rfl rfl _).over]
        refine wpAny_bind (wpAny_mono (hp x s' hx) (fun _ s'' hcb => wpAny_theTreesLotGoes ?_) fun y s'' hcb => ?_)
        · exact sg_leaf (.error x) (camex n C s₀ s'' x hcb)
        · exact sg_leaf (.error y) (camex n C s₀ s'' y hcb)
      refine sg_forTurn ?_
      rw [(gl (.forLoop tg (.ref it) body [] X.env) rfl rfl _).over]
      obtain ⟨HW, a1, I⟩ := hI.canon
      have w1 := hI.w
      have awW : Away X ip HW C := ⟨a1, hI.aw.loc, hI.aw.cell, hI.aw.pin, hI.aw.base, hI.aw.pinN, hI.aw.cellN⟩
      rcases turn i m ys σ H u with ⟨stop, qn⟩ | ⟨go, Nn, hN, step⟩
      · refine wpAny_mono (T.done (re X s₀ HW) rfl rfl rfl hc i _ s σ H X.xe I (stat w1.size fr) st stop) (fun r1 s4 ⟨hr, I4⟩ => ?_) fun x s' hx => ee n C s₀ x s' hx
        subst hr
        refine sg_again rfl (sg_block0 ?_)
        exact sg_leaf (.ok .next) (k.ok n C ys s₀ s4 .next hn ⟨σ, H, GIx.mk' gc.ex gc.fr w1 awW I4 (fun p hp => List.mem_append_left _ hp) own_in, qn⟩)
      · refine wpAny_mono (T.item (re X s₀ HW) rfl rfl rfl hc i _ s σ H X.xe I (stat w1.size fr) st go) (fun r1 s4 ⟨v, hr, h4⟩ => ?_) fun x s' hx => ee n C s₀ x s' hx
        subst hr
        refine wpAny_mono h4 (fun _ s5 ⟨x, H5, I5, r5, y5, st5, fr5⟩ => ?_) fun x s' hx => ee n C s₀ x s' hx
        have I5' := I5.pinned (stat w1.size fun b hb => ⟨fr5 b hb, (fr b hb).2⟩) (T.obj _ _ st5)
        refine wpAny_mono ((hg s₀ HW).run _ s5 σ H5 x v _ I5' r5 (step x H5 y5)) (fun _ s6 ⟨σ6, H6, I6, q6⟩ => ?_) fun x s' hx => ee n C s₀ x s' hx
        have aw6 : Away X (ip ++ pinsAt fp s5.heap) HW C := ⟨a1, hI.aw.loc, hI.aw.cell, fun b hC q hq z => by
          rcases List.mem_append.mp hq with hq | hq
          · exact hI.aw.pin b hC q (List.mem_append_left _ hq) z
          · rcases List.mem_append.mp hq with hq | hq
            · exact hI.aw.pin b hC q (List.mem_append_right _ hq) z
            · have := (of_pinsAt hq).1
              rw [z] at this
              exact (fr b this).2 hC, hI.aw.base, fun q hq => by
          rcases List.mem_append.mp hq with hq | hq
          · exact hI.aw.pinN q (List.mem_append_left _ hq)
          · rcases List.mem_append.mp hq with hq | hq
            · exact hI.aw.pinN q (List.mem_append_right _ hq)
            · rcases (fpk q.1 (of_pinsAt hq).1).2.2.1 with z | z
              · rw [gc.ex] at z; exact absurd z List.not_mem_nil
              · exact z, hI.aw.cellN⟩
        have G6 : GIx X C s₀ (ip ++ pinsAt fp s5.heap) σ6 H6 s6 := GIx.mk' gc.ex gc.fr w1 aw6 I6 (fun q hq => by
          rcases List.mem_append.mp hq with hq | hq
          · exact List.mem_append_left _ (List.mem_append_left _ hq)
          · exact List.mem_append_right _ hq) fun b o hb hf hc ho => List.mem_append_left _ (own_in b o hb hf hc ho)
        have pinned : ∀ {C : Addr → Prop} {s₀' s' : Shared} {σ' : L2.St} {H' : Hp}, GIx X C s₀' (ip ++ pinsAt fp s5.heap) σ' H' s' → GIx X C s₀' ip σ' H' s' ∧ (∀ b ∈ fp, H' b = none ∧ ¬ C b) ∧ ∀ b ∈ fp, ∀ o, s5.heap.get? b = some o → s'.heap.get? b = some o := fun {C s₀' s' σ' H'} G => by
          obtain ⟨HW', pins', b1, I', b2, b3⟩ := G.inv
          have at_ : ∀ b ∈ fp, ∀ o, s5.heap.get? b = some o → (b, o) ∈ ip ++ pinsAt fp s5.heap := fun b hb o e => List.mem_append_right _ (mem_pinsAt hb e)
          refine ⟨⟨G.w, ⟨G.aw.un, G.aw.loc, G.aw.cell, fun b hC q hq => G.aw.pin b hC q ((List.mem_append.mp hq).elim (fun z => List.mem_append_left _ z) fun z => List.mem_append_right _ (List.mem_append_left _ z)), G.aw.base, fun q hq => G.aw.pinN q ((List.mem_append.mp hq).elim (fun z => List.mem_append_left _ z) fun z => List.mem_append_right _ (List.mem_append_left _ z)), G.aw.cellN⟩, HW', pins', b1, I', fun q hq => b2 q (List.mem_append_left _ hq), b3⟩, fun b hb => ?_, fun b hb o e => ?_⟩
          · obtain ⟨o, e, _⟩ := T.obj _ _ st5 b hb
            exact ⟨(I'.pin (b, o) (List.mem_append_right _ (b2 _ (at_ b hb o e)))).2.1, fun hC => G.aw.pin b hC (b, o) (List.mem_append_right _ (at_ b hb o e)) rfl⟩
          · exact (I'.pin (b, o) (List.mem_append_right _ (b2 _ (at_ b hb o e)))).1
        have again : ∀ {ys' : List V} {σ7 : L2.St} {H7 : Hp} {s7 : Shared} {n' : Nat} {C' : Addr → Prop} {s₀' : Shared}, n' + ys'.length = N → GIx X C' s₀' (ip ++ pinsAt fp s5.heap) σ7 H7 s7 → Nn ys' σ7 H7 →
            SegG (model X.prog X.w) A R (YX X N Item) n' C' s₀' (.forLoop tg (.ref it) body [] X.env) (.pure (.again (.forLoop tg (.ref it) body [] X.env)))
              (.ret (fun r => ((match r with | .ok f => (.pure f : Sem Flow) | .error e => .raise e).onRaise (cameBack X.env)).wrap K J gd lv) none (gd false) (lv []) c p [] :: fs) s7 := fun {ys' σ7 H7 s7 n' C' s₀'} hn' G7 n7 => by
          obtain ⟨m', hm, u7⟩ := hN _ _ _ n7
          obtain ⟨G8, f8, k8⟩ := pinned G7
          exact sg_again rfl (ih m' hm (i + 1) n' C' ys' s₀' s7 σ7 H7 hn' u7 G8 (T.keep _ _ _ st5 k8) f8)
        refine hb.run A C (ip ++ pinsAt fp s5.heap) R n ys s₀ _ _ _ _ id id s6 σ6 H6 { D with nx := Nn, ct := Nn, bk := D.nx } (gl (.forLoop tg (.ref it) body [] X.env) rfl rfl _) hn ⟨fun n' C' ys' s₀' s3 f hn' hs' => ?_, fun n' C' s₀' x s3 hx => ee n' C' s₀' x s3 hx⟩ G6 q6
        cases f with
        | next =>
          obtain ⟨σ3, H3, G3, n3⟩ := hs'
          exact again hn' G3 n3
        | cont =>
          obtain ⟨σ3, H3, G3, n3⟩ := hs'
          exact again hn' G3 n3
        | brk =>
          obtain ⟨σ3, H3, G3, q3⟩ := hs'
          exact sg_leaf (.ok .next) (k.ok n' C' ys' s₀' s3 .next hn' ⟨σ3, H3, (pinned G3).1, q3⟩)
        | ret v =>
          obtain ⟨v3, σ3, H3, G3, q3⟩ := hs'
          exact sg_leaf (.ok (.ret v)) (k.ok n' C' ys' s₀' s3 (.ret v) hn' ⟨v3, σ3, H3, (pinned G3).1, q3⟩)
  exact loop m0 0 n C ys s₀ s2 σ H2 hn u0 (GIx.mk' gc.ex gc.fr w0 ⟨a1, aw0.loc, aw0.cell, aw0.pin, aw0.base, aw0.pinN, aw0.cellN⟩ I2 (fun p hp => List.mem_append_left _ hp) own_in) st2 fun b hb => ⟨(f2 b hb).1, fpC b hb⟩
end
end GN
set_option Elab.async false
set_option linter.all false
set_option maxRecDepth 100000
set_option maxHeartbeats 2000000
namespace GN
open PySem PySem.Spec PyProof.Rows L2 GenW
abbrev gcxN (P : Program) (w : World) (K : PySem.W.Frag) (mg : Str → Option Value) (base : Heap) (Ns : List Str) (qual : Str) (scope : Scope) (f : Addr) (cd : Value) (A : Around) (outer : List Env) (s : Shared) (H : Hp) (pn : List (Addr × Obj)) : Cx :=
  { gcxOf P w K mg base Ns qual scope f cd A outer s H (fun _ _ _ => False) pn with xe := fun _ _ => False }
/-- the arguments, the heap; the most items, each item, the end -/
abbrev SpGX := List V → Hp → Nat → (Nat → V → Hp → (Addr → Prop) → Prop) → (Nat → Hp → Prop) → Prop
/-- what a call gives: a generator that has not begun; it may be woken at any later state -/
def GMadeX (P : Program) (w : World) (base : Heap) (k : Nat) (outer : List Env) (H : Hp) (s : Shared) (N : Nat) (Item : Nat → V → Hp → (Addr → Prop) → Prop) (Q : Nat → Hp → Prop) (u : Value) (s' : Shared) : Prop :=
  ∃ (a : Addr) (g : Nat) (c : Code), u = .ref a ∧ s.heap.objs.size ≤ a ∧ a < s'.heap.objs.size ∧ s'.heap.IsGen a g ∧ s'.gens[g]? = some (.fresh c) ∧ s'.os = s.os ∧ AllBare s'.gens ∧ s'.heap.NoLimit ∧ (∀ b o, s.heap.get? b = some o → s'.heap.get? b = some o) ∧
    ∀ (A : Around), Room k A → A.frames = some outer → ∃ X : Cx, X.prog = P ∧ X.w = w ∧ X.outer = outer ∧ X.base = base ∧ X.ex = [] ∧ X.s_0 = s ∧ X.H_0 = H ∧ (∃ go, X.pn = [(a, go)] ∧ s'.heap.get? a = some go) ∧
      ∀ (C : Addr → Prop) (s2 : Shared), (∀ b, C b → H b = none) → (∀ b, C b → (b < s.heap.objs.size ∧ base.get? b = none) ∨ s'.heap.objs.size ≤ b) → CTurn X H C s' s2 → COk X C s2 →
        SegG (model P w) A (FX X N Q) (YX X N Item) N C s2 c ((model P w).den c) [] s2
structure GFnX (P : Program) (w : World) (K : PySem.W.Frag) (mg : Str → Option Value) (base : Heap) (k : Nat) (f : Addr) (fd : FuncData) (ps : List Str) (sp : SpGX) : Prop where
  len : ∀ vs H N I Q, sp vs H N I Q → vs.length = ps.length
  run : ∀ (A : Around) (outer : List Env) (s : Shared) (H : Hp) (args : Args) (us : List Value) (vs : List V) (N : Nat) (Item : Nat → V → Hp → (Addr → Prop) → Prop) (Q : Nat → Hp → Prop), Room k A → Env0 P w K mg base A outer s H → BindsTo s fd args (ps.zip us) → Vals vs us → sp vs H N Item Q →
    codeAny (model P w) A (.call (.ref f) args) (fun r s' => match r with | .ok (.ret u) => GMadeX P w base k outer H s N Item Q u s' | _ => False) s
theorem gfnx_of {P : Program} {w : World} {K : PySem.W.Frag} {mg : Str → Option Value} {base : Heap} {k : Nat} {f : Addr} {name qual : Str} {params : Arguments} {body : List Stmt} {scope : Scope} {dV kV doc pm cdv ct oc : Value} {an od : Option Addr}
    {osl : Array (Option Value)} {Ns ps : List Str} {sp : SpGX} (lk : K.lookup f = some ⟨oc, od, .func (PySem.W.fnOf name qual params body scope dV kV doc pm an cdv ct), osl⟩) (hcd : PySem.W.codeIn K cdv qual = true) (S : GScope Ns ps scope)
    (len : ∀ vs H N I Q, sp vs H N I Q → vs.length = ps.length)
    (hbody : ∀ (A : Around) (outer : List Env) (s : Shared) (H : Hp) (vs : List V) (N : Nat) (Item : Nat → V → Hp → (Addr → Prop) → Prop) (Q : Nat → Hp → Prop) (pn : List (Addr × Obj)), Room k (A.deeper (envOfC qual scope s.heap.objs.size f cdv)) → sp vs H N Item Q →
      ∃ t, GSsx (gcxN P w K mg base Ns qual scope f cdv A outer s H pn) N Item body t ∧ t { nx := fun ys _ H' => Q ys.length H', rt := fun ys v H' => v = .non ∧ Q ys.length H' } [] (start Ns vs) H) :
    GFnX P w K mg base (k + 1) f (PySem.W.fnOf name qual params body scope dV kV doc pm an cdv ct) ps sp := by
  refine ⟨len, fun A outer s H args us vs N Item Q hr e0 hb r hsp => ?_⟩
  have hl := len _ _ _ _ _ hsp
  have KX : K.In s.heap := e0.mod.kin.keeps fun b o e => (e0.bs b o e).1
  have lim : s.heap.NoLimit := e0.mod.nolimit.keeps fun b o e => (e0.bs b o e).1
  have hkind : ∀ y ∈ ps.zip us, scope.names.lookup y.1 = some .local ∨ (scope.names.lookup y.1 = some .cell ∧ ((cellsFrom (s.heap.objs.size + 1) scope.names []).lookup y.1).isSome = true) := fun ⟨n, v⟩ hy => by
    rcases S.par n (List.of_mem_zip hy).1 with q | q
    · exact .inl q
    · exact .inr ⟨q, PySem.W.cellsFrom_some _ _ _ (.inl q)⟩
  refine codeAny_call_generator hr.depth (KX _ _ lk) rfl S.co S.gen rfl (PySem.W.codeRec_of KX hcd) (hb _ _ _ _ ?_)
  refine wpAny_newFunctionEnv_cells S.kind hkind fun env he s1 x => ?_
  subst he
  have lim1 : s1.heap.NoLimit := lim.keeps x.toInCall.keep
  refine ⟨lim1, ?_⟩
  obtain ⟨h1, tk, es1, hk1⟩ := x.done
  have os1 : s1.os = s.os := by rw [es1]
  have gen1 : s1.gens = s.gens := by rw [es1]
  have lt1 : s.heap.objs.size < s1.heap.objs.size := x.toInCall.ns.lt
  have kp1 : ∀ b o, s.heap.get? b = some o → s1.heap.get? b = some o := x.toInCall.keep
  have main : ∀ (go : Obj) (nm qn : Value) (tk2 : Nat), go.cls = .type "generator" → go.data = .fields #[.int s1.gens.size 0, nm, qn] → go.slots = #[] → (∀ h : Heap, (h.push go).get? h.objs.size = some go) →
      GMadeX P w base (k + 1) outer H s N Item Q (.ref s1.heap.objs.size) { s1 with gens := s1.gens.push (.fresh (.func body (envOfC qual scope s.heap.objs.size f cdv))), toks := tk2, heap := s1.heap.push go } := by
    intro go nm qn tk2 hgc hgd0 hgs hgp
    have hpushed : (s1.heap.push go).get? s1.heap.objs.size = some go := hgp _
    have hgd : ∀ v, go.data ≠ .cell v := fun v q => by rw [hgd0] at q; cases q
    have bare' : AllBare (s1.gens.push (.fresh (.func body (envOfC qual scope s.heap.objs.size f cdv)))) := AllBare.push (by rw [gen1]; exact e0.bare) rfl
    refine ⟨s1.heap.objs.size, s1.gens.size, _, rfl, Nat.le_of_lt lt1, ?_, ⟨go, nm, qn, hpushed, hgc, hgd0, hgs⟩, Array.getElem?_push_size .., os1, bare', lim1.keeps fun b o e => Heap.get?_push_of_some _ e, fun b o e => Heap.get?_push_of_some _ (kp1 b o e), ?_⟩
    · show _ < (s1.heap.push _).objs.size
      rw [Heap.size_push]; exact Nat.lt_succ_self _
    intro Aw hrw hfr
    have e0w : Env0 P w K mg base Aw outer s H := ⟨hfr, e0.mod, e0.bs, e0.bsz, e0.funs, e0.frf, e0.hok, e0.bare⟩
    obtain ⟨t, ht, hq⟩ := hbody Aw outer s H vs N Item Q [(s1.heap.objs.size, go)] (hrw.deeper _) hsp
    have I1 : Inv (gcxOf P w K mg base Ns qual scope f cdv Aw outer s H (fun _ _ _ => False) []) [] (start Ns vs) H s1 := inv_startG S hrw.hd e0w hl r x
    have sz' : (s1.heap.push go).objs.size = s1.heap.objs.size + 1 := Heap.size_push ..
    have I2 : Inv (gcxOf P w K mg base Ns qual scope f cdv Aw outer s H (fun _ _ _ => False) []) [] (start Ns vs) H { s1 with gens := s1.gens.push (.fresh (.func body (envOfC qual scope s.heap.objs.size f cdv))), toks := tk2, heap := s1.heap.push go } :=
      I1.call' (ch := []) rfl (Un.kept fun b o e => Heap.get?_push_of_some _ e) (I1.hok.kept fun b o e => Heap.get?_push_of_some _ e) bare' fun b z => by simp at z
    have I3 : Inv (gcxOf P w K mg base Ns qual scope f cdv Aw outer s H (fun _ _ _ => False) [(s1.heap.objs.size, go)]) [] (start Ns vs) H { s1 with gens := s1.gens.push (.fresh (.func body (envOfC qual scope s.heap.objs.size f cdv))), toks := tk2, heap := s1.heap.push go } :=
      Inv.pinnedG I2 fun p hp => by
        have hp : p = (s1.heap.objs.size, go) := by simpa using hp
        rw [hp]
        exact ⟨hpushed, I1.hok.fresh (Nat.le_refl _), Nat.ne_of_gt lt1, I1.nofs (Nat.le_refl _), hgd⟩
    have I4 : Inv (gcxN P w K mg base Ns qual scope f cdv Aw outer s H [(s1.heap.objs.size, go)]) [] (start Ns vs) H { s1 with gens := s1.gens.push (.fresh (.func body (envOfC qual scope s.heap.objs.size f cdv))), toks := tk2, heap := s1.heap.push go } := I3.wish fun _ _ => False
    refine ⟨gcxN P w K mg base Ns qual scope f cdv Aw outer s H [(s1.heap.objs.size, go)], rfl, rfl, rfl, rfl, rfl, rfl, rfl, ⟨go, rfl, hpushed⟩, fun C s2 hCH hCb hct wk => ?_⟩
    have aw : Away (gcxN P w K mg base Ns qual scope f cdv Aw outer s H [(s1.heap.objs.size, go)]) [] H C := by
      have sp' : ∀ b, C b → b < s.heap.objs.size ∨ s1.heap.objs.size < b := fun b h => (hCb b h).elim (fun z => .inl z.1) fun z => .inr (by
        have z : (s1.heap.push go).objs.size ≤ b := z
        rw [sz'] at z
        exact z)
      refine ⟨hCH, fun b h z => ?_, fun b h y c e z => ?_, fun b h p hp z => ?_, fun b o h e => ?_, fun p hp => ?_, fun y c e => Nat.le_of_lt (x.above y c (PySem.mem_of_lookup e))⟩
      · have z : b = s.heap.objs.size := z
        rcases sp' b h with q | q
        · rw [z] at q; exact Nat.lt_irrefl _ q
        · rw [z] at q; exact Nat.lt_irrefl _ (Nat.lt_trans q lt1)
      · obtain ⟨v, ob, ho, _⟩ := I1.cell y c e
        have c1 : c < s1.heap.objs.size := Heap.lt_size ho
        have c0 : s.heap.objs.size ≤ c := Nat.le_of_lt (x.above y c (PySem.mem_of_lookup e))
        rcases sp' b h with q | q
        · rw [z] at c0; exact Nat.lt_irrefl _ (Nat.lt_of_lt_of_le q c0)
        · rw [z] at c1; exact Nat.lt_irrefl _ (Nat.lt_trans q c1)
      · have hp : p ∈ [(s1.heap.objs.size, go)] ++ ([] : List (Addr × Obj)) := hp
        rw [List.append_nil] at hp
        rw [List.mem_singleton.mp hp] at z
        have z : s1.heap.objs.size = b := z
        rcases sp' b h with q | q
        · rw [← z] at q; exact Nat.lt_irrefl _ (Nat.lt_trans q lt1)
        · rw [← z] at q; exact Nat.lt_irrefl _ q
      · have e : base.get? b = some o := e
        rcases hCb b h with q | q
        · rw [q.2] at e; cases e
        · have q : (s1.heap.push go).objs.size ≤ b := q
          rw [sz'] at q
          exact Nat.lt_irrefl _ (Nat.lt_trans (Nat.lt_of_lt_of_le (Heap.lt_size (e0.bs b o e).1) (Nat.le_of_lt lt1)) q)
      · have hp : p ∈ [(s1.heap.objs.size, go)] ++ ([] : List (Addr × Obj)) := hp
        rw [List.append_nil] at hp
        rw [List.mem_singleton.mp hp]
        exact Nat.le_of_lt lt1
    have G0 : GIx (gcxN P w K mg base Ns qual scope f cdv Aw outer s H [(s1.heap.objs.size, go)]) C s2 [] (start Ns vs) H s2 :=
      GIx.mk' rfl e0.funs wk aw (inv_rebase I4 (ip := []) (fun p hp => (nomatch hp)) aw hct wk.fr) (fun p hp => (nomatch hp)) own_in
    refine sg_func ?_
    refine ht.run Aw C [] _ N [] s2 _ [] _ _ id id s2 (start Ns vs) H _ ⟨rfl, e0.funs, over_func, rfl, rfl, rfl⟩ (Nat.add_zero _) ⟨fun n C' ys s₀ s' fl hn hs => ?_, fun n C' s₀ e s' hx => hx.elim⟩ G0 hq
    have le : n ≤ N := by omega
    have e1 : N - n = ys.length := by omega
    cases fl with
    | next =>
      obtain ⟨σ', H', hI, hQ⟩ := hs
      exact sg_end (.ok (.ret .none)) ⟨.inl rfl, [], σ', H', le, hI, by rw [e1]; exact hQ⟩
    | brk => obtain ⟨_, _, _, q⟩ := hs; exact False.elim q
    | cont => obtain ⟨_, _, _, q⟩ := hs; exact False.elim q
    | ret u =>
      obtain ⟨v, σ', H', hI, rv, ev, hQ⟩ := hs
      subst ev
      have eu : u = Value.none := rv
      subst eu
      exact sg_end (.ok (.ret .none)) ⟨.inl rfl, [], σ', H', le, hI, by rw [e1]; exact hQ⟩
  exact main _ _ _ _ rfl rfl rfl fun h => Heap.get?_push_size _ rfl
end GN
set_option Elab.async false
set_option linter.all false
set_option maxRecDepth 100000
set_option maxHeartbeats 2000000
namespace GN
open PySem PySem.Spec
/-- places that were there already don't come to life; no generator is forgotten -/
structure Gone (s s' : Shared) : Prop where
  size : s.heap.objs.size ≤ s'.heap.objs.size
  gone : ∀ b, b < s.heap.objs.size → s.heap.get? b = none → s'.heap.get? b = none
  gens : s.gens.size ≤ s'.gens.size
theorem setGen_sz (s : Shared) (g : Nat) (x : GenState) : (s.setGen g x).gens.size = s.gens.size := by simp [Shared.setGen]
theorem Gone.same {s s' : Shared} (h : s'.heap = s.heap) (g : s.gens.size ≤ s'.gens.size := by first | exact Nat.le_refl _ | (rw [setGen_sz]; exact Nat.le_refl _)) : Gone s s' :=
  ⟨by rw [h]; exact Nat.le_refl _, fun _ _ q => by rw [h]; exact q, g⟩
theorem Gone.trans {s s1 s2 : Shared} (a : Gone s s1) (b : Gone s1 s2) : Gone s s2 := ⟨Nat.le_trans a.1 b.1, fun x h e => b.2 x (Nat.lt_of_lt_of_le h a.1) (a.2 x h e), Nat.le_trans a.3 b.3⟩
theorem Gone.upd {s s' : Shared} {a : Addr} {f : Obj → Obj} (h : s'.heap = s.heap.update a f) (ha : (s.heap.get? a).isSome) (g : s.gens.size ≤ s'.gens.size := by exact Nat.le_refl _) : Gone s s' := by
  refine ⟨by rw [h, Heap.size_update]; exact Nat.le_refl _, fun b _ e => ?_, g⟩
  rw [h, Heap.get?_update_ne _ _ _ _ fun z => ?_]
  · exact e
  · rw [← z, e] at ha
    cases ha
theorem Gone.push {s s' : Shared} {o : Obj} (h : s'.heap = s.heap.push o) (g : s.gens.size ≤ s'.gens.size := by exact Nat.le_refl _) : Gone s s' := by
  refine ⟨by rw [h, Heap.size_push]; exact Nat.le_succ _, fun b hb e => ?_, g⟩
  rw [h, Heap.get?_push_ne _ _ _ (Nat.ne_of_lt hb)]
  exact e
theorem push_sz (s : Shared) (x : GenState) : s.gens.size ≤ ({ s with gens := s.gens.push x } : Shared).gens.size := by
  show _ ≤ (s.gens.push x).size
  rw [Array.size_push]
  exact Nat.le_succ _
theorem Gone.unset {s s' : Shared} {g : Nat} {x : GenState} (h : Gone (s.setGen g x) s') : Gone s s' := ⟨h.size, h.gone, by rw [← setGen_sz s g x]; exact h.gens⟩
theorem runs_gone {M : Model} {Γ : PySem.Ctx} {p : Pos} {t : Sem PySem.Fin} {fs : List Frame} {s : Shared} {e : End} {s' : Shared} (h : Runs M Γ p t fs s e s') : Gone s s' := by
  induction h with
  | done => exact .same rfl
  | raise => exact .same rfl
  | yield => exact .same rfl
  | again _ _ ih => exact ih
  | rule _ ih => exact ih
  | «at» _ ih => exact ih
  | load _ _ ih => exact ih
  | update ha _ ih => exact (Gone.upd rfl ha).trans ih
  | loadIfAlive _ ih => exact ih
  | point _ ih => exact ih
  | alloc _ ih => exact (Gone.push rfl).trans ih
  | fresh _ ih => exact ⟨ih.size, ih.gone, ih.gens⟩
  | ask _ ih => exact ih
  | choose _ _ ih => exact ⟨ih.size, ih.gone, ih.gens⟩
  | os _ ih => exact ⟨ih.size, ih.gone, ih.gens⟩
  | handled _ ih => exact ih
  | genState _ _ ih => exact ih
  | stack _ ih => exact ih
  | thread _ ih => exact ih
  | newGen _ ih => exact ⟨ih.size, ih.gone, Nat.le_trans (push_sz _ _) ih.gens⟩
  | call _ _ ih1 ih2 => exact ih1.trans ih2
  | callSusp _ ih => exact ih
  | resumeFresh _ _ _ _ ih1 ih2 => exact ih1.unset.trans ih2.unset
  | resumeSuspended _ _ _ _ ih1 ih2 => exact ih1.unset.trans ih2.unset
  | resumeJustStarted _ _ _ ih => exact ih
  | resumeThrowFresh _ _ ih => exact ih.unset
  | resumeRunning _ _ ih => exact ih
  | resumeFinished _ _ ih => exact ih
  | segRet _ _ ih1 ih2 => exact ih1.trans ih2
  | segGen _ _ ih1 ih2 => exact ih1.trans ih2.unset
  | segSuspOut _ _ ih => exact ih
  | segSuspGen _ _ _ _ ih1 ih2 => exact ih1.trans ih2.unset
def deadEnd : Resume → Sem PySem.Fin := fun _ => .unsupported ""
structure Rel (D : Nat → Prop) (s0 s : Shared) : Prop where
  heap : s0.heap = s.heap
  os : s0.os = s.os
  drawn : s0.drawn = s.drawn
  toks : s0.toks = s.toks
  size : s0.gens.size = s.gens.size
  lt : ∀ j, D j → j < s0.gens.size
  at_ : ∀ j g0, s0.gens[j]? = some g0 → (D j ∧ ∃ k l c p fs cl, g0 = .suspended k l c p fs cl ∧ s.gens[j]? = some (.suspended deadEnd l c p fs cl)) ∨ (¬ D j ∧ s.gens[j]? = some g0 ∧ ∀ k l c p fs cl, g0 = .suspended k l c p fs cl → splitAtGen fs = none)
theorem Rel.back {D : Nat → Prop} {s0 s : Shared} (r : Rel D s0 s) {j : Nat} {g : GenState} (h : s.gens[j]? = some g) : ∃ g0, s0.gens[j]? = some g0 := by
  have : j < s.gens.size := by
    obtain ⟨h1, _⟩ := Array.getElem?_eq_some_iff.mp h
    exact h1
  rw [← r.size] at this
  exact ⟨_, Array.getElem?_eq_getElem this⟩
theorem Rel.get {D : Nat → Prop} {s0 s : Shared} (r : Rel D s0 s) {j : Nat} {g : GenState} (h : s.gens[j]? = some g) :
    (D j ∧ ∃ k l c p fs cl, s0.gens[j]? = some (.suspended k l c p fs cl) ∧ g = .suspended deadEnd l c p fs cl) ∨ (¬ D j ∧ s0.gens[j]? = some g ∧ ∀ k l c p fs cl, g = .suspended k l c p fs cl → splitAtGen fs = none) := by
  obtain ⟨g0, h0⟩ := r.back h
  rcases r.at_ j g0 h0 with ⟨hd, k, l, c, p, fs, cl, e, h1⟩ | ⟨hd, h1, h2⟩
  · rw [h] at h1
    cases h1
    exact .inl ⟨hd, k, l, c, p, fs, cl, by rw [h0, e], rfl⟩
  · rw [h] at h1
    cases h1
    exact .inr ⟨hd, h0, h2⟩
theorem Rel.set {D : Nat → Prop} {s0 s : Shared} (r : Rel D s0 s) {g : Nat} {x : GenState} (hg : ¬ D g) (hx : ∀ k l c p fs cl, x = .suspended k l c p fs cl → splitAtGen fs = none) : Rel D (s0.setGen g x) (s.setGen g x) := by
  refine ⟨r.heap, r.os, r.drawn, r.toks, by rw [setGen_sz, setGen_sz]; exact r.size, fun j hj => by rw [setGen_sz]; exact r.lt j hj, fun j g0 h => ?_⟩
  have h : (s0.gens.setIfInBounds g x)[j]? = some g0 := h
  show _ ∨ (_ ∧ (s.gens.setIfInBounds g x)[j]? = _ ∧ _)
  by_cases e : g = j
  · subst e
    refine .inr ⟨hg, ?_⟩
    have hl : g < s0.gens.size := by
      obtain ⟨h1, _⟩ := Array.getElem?_eq_some_iff.mp h
      rw [Array.size_setIfInBounds] at h1
      exact h1
    rw [Array.getElem?_setIfInBounds_self_of_lt hl] at h
    rw [Array.getElem?_setIfInBounds_self_of_lt (by rw [← r.size]; exact hl)]
    cases h
    exact ⟨rfl, hx⟩
  · rw [Array.getElem?_setIfInBounds_ne e] at h
    rcases r.at_ j g0 h with ⟨hd, k, l, c, p, fs, cl, e1, h1⟩ | ⟨hd, h1, h2⟩
    · refine .inl ⟨hd, k, l, c, p, fs, cl, e1, ?_⟩
      show (s.gens.setIfInBounds g x)[j]? = _
      rw [Array.getElem?_setIfInBounds_ne e]
      exact h1
    · rw [Array.getElem?_setIfInBounds_ne e]
      exact .inr ⟨hd, h1, h2⟩
structure Cn (D : Nat → Prop) (s0 s0' s' : Shared) (e : End) : Prop where
  rel : Rel D s0' s'
  kept : ∀ j, D j → s0'.gens[j]? = s0.gens[j]?
  size : s0.heap.objs.size ≤ s0'.heap.objs.size
  susp : ∀ v g l k c p fs, e = .susp v g l k c p fs → splitAtGen fs = none
theorem Cn.fr {D : Nat → Prop} {s0 s0' s' : Shared} {e : End} (c : Cn D s0 s0' s' e) : ∀ k l c p fs cl, e.genState = .suspended k l c p fs cl → splitAtGen fs = none := fun k l cc p fs cl h => by
  cases e with
  | ret r => cases h
  | susp v g l k c₁ p fs₁ =>
    have := c.susp _ _ _ _ _ _ _ rfl
    simp only [End.genState] at h
    cases h
    exact this
theorem cn_trans {D : Nat → Prop} {s0 s1 s2 s' s'' : Shared} {e1 e2 : End} (a : Cn D s0 s1 s' e1) (b : Cn D s1 s2 s'' e2) : Cn D s0 s2 s'' e2 :=
  ⟨b.rel, fun j hj => (b.kept j hj).trans (a.kept j hj), Nat.le_trans a.size b.size, b.susp⟩
theorem set_ne {s : Shared} {g j : Nat} {x : GenState} (h : g ≠ j) : (s.setGen g x).gens[j]? = s.gens[j]? := by
  show (s.gens.setIfInBounds g x)[j]? = _
  rw [Array.getElem?_setIfInBounds_ne h]
theorem dead_end {M : Model} {Γ : PySem.Ctx} {p : Pos} {t : Sem PySem.Fin} {fs : List Frame} {s : Shared} {e : End} {s' : Shared} (h : Runs M Γ p t fs s e s') : t = .unsupported "" → False := by
  induction h with
  | segRet _ _ ih _ => exact ih
  | segGen _ _ ih _ => exact ih
  | segSuspOut _ _ ih => exact ih
  | segSuspGen _ _ _ _ ih _ => exact ih
  | _ => intro h; cases h
theorem push_lt {s : Shared} {x : GenState} {j : Nat} (h : j < s.gens.size) : (s.gens.push x)[j]? = s.gens[j]? := by
  rw [Array.getElem?_push, if_neg (fun z => Nat.lt_irrefl _ (by rw [z] at h; exact h))]
theorem rel_push {D : Nat → Prop} {s0 s : Shared} {c : Code} (r : Rel D s0 s) : Rel D { s0 with gens := s0.gens.push (.fresh c) } { s with gens := s.gens.push (.fresh c) } := by
  refine ⟨r.heap, r.os, r.drawn, r.toks, by show (s0.gens.push _).size = (s.gens.push _).size; rw [Array.size_push, Array.size_push, r.size], fun j hj => ?_, fun j g0 h => ?_⟩
  · show j < (s0.gens.push _).size
    rw [Array.size_push]
    exact Nat.lt_succ_of_lt (r.lt j hj)
  have h : (s0.gens.push (.fresh c))[j]? = some g0 := h
  show _ ∨ (_ ∧ (s.gens.push (.fresh c))[j]? = _ ∧ _)
  rw [Array.getElem?_push] at h
  split at h
  · rename_i ej
    cases h
    refine .inr ⟨fun hd => Nat.lt_irrefl _ (by have := r.lt j hd; rw [ej] at this; exact this), ?_, fun _ _ _ _ _ _ h => by cases h⟩
    rw [Array.getElem?_push, if_pos (by rw [ej, r.size])]
  · rename_i ej
    rcases r.at_ j g0 h with ⟨hd, k, l, c', p, fs, cl, e1, h1⟩ | ⟨hd, h1, h2⟩
    · refine .inl ⟨hd, k, l, c', p, fs, cl, e1, ?_⟩
      show (s.gens.push (.fresh c))[j]? = _
      rw [Array.getElem?_push, if_neg (by rw [← r.size]; exact ej)]
      exact h1
    · refine .inr ⟨hd, ?_, h2⟩
      rw [Array.getElem?_push, if_neg (by rw [← r.size]; exact ej)]
      exact h1
theorem runs_dead {M : Model} {D : Nat → Prop} {Γ : PySem.Ctx} {p : Pos} {t : Sem PySem.Fin} {fs : List Frame} {s : Shared} {e : End} {s' : Shared} (h : Runs M Γ p t fs s e s') :
    ∀ s0, Rel D s0 s → splitAtGen fs = none → ∃ s0', Runs M Γ p t fs s0 e s0' ∧ Cn D s0 s0' s' e := by
  have cont : ∀ {s0 s1 s0' s' : Shared} {e : End}, Cn D s1 s0' s' e → s1.gens = s0.gens → s0.heap.objs.size ≤ s1.heap.objs.size → Cn D s0 s0' s' e := fun c hg hs =>
    ⟨c.rel, fun j hj => by rw [c.kept j hj, hg], Nat.le_trans hs c.size, c.susp⟩
  induction h with
  | done => exact fun s0 r _ => ⟨s0, .done, r, fun _ _ => rfl, Nat.le_refl _, fun _ _ _ _ _ _ _ h => by cases h⟩
  | raise => exact fun s0 r _ => ⟨s0, .raise, r, fun _ _ => rfl, Nat.le_refl _, fun _ _ _ _ _ _ _ h => by cases h⟩
  | again hq _ ih =>
    intro s0 r hf
    obtain ⟨s1, a, c⟩ := ih s0 r rfl
    exact ⟨s1, .again hq a, c⟩
  | rule _ ih =>
    intro s0 r hf
    obtain ⟨s1, a, c⟩ := ih s0 r rfl
    exact ⟨s1, .rule a, c⟩
  | «at» _ ih =>
    intro s0 r hf
    obtain ⟨s1, a, c⟩ := ih s0 r rfl
    exact ⟨s1, .at a, c⟩
  | load ho _ ih =>
    intro s0 r hf
    obtain ⟨s1, a, c⟩ := ih s0 r rfl
    exact ⟨s1, .load (by rw [r.heap]; exact ho) a, c⟩
  | @update Γ p k s e s' a part f ho _ ih =>
    intro s0 r hf
    obtain ⟨s1, a, c⟩ := ih { s0 with heap := s0.heap.update a f } ⟨by show s0.heap.update a f = _; rw [r.heap], r.os, r.drawn, r.toks, r.size, r.lt, r.at_⟩ rfl
    exact ⟨s1, .update (by rw [r.heap]; exact ho) a, cont c rfl (by show _ ≤ (s0.heap.update _ f).objs.size; rw [Heap.size_update]; exact Nat.le_refl _)⟩
  | loadIfAlive _ ih =>
    intro s0 r hf
    obtain ⟨s1, a, c⟩ := ih s0 r rfl
    exact ⟨s1, .loadIfAlive (by rw [r.heap]; exact a), c⟩
  | point _ ih =>
    intro s0 r hf
    obtain ⟨s1, a, c⟩ := ih s0 r rfl
    exact ⟨s1, .point a, c⟩
  | @alloc Γ p k s e s' o _ ih =>
    intro s0 r hf
    obtain ⟨s1, a, c⟩ := ih { s0 with heap := s0.heap.push o } ⟨by show s0.heap.push o = _; rw [r.heap], r.os, r.drawn, r.toks, r.size, r.lt, r.at_⟩ rfl
    refine ⟨s1, .alloc (by rw [r.heap]; rw [r.heap] at a; exact a), cont c rfl ?_⟩
    show _ ≤ (s0.heap.push o).objs.size
    rw [Heap.size_push]
    exact Nat.le_succ _
  | @fresh Γ p k s e s' _ ih =>
    intro s0 r hf
    obtain ⟨s1, a, c⟩ := ih { s0 with toks := s0.toks + 1 } ⟨r.heap, r.os, r.drawn, by show s0.toks + 1 = _; rw [r.toks], r.size, r.lt, r.at_⟩ rfl
    exact ⟨s1, .fresh (by rw [r.toks]; rw [r.toks] at a; exact a), cont c rfl (Nat.le_refl _)⟩
  | ask _ ih =>
    intro s0 r hf
    obtain ⟨s1, a, c⟩ := ih s0 r rfl
    exact ⟨s1, .ask a, c⟩
  | @choose n Γ p k s e s' src hn _ ih =>
    intro s0 r hf
    obtain ⟨s1, a, c⟩ := ih { s0 with drawn := s0.drawn.bump src } ⟨r.heap, r.os, by show s0.drawn.bump src = _; rw [r.drawn], r.toks, r.size, r.lt, r.at_⟩ rfl
    exact ⟨s1, .choose hn (by rw [r.drawn]; rw [r.drawn] at a; exact a), cont c rfl (Nat.le_refl _)⟩
  | @os Γ p k s e s' q l _ ih =>
    intro s0 r hf
    obtain ⟨s1, a, c⟩ := ih { s0 with os := (Os.step s0.os q).1 } ⟨r.heap, by show (Os.step s0.os q).1 = _; rw [r.os], r.drawn, r.toks, r.size, r.lt, r.at_⟩ rfl
    exact ⟨s1, .os (by rw [r.os]; rw [r.os] at a; exact a), cont c rfl (Nat.le_refl _)⟩
  | handled _ ih =>
    intro s0 r hf
    obtain ⟨s1, a, c⟩ := ih s0 r rfl
    exact ⟨s1, .handled a, c⟩
  | genState hg _ ih =>
    intro s0 r hf
    obtain ⟨s1, a, c⟩ := ih s0 r rfl
    rcases r.get hg with ⟨_, k, l, cc, p, fs, cl, h1, e1⟩ | ⟨_, h1, _⟩
    · refine ⟨s1, .genState h1 ?_, c⟩
      rw [e1] at a
      exact a
    · exact ⟨s1, .genState h1 a, c⟩
  | stack _ ih =>
    intro s0 r hf
    obtain ⟨s1, a, c⟩ := ih s0 r rfl
    exact ⟨s1, .stack a, c⟩
  | thread _ ih =>
    intro s0 r hf
    obtain ⟨s1, a, c⟩ := ih s0 r rfl
    exact ⟨s1, .thread a, c⟩
  | @newGen Γ p k s e s' c _ ih =>
    intro s0 r hf
    obtain ⟨s1, a, cn⟩ := ih { s0 with gens := s0.gens.push (.fresh c) } (rel_push r) rfl
    refine ⟨s1, .newGen (by rw [r.size]; exact a), cn.rel, fun j hj => ?_, cn.size, cn.susp⟩
    rw [cn.kept j hj]
    exact push_lt (r.lt j hj)
  | call _ _ ih1 ih2 =>
    intro s0 r hf
    obtain ⟨s1, a1, c1⟩ := ih1 s0 r rfl
    obtain ⟨s2, a2, c2⟩ := ih2 s1 c1.rel rfl
    exact ⟨s2, .call a1 a2, cn_trans c1 c2⟩
  | callSusp _ ih =>
    intro s0 r hf
    obtain ⟨s1, a1, c1⟩ := ih s0 r rfl
    refine ⟨s1, .callSusp a1, c1.rel, c1.kept, c1.size, fun v g l k c p fs h => ?_⟩
    cases h
    rw [splitAtGen_append_none _ (c1.susp _ _ _ _ _ _ _ rfl)]
    rfl
  | yield => exact fun s0 r _ => ⟨s0, .yield, r, fun _ _ => rfl, Nat.le_refl _, fun _ _ _ _ _ _ _ h => by cases h; rfl⟩
  | @resumeFresh Γ p g l k s c e₁ s₁ e s' hg _ hq _ ih1 ih2 =>
    intro s0 r hf
    rcases r.get hg with ⟨_, k, l, cc, p, fs, cl, h1, e1⟩ | ⟨nd, h1, _⟩
    · cases e1
    · obtain ⟨s1, a1, c1⟩ := ih1 (s0.setGen g .running) (r.set nd fun _ _ _ _ _ _ h => by cases h) rfl
      obtain ⟨s2, a2, c2⟩ := ih2 (s1.setGen g e₁.genState) (c1.rel.set nd c1.fr) rfl
      refine ⟨s2, .resumeFresh h1 a1 hq a2, c2.rel, fun j hj => ?_, Nat.le_trans c1.size c2.size, c2.susp⟩
      have nj : g ≠ j := fun z => nd (by rw [z]; exact hj)
      rw [c2.kept j hj, set_ne nj, c1.kept j hj, set_ne nj]
  | @resumeSuspended Γ p g rr l k s k₀ l₀ c₀ p₀ fs cl e₁ s₁ e s' hg ha hq _ ih1 ih2 =>
    intro s0 r hf
    rcases r.get hg with ⟨_, k, l, cc, p, fs, cl, h1, e1⟩ | ⟨nd, h1, hfs⟩
    · cases e1
      exfalso
      exact dead_end ha rfl
    · obtain ⟨s1, a1, c1⟩ := ih1 (s0.setGen g .running) (r.set nd fun _ _ _ _ _ _ h => by cases h) (hfs _ _ _ _ _ _ rfl)
      obtain ⟨s2, a2, c2⟩ := ih2 (s1.setGen g e₁.genState) (c1.rel.set nd c1.fr) rfl
      refine ⟨s2, .resumeSuspended h1 a1 hq a2, c2.rel, fun j hj => ?_, Nat.le_trans c1.size c2.size, c2.susp⟩
      have nj : g ≠ j := fun z => nd (by rw [z]; exact hj)
      rw [c2.kept j hj, set_ne nj, c1.kept j hj, set_ne nj]
  | resumeJustStarted hg hv _ ih =>
    intro s0 r hf
    rcases r.get hg with ⟨_, k, l, cc, p, fs, cl, h1, e1⟩ | ⟨nd, h1, _⟩
    · cases e1
    · obtain ⟨s1, a1, c1⟩ := ih s0 r rfl
      exact ⟨s1, .resumeJustStarted h1 hv a1, c1⟩
  | resumeThrowFresh hg _ ih =>
    intro s0 r hf
    rcases r.get hg with ⟨_, k, l, cc, p, fs, cl, h1, e1⟩ | ⟨nd, h1, _⟩
    · cases e1
    · obtain ⟨s1, a1, c1⟩ := ih _ (r.set nd fun _ _ _ _ _ _ h => by cases h) rfl
      refine ⟨s1, .resumeThrowFresh h1 a1, c1.rel, fun j hj => ?_, c1.size, c1.susp⟩
      rw [c1.kept j hj, set_ne fun z => nd (by rw [z]; exact hj)]
  | resumeRunning hg _ ih =>
    intro s0 r hf
    rcases r.get hg with ⟨_, k, l, cc, p, fs, cl, h1, e1⟩ | ⟨nd, h1, _⟩
    · cases e1
    · obtain ⟨s1, a1, c1⟩ := ih s0 r rfl
      exact ⟨s1, .resumeRunning h1 a1, c1⟩
  | resumeFinished hg _ ih =>
    intro s0 r hf
    rcases r.get hg with ⟨_, k, l, cc, p, fs, cl, h1, e1⟩ | ⟨nd, h1, _⟩
    · cases e1
    · obtain ⟨s1, a1, c1⟩ := ih s0 r rfl
      exact ⟨s1, .resumeFinished h1 a1, c1⟩
  | segRet _ _ ih1 ih2 =>
    intro s0 r hf
    obtain ⟨s1, a1, c1⟩ := ih1 s0 r rfl
    rw [splitAtGen_ret] at hf
    obtain ⟨s2, a2, c2⟩ := ih2 s1 c1.rel (by
      cases q : splitAtGen _ with
      | none => rfl
      | some x => rw [q] at hf; cases hf)
    exact ⟨s2, .segRet a1 a2, cn_trans c1 c2⟩
  | segGen _ _ _ _ =>
    intro s0 r hf
    rw [splitAtGen_gen] at hf
    cases hf
  | segSuspOut hs _ ih =>
    intro s0 r hf
    obtain ⟨s1, a1, c1⟩ := ih s0 r rfl
    refine ⟨s1, .segSuspOut hs a1, c1.rel, c1.kept, c1.size, fun v g l k c p fs h => ?_⟩
    cases h
    rw [splitAtGen_append_none _ (c1.susp _ _ _ _ _ _ _ rfl), hs]
    rfl
  | segSuspGen hs _ _ _ _ _ =>
    intro s0 r hf
    rw [hs] at hf
    cases hf
/-- what is known behind such a run -/
structure Cw (D : Nat → Prop) (s0 s0' s' : Shared) : Prop where
  rel : Rel D s0' s'
  kept : ∀ j, D j → s0'.gens[j]? = s0.gens[j]?
  gone : Gone s0 s0'
theorem Cn.w {D : Nat → Prop} {s0 s0' s' : Shared} {e : End} (c : Cn D s0 s0' s' e) (g : Gone s0 s0') : Cw D s0 s0' s' := ⟨c.rel, c.kept, g⟩
theorem cw_trans {D : Nat → Prop} {s0 s1 s2 s' s'' : Shared} (a : Cw D s0 s1 s') (b : Cw D s1 s2 s'') : Cw D s0 s2 s'' :=
  ⟨b.rel, fun j hj => (b.kept j hj).trans (a.kept j hj), a.gone.trans b.gone⟩
theorem wakes_dead {M : Model} {D : Nat → Prop} {Γ : PySem.Ctx} {p : Pos} {g : Nat} {rr : Resume} {s s' : Shared} {res : GenResult} (h : Wakes M Γ p g rr s res s') (s0 : Shared) (r : Rel D s0 s) : ∃ s0', Wakes M Γ p g rr s0 res s0' ∧ Cw D s0 s0' s' := by
  unfold Wakes at h
  cases hg : s.gens[g]? with
  | none => rw [hg] at h; exact h.elim
  | some gs =>
    rw [hg] at h
    rcases r.get hg with ⟨_, k, l, cc, p₀, fs, cl, h1, e1⟩ | ⟨nd, h1, hfs⟩
    · subst e1
      obtain ⟨e₁, s₁, ha, _⟩ := h
      exact (dead_end ha rfl).elim
    · have fin : ∀ {e₁ : End} {s₁ s1 : Shared}, Gone (s0.setGen g .running) s1 → Cn D (s0.setGen g .running) s1 s₁ e₁ → Cw D s0 (s1.setGen g e₁.genState) (s₁.setGen g e₁.genState) := fun {e₁ s₁ s1} gg c1 =>
        ⟨c1.rel.set nd c1.fr, fun j hj => by
          have nj : g ≠ j := fun z => nd (by rw [z]; exact hj)
          rw [set_ne nj, c1.kept j hj, set_ne nj], (Gone.unset gg).trans (.same rfl)⟩
      have same : Cw D s0 s0 s := ⟨r, fun _ _ => rfl, .same rfl⟩
      unfold Wakes
      rw [h1]
      cases gs with
      | fresh c =>
        cases rr with
        | send v =>
          cases v with
          | none =>
            obtain ⟨e₁, s₁, ha, hq, rfl, rfl⟩ := h
            obtain ⟨s1, a1, c1⟩ := runs_dead ha (s0.setGen g .running) (r.set nd fun _ _ _ _ _ _ h => by cases h) rfl
            exact ⟨_, ⟨e₁, s1, a1, hq, rfl, rfl⟩, fin (runs_gone a1) c1⟩
          | _ => obtain ⟨rfl, rfl⟩ := h; exact ⟨s0, ⟨rfl, rfl⟩, same⟩
        | throw x =>
          obtain ⟨rfl, rfl⟩ := h
          exact ⟨_, ⟨rfl, rfl⟩, r.set nd (fun _ _ _ _ _ _ h => by cases h), fun j hj => set_ne fun z => nd (by rw [z]; exact hj), .same rfl⟩
      | suspended k l c p₀ fs cl =>
        obtain ⟨e₁, s₁, ha, hq, rfl, rfl⟩ := h
        obtain ⟨s1, a1, c1⟩ := runs_dead ha (s0.setGen g .running) (r.set nd fun _ _ _ _ _ _ h => by cases h) (hfs _ _ _ _ _ _ rfl)
        exact ⟨_, ⟨e₁, s1, a1, hq, rfl, rfl⟩, fin (runs_gone a1) c1⟩
      | running => obtain ⟨rfl, rfl⟩ := h; exact ⟨s0, ⟨rfl, rfl⟩, same⟩
      | finished => obtain ⟨rfl, rfl⟩ := h; exact ⟨s0, ⟨rfl, rfl⟩, same⟩
theorem wp_dead {α : Type} {M : Model} {Γ : PySem.Ctx} {D : Nat → Prop} {Q : α → Pos → Shared → Prop} {E : Value → Pos → Shared → Prop} (m : Sem α) : ∀ (p : Pos) (s s0 : Shared), Rel D s0 s → Sem.wp M Γ m Q E p s →
    Sem.wp M Γ m (fun a p' s0' => ∃ s', Q a p' s' ∧ Cw D s0 s0' s') (fun e p' s0' => ∃ s', E e p' s' ∧ Cw D s0 s0' s') p s0 := by
  have go : ∀ {m : Sem α} {p : Pos} {s0 s1 : Shared}, s1.gens = s0.gens → Gone s0 s1 →
      Sem.wp M Γ m (fun a p' s0' => ∃ s', Q a p' s' ∧ Cw D s1 s0' s') (fun e p' s0' => ∃ s', E e p' s' ∧ Cw D s1 s0' s') p s1 →
      Sem.wp M Γ m (fun a p' s0' => ∃ s', Q a p' s' ∧ Cw D s0 s0' s') (fun e p' s0' => ∃ s', E e p' s' ∧ Cw D s0 s0' s') p s1 := fun {m p s0 s1} hg hs h =>
    Sem.wp_mono M Γ m (fun a p' s' ⟨s'', q, c⟩ => ⟨s'', q, c.rel, fun j hj => by rw [c.kept j hj, hg], hs.trans c.gone⟩) (fun a p' s' ⟨s'', q, c⟩ => ⟨s'', q, c.rel, fun j hj => by rw [c.kept j hj, hg], hs.trans c.gone⟩) p s1 h
  have go2 : ∀ {m : Sem α} {p : Pos} {s0 s1 s' : Shared}, Cw D s0 s1 s' →
      Sem.wp M Γ m (fun a p' s0' => ∃ s', Q a p' s' ∧ Cw D s1 s0' s') (fun e p' s0' => ∃ s', E e p' s' ∧ Cw D s1 s0' s') p s1 →
      Sem.wp M Γ m (fun a p' s0' => ∃ s', Q a p' s' ∧ Cw D s0 s0' s') (fun e p' s0' => ∃ s', E e p' s' ∧ Cw D s0 s0' s') p s1 := fun {m p s0 s1 s'} c1 h =>
    Sem.wp_mono M Γ m (fun a p' s' ⟨s'', q, c⟩ => ⟨s'', q, cw_trans c1 c⟩) (fun a p' s' ⟨s'', q, c⟩ => ⟨s'', q, cw_trans c1 c⟩) p s1 h
  have same : ∀ {s0 s : Shared}, Rel D s0 s → Cw D s0 s0 s := fun r => ⟨r, fun _ _ => rfl, .same rfl⟩
  induction m with
  | pure a => intro p s s0 r h; exact ⟨s, h, same r⟩
  | raise e => intro p s s0 r h; exact ⟨s, h, same r⟩
  | unsupported | finish | yield | fork | await | register => intro p s s0 r h; exact h.elim
  | rule _ k ih => intro p s s0 r h; exact ih _ _ s s0 r h
  | «at» _ k ih => intro p s s0 r h; exact ih _ _ s s0 r h
  | point _ k ih => intro p s s0 r h; exact ih _ _ s s0 r h
  | ask k ih => intro p s s0 r h; exact ih _ _ s s0 r h
  | handled _ k ih => intro p s s0 r h; exact ih _ _ s s0 r h
  | stack k ih => intro p s s0 r h; exact ih _ _ s s0 r h
  | thread k ih => intro p s s0 r h; exact ih _ _ s s0 r h
  | alloc o k ih =>
    intro p s s0 r h
    show Sem.wp M Γ (k s0.heap.objs.size) _ _ p { s0 with heap := s0.heap.push o }
    have h : Sem.wp M Γ (k s.heap.objs.size) Q E p { s with heap := s.heap.push o } := h
    rw [r.heap]
    exact go rfl (.push (by rw [r.heap])) (ih _ p { s with heap := s.heap.push o } _ ⟨rfl, r.os, r.drawn, r.toks, r.size, r.lt, r.at_⟩ h)
  | loadIfAlive a k ih =>
    intro p s s0 r h
    show Sem.wp M Γ (k (s0.heap.get? a)) _ _ p s0
    rw [r.heap]
    exact ih _ _ s s0 r h
  | fresh k ih =>
    intro p s s0 r h
    show Sem.wp M Γ (k s0.toks) _ _ p { s0 with toks := s0.toks + 1 }
    rw [r.toks]
    exact go rfl (.same rfl) (ih _ p { s with toks := s.toks + 1 } _ ⟨r.heap, r.os, r.drawn, rfl, r.size, r.lt, r.at_⟩ h)
  | os q l k ih =>
    intro p s s0 r h
    show Sem.wp M Γ (k (Os.step s0.os q).2) _ _ p { s0 with os := (Os.step s0.os q).1 }
    rw [r.os]
    exact go rfl (.same rfl) (ih _ p { s with os := (Os.step s.os q).1 } _ ⟨r.heap, rfl, r.drawn, r.toks, r.size, r.lt, r.at_⟩ h)
  | newGen c k ih =>
    intro p s s0 r h
    show Sem.wp M Γ (k s0.gens.size) _ _ p { s0 with gens := s0.gens.push (.fresh c) }
    have r2 : Rel D { s0 with gens := s0.gens.push (.fresh c) } { s with gens := s.gens.push (.fresh c) } := rel_push r
    rw [r.size]
    refine Sem.wp_mono M Γ _ (fun a p' s' ⟨s'', q, c'⟩ => ⟨s'', q, c'.rel, fun j hj => ?_, (Gone.same (s := s0) (s' := { s0 with gens := s0.gens.push (.fresh c) }) rfl (push_sz _ _)).trans c'.gone⟩) (fun a p' s' ⟨s'', q, c'⟩ => ⟨s'', q, c'.rel, fun j hj => ?_, (Gone.same (s := s0) (s' := { s0 with gens := s0.gens.push (.fresh c) }) rfl (push_sz _ _)).trans c'.gone⟩) p _ (ih _ p { s with gens := s.gens.push (.fresh c) } _ r2 h)
    · rw [c'.kept j hj]
      exact push_lt (r.lt j hj)
    · rw [c'.kept j hj]
      exact push_lt (r.lt j hj)
  | load a _ k ih =>
    intro p s s0 r h
    obtain ⟨o, ho, h⟩ := h
    exact ⟨o, by rw [r.heap]; exact ho, ih _ _ s s0 r h⟩
  | genState g k ih =>
    intro p s s0 r h
    obtain ⟨st, hg, h⟩ := h
    rcases r.get hg with ⟨_, k0, l, cc, p₀, fs, cl, h1, e1⟩ | ⟨nd, h1, hfs⟩
    · refine ⟨_, h1, ?_⟩
      subst e1
      exact ih _ _ s s0 r h
    · exact ⟨_, h1, ih _ _ s s0 r h⟩
  | update a _ f k ih =>
    intro p s s0 r h
    obtain ⟨ha, h⟩ := h
    refine ⟨by rw [r.heap]; exact ha, ?_⟩
    exact go rfl (.upd rfl (by rw [r.heap]; exact ha)) (ih _ p { s with heap := s.heap.update a f } { s0 with heap := s0.heap.update a f } ⟨by show s0.heap.update a f = _; rw [r.heap], r.os, r.drawn, r.toks, r.size, r.lt, r.at_⟩ h)
  | choose src n k ih =>
    intro p s s0 r h
    obtain ⟨hn, h⟩ := h
    refine ⟨hn, ?_⟩
    rw [r.drawn]
    exact go rfl (.same rfl) (ih _ p { s with drawn := s.drawn.bump src } _ ⟨r.heap, r.os, rfl, r.toks, r.size, r.lt, r.at_⟩ h)
  | call c hh g l k ih =>
    intro p s s0 r h
    obtain ⟨res, s', hr, h⟩ := h
    obtain ⟨s1, a1, c1⟩ := runs_dead hr s0 r rfl
    exact ⟨res, s1, a1, go2 (c1.w (runs_gone a1)) (ih _ _ s' s1 c1.rel h)⟩
  | resume g rr l k ih =>
    intro p s s0 r h
    obtain ⟨res, s', hw, h⟩ := h
    obtain ⟨s1, a1, c1⟩ := wakes_dead hw s0 r
    exact ⟨res, s1, a1, go2 c1 (ih _ _ s' s1 c1.rel h)⟩
/-- the state in which all sleeping generators are dead ends -/
def dz : GenState → GenState
  | .suspended _ l c p fs cl => .suspended deadEnd l c p fs cl
  | x => x
def deadS (s : Shared) : Shared := { s with gens := s.gens.map dz }
def Asl (s : Shared) (j : Nat) : Prop := ∃ k l c p fs cl, s.gens[j]? = some (.suspended k l c p fs cl)
theorem dead_rel (s : Shared) : Rel (Asl s) s (deadS s) := by
  refine ⟨rfl, rfl, rfl, rfl, by show _ = (s.gens.map dz).size; rw [Array.size_map], fun j ⟨_, _, _, _, _, _, h⟩ => (Array.getElem?_eq_some_iff.mp h).1, fun j g0 h => ?_⟩
  have e : (deadS s).gens[j]? = some (dz g0) := by
    show (s.gens.map dz)[j]? = _
    rw [Array.getElem?_map, h]
    rfl
  cases g0 with
  | suspended k l c p fs cl => exact .inl ⟨⟨_, _, _, _, _, _, h⟩, k, l, c, p, fs, cl, rfl, e⟩
  | fresh c => exact .inr ⟨fun ⟨_, _, _, _, _, _, h2⟩ => (by rw [h] at h2; cases h2), e, fun _ _ _ _ _ _ z => by cases z⟩
  | running => exact .inr ⟨fun ⟨_, _, _, _, _, _, h2⟩ => (by rw [h] at h2; cases h2), e, fun _ _ _ _ _ _ z => by cases z⟩
  | finished => exact .inr ⟨fun ⟨_, _, _, _, _, _, h2⟩ => (by rw [h] at h2; cases h2), e, fun _ _ _ _ _ _ z => by cases z⟩
theorem wpAny_dead {α : Type} {M : Model} {A : Around} {m : Sem α} {Q : α → Shared → Prop} {E : Value → Shared → Prop} {s : Shared} (h : wpAny M A m Q E (deadS s)) :
    wpAny M A m (fun a s1 => ∃ s', Q a s' ∧ Cw (Asl s) s s1 s') (fun e s1 => ∃ s', E e s' ∧ Cw (Asl s) s s1 s') s := fun Γ p hΓ => wp_dead m p (deadS s) s (dead_rel s) (h Γ p hΓ)
theorem Cw.bare {D : Nat → Prop} {s0 s s' : Shared} (c : Cw D s0 s s') (h : PyProof.Rows.AllBare s'.gens) : PyProof.Rows.AllBare s.gens := fun y hy => by
  obtain ⟨j, hj, e⟩ := Array.mem_iff_getElem.mp hy
  have e1 : s.gens[j]? = some y := by rw [Array.getElem?_eq_getElem hj, e]
  rcases c.rel.at_ j y e1 with ⟨_, k, l, cc, p, fs, cl, rfl, h1⟩ | ⟨_, h1, _⟩
  · exact (h (.suspended deadEnd l cc p fs cl) (Array.mem_of_getElem? h1) :)
  · exact h y (Array.mem_of_getElem? h1)
theorem dead_bare {s : Shared} (h : PyProof.Rows.AllBare s.gens) : PyProof.Rows.AllBare (deadS s).gens := fun y hy => by
  obtain ⟨x, hx, rfl⟩ := Array.mem_map.mp (show y ∈ s.gens.map dz from hy)
  have := h x hx
  cases x <;> exact this
end GN
set_option Elab.async false
set_option linter.all false
set_option maxRecDepth 100000
set_option maxHeartbeats 2000000
namespace GN
open PySem PySem.Spec PyProof.Rows L2 GenW
section
variable {Gh : Type}
def GoesG (M : Model) (A : Around) (R : EndG Gh) (Y : ProG Gh) (n : Nat) (g : Gh) (gs : GenState) (r : Resume) (s : Shared) : Prop :=
  match gs with
  | .fresh c => r = .send .none ∧ SegG M A R Y n g s c (M.den c) [] s
  | .suspended k _ c _ fs _ => SegG M A R Y n g s c (k r) fs s
  | _ => False
variable {M : Model} {A : Around} {R : EndG Gh} {Y : ProG Gh}
theorem resume_g {n : Nat} {g : Gh} {E : Value → Shared → Prop} {s : Shared} {i : Nat} {gs : GenState} {r : Resume} {l : List Value} {α : Type} {k : GenResult → Sem α} {Q : α → Shared → Prop} (hg : s.gens[i]? = some gs)
    (hgo : GoesG M A R Y n g gs r (s.setGen i .running))
    (hR : ∀ x s₁, Gone s s₁ → R g n (s.setGen i .running) x s₁ → wpAny M A (k (End.ret x).result) Q E (s₁.setGen i .finished))
    (hY : ∀ v s₁ gs', gs'.bare = true → Gone s s₁ → (match gs' with | .suspended .. => True | _ => False) → Y g (n - 1) (s.setGen i .running) v s₁ (fun g' r' s2 => match n with | 0 => False | m + 1 => GoesG M A R Y m g' gs' r' s2) → wpAny M A (k (.yielded v)) Q E (s₁.setGen i gs')) :
    wpAny M A (.resume i r l k) Q E s := by
  intro Γ p hΓ
  rw [Sem.wp_resume]
  have fin : ∀ e₁ s₁, Gone s s₁ → StopG R Y n (goG M A R Y n) g (s.setGen i .running) e₁ s₁ → Sem.wp M Γ (k e₁.result) (fun a _ s' => Q a s') (fun e _ s' => E e s') p (s₁.setGen i e₁.genState) := by
    intro e₁ s₁ gg he
    cases e₁ with
    | ret x => exact hR x s₁ gg he Γ p hΓ
    | susp v g₀ l₀ k₀ c₀ p₀ fs₀ =>
      refine hY v s₁ _ (End.bare_of_quiet he.1) gg trivial ?_ Γ p hΓ
      cases n with
      | zero => exact he.2
      | succ m => exact he.2
  have qt : ∀ e₁ s₁, StopG R Y n (goG M A R Y n) g (s.setGen i .running) e₁ s₁ → e₁.quiet = true := by
    intro e₁ s₁ he
    cases e₁ with
    | ret x => rfl
    | susp v g₀ l₀ k₀ c₀ p₀ fs₀ => exact he.1
  cases gs with
  | fresh c =>
    obtain ⟨rfl, h⟩ := hgo
    obtain ⟨e₁, s₁, hr, he⟩ := sg_iff.mp h (Γ.wake c p) p rfl (hΓ.wake c p)
    exact ⟨_, _, by unfold Wakes; rw [hg]; exact ⟨e₁, s₁, hr, qt e₁ s₁ he, rfl, rfl⟩, fin e₁ s₁ ((Gone.same (s := s) (s' := s.setGen i .running) rfl).trans (runs_gone hr)) he⟩
  | suspended k₀ l₀ c₀ p₀ fs₀ cl =>
    obtain ⟨e₁, s₁, hr, he⟩ := sg_iff.mp hgo (Γ.wake c₀ p) p₀ rfl (hΓ.wake c₀ p)
    exact ⟨_, _, by unfold Wakes; rw [hg]; exact ⟨e₁, s₁, hr, qt e₁ s₁ he, rfl, rfl⟩, fin e₁ s₁ ((Gone.same (s := s) (s' := s.setGen i .running) rfl).trans (runs_gone hr)) he⟩
  | running => exact hgo.elim
  | finished => exact hgo.elim
end
section
variable {P : Program} {w : World} {A : Around} {E : Value → Shared → Prop} {s : Shared} {Gh : Type} {F : Gh → Nat → Shared → Shared → Prop} {Y : ProG Gh}
abbrev endG (F : Gh → Nat → Shared → Shared → Prop) : EndG Gh := fun g n s₀ r s₁ => (r = .ok (.ret .none) ∨ r = .ok .next) ∧ F g n s₀ s₁
/-- next(g) -/
theorem next_g {a : Addr} {i n : Nat} {g : Gh} {gs : GenState} {Q : Option Value → Shared → Prop} (hh : A.handled = none) (hl : s.heap.NoLimit) (hroom : A.depth < recursionLimit) (hg : s.heap.IsGen a i) (hgs : s.gens[i]? = some gs)
    (hgo : GoesG (model P w) A.in1 (endG F) Y n g gs (.send .none) (s.setGen i .running))
    (hY : ∀ v s₁ gs', gs'.bare = true → Gone s s₁ → (match gs' with | .suspended .. => True | _ => False) → Y g (n - 1) (s.setGen i .running) v s₁ (fun g' r' s2 => match n with | 0 => False | m + 1 => GoesG (model P w) A.in1 (endG F) Y m g' gs' r' s2) → Q (some v) (s₁.setGen i gs'))
    (hP : ∀ s₁, Gone s s₁ → F g n (s.setGen i .running) s₁ → ∀ h', (∀ b o, s₁.heap.get? b = some o → h'.get? b = some o) → Q none { s₁.setGen i .finished with heap := h' }) :
    wpAny (model P w) A (pyNext (.ref a)) Q E s := by
  unfold pyNext
  refine wpAny_bind (wpAny_attempt (wpAny_callSpecial?_slot (name := Str.ofString "__next__") hg.typeIs slot_gen_next (wpAny_call_entry slot_gen_next hg.typeIs entry_gen_next ?_ (args_gen_next _))))
  show wpAny _ A.in1 (Builtin.Generator.genWake (.ref a) (.send .none)) _ _ s
  unfold Builtin.Generator.genWake
  refine wpAny_bind (wpAny_holding (wpAny_genNumber hg (wpAny_bind (wpAny_genState hgs ?_))))
  cases gs with
  | running => exact hgo.elim
  | finished => exact hgo.elim
  | _ =>
    refine wpAny_bind (wpAny_roomToWake hl hroom ?_)
    show wpAny _ A.in1 (.resume i (.send .none) [] _) _ _ s
    refine resume_g hgs hgo (fun x s₁ gg hx => ?_) fun v s₁ gs' hb gg hsu hv => ?_
    · obtain ⟨hr, hx⟩ := hx
      have hres : End.result (.ret x) = .returned .none := by
        rcases hr with hr | hr <;> rw [hr] <;> rfl
      first | rw [hres] | simp only [hres]
      show wpAny _ A.in1 (newExc (.type "StopIteration") [] >>= _) _ _ _
      refine wpAny_bind ?_
      simp only [newExc, newTuple]
      refine wpAny_bind (wpAny_newObj_type ?_ (by size_fits))
      refine wpAny_bind (m := firstArgMember _ _) (wpAny_of_eq (a := Value.none) (by first | rfl | (simp only [firstArgMember]; rfl)) ?_)
      refine wpAny_newObj_type ?_ (by size_fits)
      simp only [raiseNew]
      refine wpAny_bind (wpAny_bind (wpAny_handled ?_))
      first | rw [show A.in1.handled = none from hh] | rw [hh]
      refine wpAny_throw ?_
      refine wpAny_bind (wpAny_isInstance (T := "StopIteration") (b := true) ⟨_, Heap.get?_push_size _ rfl, rfl⟩ isSubtype_stop ?_)
      exact wpAny_pure (hP s₁ gg hx _ fun b o hb => Heap.get?_push_of_some _ (Heap.get?_push_of_some _ hb))
    · exact wpAny_pure ⟨v, rfl, wpAny_pure (hY v s₁ gs' hb gg hsu hv)⟩
end
end GN
namespace GN
open PySem PySem.Spec PyProof.Rows L2 GenW
theorem run_gfnx {X : Cx} {k : Nat} {f : Addr} {fd : FuncData} {ps : List Str} {sp : SpGX} {pins : List (Addr × Obj)} {σ : L2.St} {H H0 : Hp} {s : Shared} {us : List Value} {vs : List V} {N : Nat} {Item : Nat → V → Hp → (Addr → Prop) → Prop} {Q : Nat → Hp → Prop} {E1 : Value → Shared → Prop}
    (F : GFnX X.prog X.w X.K X.mg X.base k f fd ps sp) (hr : Room k X.A) (hb : Binds X.K fd ps []) (I : Inv X pins σ H s) (le : ∀ b u, H0 b = some u → H b = some u) (hok : HOk X.prog X.w H0 s.heap) (r : Vals vs us) (h : sp vs H0 N Item Q) :
    wpAny (model X.prog X.w) X.A (call (.ref f) us) (fun u s' => GMadeX X.prog X.w X.base k X.stack H0 s N Item Q u s') E1 s := by
  have no : ∀ b, H b = none → H0 b = none := fun b e => by
    cases q : H0 b with
    | none => rfl
    | some u => rw [le b u q] at e; cases e
  have e0 := I.env0
  have e1 : Env0 X.prog X.w X.K X.mg X.base X.A X.stack s H0 := ⟨e0.frames, e0.mod, fun b o e => ⟨(e0.bs b o e).1, no b (e0.bs b o e).2⟩, e0.bsz, e0.funs, fun b hb => no b (e0.frf b hb), hok, e0.bare⟩
  have hl : us.length = ps.length := by
    rw [← r.length]
    exact F.len _ _ _ _ _ h
  have b1 := hb s us I.kIn (by rw [List.append_nil]; exact hl)
  rw [List.append_nil] at b1
  refine wpAny_call (codeAny_mono (F.run X.A X.stack s H0 ⟨us, []⟩ us vs N Item Q hr e1 b1 r h) fun r s' hq => ?_)
  cases r with
  | error e => exact False.elim hq
  | ok fl =>
    cases fl with
    | ret u => exact hq
    | next => exact False.elim hq
    | brk => exact False.elim hq
    | cont => exact False.elim hq
end GN
set_option Elab.async false
set_option linter.all false
set_option maxRecDepth 100000
set_option maxHeartbeats 2000000
namespace GN
open PySem PySem.Spec PyProof.Rows L2 GenW
def Shk : HO → Prop
  | .lst _ => True
  | .tup _ => True
  | .dK _ => True
  | .set _ _ => True
  | .rng _ _ => True
  | .ins _ _ _ => True
  | .own _ => True
  | _ => False
structure Shr (H0 : Hp) : Prop where
  kind : ∀ b u, H0 b = some u → Shk u
  own : ∀ b a, H0 b = some (.own a) → ∃ C fs, H0 a = some (.ins C b fs)
theorem objok_shr {P : Program} {w : World} {H H' : Hp} {h : Heap} {b : Addr} {u : HO} (k : Shk u) (x : ObjOk P w H h b u) (hi : ∀ C dx fs, u = .ins C dx fs → H dx = some (.own b) → H' dx = some (.own b)) : ObjOk P w H' h b u := by
  cases u with
  | lst xs => exact x
  | tup xs => exact x
  | dK kvs => exact x
  | set S n => exact x
  | rng lo hi => exact x
  | own y => exact x
  | ins C dx fs =>
    obtain ⟨d, r⟩ := x
    exact ⟨hi C dx fs rfl d, r⟩
  | dT kvs => exact k.elim
  | xd fs => exact k.elim
  | frz o u => exact k.elim
  | tbl ps => exact k.elim
  | met f y => exact k.elim
  | ext φ => exact k.elim
theorem objok_there {P : Program} {w : World} {H : Hp} {h : Heap} {a : Addr} {o : HO} (x : ObjOk P w H h a o) : ∃ ob, h.get? a = some ob := by
  cases o with
  | lst xs => obtain ⟨_, _, _, _, e⟩ := x; exact ⟨_, e⟩
  | tup xs => obtain ⟨_, _, _, ob, e, _⟩ := x; exact ⟨_, e⟩
  | dK kvs => obtain ⟨_, _, _, _, o, _, _, e, _⟩ := x; exact ⟨_, e⟩
  | dT kvs => obtain ⟨_, _, _, _, o, _, _, e, _⟩ := x; exact ⟨_, e⟩
  | set S n => obtain ⟨o, _, _, _, e, _⟩ := x; exact ⟨_, e⟩
  | ins C dx fs => obtain ⟨_, _, _, e, _⟩ := x; exact ⟨_, e⟩
  | own y => obtain ⟨_, e⟩ := x; exact ⟨_, e⟩
  | xd fs => obtain ⟨_, ⟨_, _, _, e, _⟩, _⟩ := x; exact ⟨_, e⟩
  | rng lo hi => obtain ⟨_, _, _, e⟩ := x; exact ⟨_, e⟩
  | frz ob u => obtain ⟨e, _⟩ := x; exact ⟨_, e⟩
  | tbl ps => exact ⟨_, show h.get? a = some _ from x⟩
  | met f y => exact ⟨_, show h.get? a = some _ from x⟩
  | ext φ => obtain ⟨_, ⟨_, e⟩, _⟩ := x; exact ⟨_, e⟩
/-- it stands as it is -/
abbrev stands (b : Addr) (o : Obj) : HO := .ext fun h => h.get? b = some o
open Classical in
/-- the consumer's heap behind a waking: what was given to it, what stands as it is (the generator's own things) -/
noncomputable def wakeH (H Hg : Hp) (Gv : Addr → Prop) (E : Addr → Option Obj) : Hp := fun b => if Gv b then Hg b else match E b with
  | some o => some (stands b o)
  | none => H b
theorem wakeH_gv {H Hg : Hp} {Gv : Addr → Prop} {E : Addr → Option Obj} {b : Addr} (h : Gv b) : wakeH H Hg Gv E b = Hg b := by
  unfold wakeH
  rw [if_pos h]
theorem wakeH_E {H Hg : Hp} {Gv : Addr → Prop} {E : Addr → Option Obj} {b : Addr} {o : Obj} (h : ¬ Gv b) (e : E b = some o) : wakeH H Hg Gv E b = some (stands b o) := by
  unfold wakeH
  rw [if_neg h, e]
theorem wakeH_H {H Hg : Hp} {Gv : Addr → Prop} {E : Addr → Option Obj} {b : Addr} (h : ¬ Gv b) (e : E b = none) : wakeH H Hg Gv E b = H b := by
  unfold wakeH
  rw [if_neg h, e]
/-- the generator's context X, its consumer's Y; a: the generator's object, gi: its number -/
structure Two (X Y : Cx) (H0 : Hp) (a : Addr) (gi : Nat) : Prop where
  prog : X.prog = Y.prog
  w : X.w = Y.w
  base : X.base = Y.base
  out : X.outer = Y.stack
  ex : X.ex = []
  cells : ∀ x c, Y.env.cells.lookup x = some c → c < X.s_0.heap.objs.size
  bsz : X.base.objs.size ≤ X.s_0.heap.objs.size
  shr : Shr H0
  gen : ∃ go nm qn, X.pn = [(a, go)] ∧ go.cls = .type "generator" ∧ go.data = .fields #[.int gi 0, nm, qn] ∧ go.slots = #[]
/-- what the objects of the heap are: the consumer's (C), the base's, shared, or of no account for the consumer -/
def Cls (X Y : Cx) (H0 : Hp) (pins : List (Addr × Obj)) (C : Addr → Prop) (H : Hp) (s : Shared) : Prop := ∀ b o, s.heap.get? b = some o →
  C b ∨ (∃ o', Y.base.get? b = some o') ∨ (∃ u, H0 b = some u) ∨ (X.s_0.heap.objs.size ≤ b ∧ (b ∈ Y.ex ∨ Y.s_0.heap.objs.size ≤ b) ∧ H b = none ∧ b ≠ Y.env.locals ∧ ∀ p ∈ Y.pn ++ pins, p.1 ≠ b)
section
variable {X Y : Cx} {H0 : Hp} {a : Addr} {gi : Nat} {pins ip : List (Addr × Obj)} {σ σg : L2.St} {H Hg : Hp} {C Gv : Addr → Prop} {s s0 s1 s4 : Shared} {E : Addr → Option Obj}
theorem Two.fs (tw : Two X Y H0 a gi) : X.fs = frs Y.stack := by
  show frs X.outer = _
  rw [tw.out]
/-- what the consumer tracks is its own or shared -/
theorem told_cls (I : Inv Y pins σ H s) (cl : Cls X Y H0 pins C H s) {b : Addr} {u : HO} (e : H b = some u) : C b ∨ ∃ u, H0 b = some u := by
  obtain ⟨o, ho⟩ := objok_there (I.hok b u e)
  rcases cl b o ho with h | ⟨o', h⟩ | h | ⟨_, _, h, _⟩
  · exact .inl h
  · rw [(I.bs b o' h).2] at e; cases e
  · exact .inr h
  · rw [h] at e; cases e
noncomputable def cdec (p : Prop) : Bool := @decide p (Classical.propDecidable p)
theorem cdec_t {p : Prop} : cdec p = true ↔ p := ⟨@of_decide_eq_true p (Classical.propDecidable p), @decide_eq_true p (Classical.propDecidable p)⟩
noncomputable def others (Y : Cx) (H0 : Hp) (C : Addr → Prop) (h : Heap) : List Addr := (List.range h.objs.size).filter fun b => cdec ((∃ o, h.get? b = some o) ∧ ¬ (C b ∨ (∃ o', Y.base.get? b = some o') ∨ ∃ u, H0 b = some u))
theorem others_out {h : Heap} {b : Addr} {o : Obj} (e : h.get? b = some o) (n : b ∉ others Y H0 C h) : C b ∨ (∃ o', Y.base.get? b = some o') ∨ ∃ u, H0 b = some u := by
  refine Classical.byContradiction fun z => n ?_
  unfold others
  exact List.mem_filter.mpr ⟨List.mem_range.mpr (Heap.lt_size e), cdec_t.mpr ⟨⟨o, e⟩, z⟩⟩
theorem others_in {h : Heap} {b : Addr} (n : b ∈ others Y H0 C h) : (∃ o, h.get? b = some o) ∧ ¬ (C b ∨ (∃ o', Y.base.get? b = some o') ∨ ∃ u, H0 b = some u) := by
  unfold others at n
  exact cdec_t.mp (List.mem_filter.mp n).2
/-- THE CONSUMER BEHIND A WAKING -/
theorem after (tw : Two X Y H0 a gi) (I : Inv Y pins σ H s) (le : ∀ b u, H0 b = some u → H b = some u) (cl : Cls X Y H0 pins C H s) (G : GIx X C s0 ip σg Hg s1) (e0 : s0.heap = s.heap) (o0 : s0.os = s.os)
    (leg : ∀ b u, H0 b = some u → Hg b = some u) (hG : ∀ b, Gv b → (∃ xs, Hg b = some (.lst xs)) ∧ H0 b = none)
    (hE : ∀ b o, E b = some o → s1.heap.get? b = some o ∧ ¬ C b ∧ (∀ o', Y.base.get? b ≠ some o') ∧ H0 b = none ∧ ¬ Gv b)
    (k4 : ∀ b o, s1.heap.get? b = some o → s4.heap.get? b = some o) (o4 : s4.os = s1.os) (b4 : AllBare s4.gens) : Inv Y pins σ (wakeH H Hg Gv E) s4 := by
  obtain ⟨HW, pg, a1, Ig, a2, a3⟩ := G.inv
  have cu : ∀ b, C b → Hg b = none := G.aw.un
  have cu0 : ∀ b, C b → H0 b = none := fun b h => by
    cases q : H0 b with
    | none => rfl
    | some u => have z := leg b u q; rw [cu b h] at z; cases z
  have kp := G.kept tw.ex
  have bg : ∀ b o, Y.base.get? b = some o → s1.heap.get? b = some o ∧ Hg b = none := fun b o e => by
    rw [← tw.base] at e
    exact Ig.bs b o e
  have okg : HOk Y.prog Y.w Hg s1.heap := by
    have := Ig.hok
    rw [show (re X s0 HW).prog = Y.prog from tw.prog, show (re X s0 HW).w = Y.w from tw.w] at this
    exact this
  have told := fun {b : Addr} {u : HO} (e : H b = some u) => told_cls (X := X) I cl e
  have nG : ∀ {b : Addr}, (C b ∨ ∃ u, H0 b = some u) → ¬ Gv b := fun {b} h g => by
    obtain ⟨⟨xs, e⟩, n⟩ := hG b g
    rcases h with h | ⟨u, h⟩
    · rw [cu b h] at e; cases e
    · rw [n] at h; cases h
  have nE : ∀ {b : Addr}, (C b ∨ ∃ u, H0 b = some u) → E b = none := fun {b} h => by
    cases q : E b with
    | none => rfl
    | some o =>
      obtain ⟨_, h1, _, h2, _⟩ := hE b o q
      rcases h with h | ⟨u, h⟩
      · exact absurd h h1
      · rw [h2] at h; cases h
  have wk : ∀ {b : Addr} {u : HO}, H b = some u → wakeH H Hg Gv E b = some u := fun {b u} e => by
    rw [wakeH_H (nG (told e)) (nE (told e))]
    exact e
  have ef : (∀ b, b ∈ frs Y.stack ↔ b ∈ X.fs) := fun b => by rw [tw.fs]
  have kpC : ∀ {b : Addr} {o : Obj}, C b → s.heap.get? b = some o → (b ∉ frs Y.stack → s4.heap.get? b = some o) ∧ ∃ sl, s4.heap.get? b = some { o with slots := sl } := fun {b o} h e => by
    obtain ⟨q1, sl, q2⟩ := kp b o h (by rw [e0]; exact e)
    exact ⟨fun n => k4 _ _ (q1 fun z => n ((ef b).mpr z)), sl, k4 _ _ q2⟩
  have kpB : ∀ {b : Addr} {o o' : Obj}, Y.base.get? b = some o' → s.heap.get? b = some o → s4.heap.get? b = some o := fun {b o o'} h e => by
    have := I.bk b o' h
    rw [e] at this
    cases this
    exact k4 _ _ (bg b _ h).1
  refine I.call' (ch := others Y H0 C s.heap) ?_ ⟨fun b o e n hb hx => ?_, fun b o e n hb hx => ?_, fun b o e n hx => ?_, fun b o e hx => ?_, fun b xs e => wk e, fun b o u e => wk e, fun b ps e => ⟨#[], by rw [wk e]; simp⟩⟩ ?_ b4 ?_
  · rw [o4, Ig.os]
    exact o0
  · rcases others_out e hx with h | ⟨o', h⟩ | ⟨u, h⟩
    · exact (kpC h e).1 hb
    · exact kpB h e
    · rw [le b u h] at n; cases n
  · rcases others_out e hx with h | ⟨o', h⟩ | ⟨u, h⟩
    · exact (kpC h e).2
    · exact ⟨o.slots, kpB h e⟩
    · rw [le b u h] at n; cases n
  · rcases others_out e hx with h | ⟨o', h⟩ | ⟨u, h⟩
    · rw [wakeH_H (nG (.inl h)) (nE (.inl h))]; exact n
    · have g : ¬ Gv b := fun z => by
        obtain ⟨⟨xs, q⟩, _⟩ := hG b z
        rw [(bg b o' h).2] at q; cases q
      have ee : E b = none := by
        cases q : E b with
        | none => rfl
        | some ob => exact absurd h ((hE b ob q).2.2.1 o')
      rw [wakeH_H g ee]
      exact n
    · rw [le b u h] at n; cases n
  · rcases others_out e hx with h | ⟨o', h⟩ | ⟨u, h⟩
    · obtain ⟨_, sl, q⟩ := kpC h e
      exact ⟨_, q⟩
    · exact ⟨o, kpB h e⟩
    · obtain ⟨ob, q⟩ := objok_there (okg b u (leg b u h))
      exact ⟨ob, k4 _ _ q⟩
  · intro b u q
    by_cases g : Gv b
    · obtain ⟨⟨xs, hx⟩, _⟩ := hG b g
      rw [wakeH_gv g, hx] at q
      cases q
      have z := okg b _ hx
      exact (z.stay (H' := Hg) (h' := s4.heap) (fun c v _ e => k4 c v e) (fun _ e => e) fun _ _ e => e : ObjOk Y.prog Y.w Hg s4.heap b (.lst xs))
    cases ee : E b with
    | some o =>
      rw [wakeH_E g ee] at q
      cases q
      have q := k4 _ _ (hE b o ee).1
      exact ⟨q, ⟨o, q⟩, fun h1 h2 z k => k o z⟩
    | none =>
      rw [wakeH_H g ee] at q
      cases h0 : H0 b with
      | some u' =>
        have e1 := le b u' h0
        rw [q] at e1
        cases e1
        have z := (okg b u (leg b u h0)).stay (H' := Hg) (h' := s4.heap) (fun c v _ e => k4 c v e) (fun _ e => e) fun _ _ e => e
        refine objok_shr (tw.shr.kind b u h0) z fun Cc dx fs hu _ => ?_
        subst hu
        obtain ⟨d, _⟩ := I.hok b _ q
        exact wk d
      | none =>
        have hC : C b := (told q).elim id fun ⟨u', z⟩ => by rw [h0] at z; cases z
        refine (I.hok b u q).stay (fun c v hc e => ?_) (fun c e => wk e) fun c xs e => wk e
        have hcn : H c ≠ none := by
          rcases hc with rfl | hc
          · rw [q]; simp
          · rw [hc]; simp
        have nf : c ∉ frs Y.stack := fun z => hcn (I.stkFree c z)
        rcases hc with rfl | hc
        · exact (kpC hC e).1 nf
        · rcases told hc with h | ⟨u', h⟩
          · exact (kpC h e).1 nf
          · have e1 := le c u' h
            rw [hc] at e1
            cases e1
            obtain ⟨Cc, fs, z⟩ := tw.shr.own c b h
            rw [h0] at z; cases z
  · intro b hb
    obtain ⟨⟨o, e⟩, nn⟩ := others_in hb
    rcases cl b o e with h | h | h | ⟨h1, hx, _, h3, h4⟩
    · exact absurd (.inl h) nn
    · exact absurd (.inr (.inl h)) nn
    · exact absurd (.inr (.inr h)) nn
    · exact ⟨hx, h3, fun x c hx z => by
        have := tw.cells x c hx
        rw [z] at this
        exact Nat.lt_irrefl _ (Nat.lt_of_lt_of_le this h1), h4⟩
end
end GN
namespace GN
open PySem PySem.Spec PyProof.Rows L2 GenW
section
variable {X Y : Cx} {H0 : Hp} {a : Addr} {gi : Nat} {pins ip : List (Addr × Obj)} {σ σg σ2 : L2.St} {H Hg H2 : Hp} {C Gv : Addr → Prop} {s s0 s1 s2 s3 : Shared}
/-- what the generator keeps for itself, as it stands -/
noncomputable def keepE (X Y : Cx) (H0 : Hp) (C Gv : Addr → Prop) (h : Heap) : Addr → Option Obj := fun b =>
  if cdec (X.s_0.heap.objs.size ≤ b ∧ ¬ C b ∧ ¬ Gv b ∧ (∀ o', Y.base.get? b ≠ some o') ∧ H0 b = none) = true then h.get? b else none
theorem keepE_of {h : Heap} {b : Addr} {o : Obj} (h1 : X.s_0.heap.objs.size ≤ b) (h2 : ¬ C b) (h3 : ¬ Gv b) (h4 : ∀ o', Y.base.get? b ≠ some o') (h5 : H0 b = none) (e : h.get? b = some o) : keepE X Y H0 C Gv h b = some o := by
  unfold keepE
  rw [if_pos (cdec_t.mpr ⟨h1, h2, h3, h4, h5⟩)]
  exact e
theorem keepE_in {h : Heap} {b : Addr} {o : Obj} (q : keepE X Y H0 C Gv h b = some o) : (X.s_0.heap.objs.size ≤ b ∧ ¬ C b ∧ ¬ Gv b ∧ (∀ o', Y.base.get? b ≠ some o') ∧ H0 b = none) ∧ h.get? b = some o := by
  unfold keepE at q
  split at q
  · rename_i c
    exact ⟨cdec_t.mp c, q⟩
  · cases q
/-- THE GENERATOR BEHIND ITS CONSUMER'S TURN -/
theorem again (tw : Two X Y H0 a gi) (I : Inv Y pins σ H s) (cl : Cls X Y H0 pins C H s) (G : GIx X C s0 ip σg Hg s1) (e0 : s0.heap = s.heap) (o0 : s0.os = s.os) (leg : ∀ b u, H0 b = some u → Hg b = some u)
    (hG : ∀ b, Gv b → (∃ xs, Hg b = some (.lst xs)) ∧ H0 b = none) (g1 : Gone s s1) (I2 : Inv Y pins σ2 H2 s2) (le2 : ∀ b u, H0 b = some u → H2 b = some u) (g2 : Gone s1 s2)
    (kE : ∀ b o, keepE X Y H0 C Gv s1.heap b = some o → s2.heap.get? b = some o ∧ H2 b = none) (tidy : ∀ b o v, X.s_0.heap.objs.size ≤ b → s2.heap.get? b = some o → o.data = .cell v → H2 b = none ∧ (b ∈ Y.ex ∨ Y.s_0.heap.objs.size ≤ b))
    (h3 : s3.heap = s2.heap) (o3 : s3.os = s2.os) (b3 : AllBare s3.gens) :
    ∃ C3 : Addr → Prop, (∀ b, C3 b → C b ∨ s1.heap.objs.size ≤ b ∨ Gv b) ∧ CTurn X (dropL Gv Hg) (fun b => C b ∨ s1.heap.objs.size ≤ b ∨ Gv b) s1 s3 ∧ COk X C3 s3 ∧ Cls X Y H0 pins C3 H2 s2 := by
  obtain ⟨HW, pg, a1, Ig, a2, a3⟩ := G.inv
  have cu : ∀ b, C b → Hg b = none := G.aw.un
  have bg : ∀ b o, Y.base.get? b = some o → s1.heap.get? b = some o ∧ Hg b = none := fun b o e => by
    rw [← tw.base] at e
    exact Ig.bs b o e
  have okg : HOk Y.prog Y.w Hg s1.heap := by
    have := Ig.hok
    rw [show (re X s0 HW).prog = Y.prog from tw.prog, show (re X s0 HW).w = Y.w from tw.w] at this
    exact this
  have szs : X.s_0.heap.objs.size ≤ s.heap.objs.size := by rw [← e0]; exact G.w.size
  -- what stands at the item, is not the consumer's, not the base's and not shared is young
  have young : ∀ {b : Addr} {o : Obj}, s1.heap.get? b = some o → ¬ C b → (∀ o', Y.base.get? b ≠ some o') → H0 b = none → X.s_0.heap.objs.size ≤ b ∧ (b ∈ Y.ex ∨ Y.s_0.heap.objs.size ≤ b) ∧ (b < s.heap.objs.size → H b = none ∧ b ≠ Y.env.locals ∧ ∀ p ∈ Y.pn ++ pins, p.1 ≠ b) := fun {b o} e nc nb n0 => by
    by_cases hl : b < s.heap.objs.size
    · cases q : s.heap.get? b with
      | none => rw [g1.gone b hl q] at e; cases e
      | some o1 =>
        rcases cl b o1 q with h | ⟨o', h⟩ | ⟨u, h⟩ | h
        · exact absurd h nc
        · exact absurd h (nb o')
        · rw [n0] at h; cases h
        · exact ⟨h.1, h.2.1, fun _ => h.2.2⟩
    · exact ⟨Nat.le_trans szs (Nat.le_of_not_lt hl), .inr (Nat.le_trans I.sz (Nat.le_of_not_lt hl)), fun z => absurd z hl⟩
  have gvl : ∀ {b : Addr}, Gv b → Hg b ≠ none := fun {b} g z => by
    obtain ⟨⟨xs, q⟩, _⟩ := hG b g
    rw [z] at q; cases q
  have priv : ∀ {b : Addr} {o : Obj} {u : HO}, s1.heap.get? b = some o → Hg b = some u → (∀ xs, u ≠ .lst xs) ∨ ¬ Gv b → H0 b = none → keepE X Y H0 C Gv s1.heap b = some o := fun {b o u} e q hu n0 => by
    have nc : ¬ C b := fun z => by rw [cu b z] at q; cases q
    have nb : ∀ o', Y.base.get? b ≠ some o' := fun o' z => by rw [(bg b o' z).2] at q; cases q
    refine keepE_of (young e nc nb n0).1 nc (fun g => ?_) nb n0 e
    rcases hu with hu | hu
    · obtain ⟨⟨xs, z⟩, _⟩ := hG b g
      rw [q] at z
      exact hu xs (Option.some.inj z)
    · exact hu g
  refine ⟨fun b => (∃ o, s2.heap.get? b = some o ∧ ((∀ v, o.data ≠ .cell v) ∨ b < X.s_0.heap.objs.size)) ∧ (C b ∨ s1.heap.objs.size ≤ b ∨ Gv b) ∧ (∀ o', Y.base.get? b ≠ some o') ∧ H0 b = none, fun b h => h.2.1, ⟨?_, b3, ?_, fun b o n hd c e => ?_, ?_⟩, ⟨?_, ?_, ?_⟩, ?_⟩
  · rw [o3, I2.os, ← I.os, ← o0]
    exact Ig.os.symm
  · rw [h3]; exact g2.size
  · rw [h3]
    by_cases hb : ∃ o', Y.base.get? b = some o'
    · obtain ⟨o', hb⟩ := hb
      have z := (bg b o' hb).1
      rw [e] at z
      cases z
      exact I2.bk b o hb
    · have nb : ∀ o', Y.base.get? b ≠ some o' := fun o' z => hb ⟨o', z⟩
      have nc : ¬ C b := fun z => n (.inl z)
      have ng : ¬ Gv b := fun z => n (.inr (.inr z))
      rw [dropL_out ng] at hd
      have n0 : H0 b = none := by
        cases q : H0 b with
        | none => rfl
        | some u => have z := leg b u q; rw [hd] at z; cases z
      exact (kE b o (keepE_of (young e nc nb n0).1 nc ng nb n0 e)).1
  · rw [tw.prog, tw.w, h3]
    intro b u q
    obtain ⟨ng, q⟩ := dropL_some q
    cases h0 : H0 b with
    | some u' =>
      have z := leg b u' h0
      rw [q] at z
      cases z
      refine objok_shr (tw.shr.kind b u h0) (I2.hok b u (le2 b u h0)) fun Cc dx fs hu _ => ?_
      subst hu
      obtain ⟨d, _⟩ := okg b _ q
      rw [dropL_out fun g => ?_]
      · exact d
      · obtain ⟨⟨xs, z⟩, _⟩ := hG dx g
        rw [d] at z; cases z
    | none =>
      refine (okg b u q).stay (fun c v hc e => ?_) (fun c e => ?_) fun c xs e => ?_
      · rcases hc with rfl | hc
        · exact (kE c v (priv e q (.inr ng) h0)).1
        · refine (kE c v (priv e hc (.inl fun xs z => by cases z) ?_)).1
          cases z : H0 c with
          | none => rfl
          | some u' =>
            have e1 := leg c u' z
            rw [hc] at e1
            cases e1
            obtain ⟨Cc, fs, y⟩ := tw.shr.own c b z
            rw [h0] at y; cases y
      · rw [dropL_out fun g => ?_]
        · exact e
        · obtain ⟨⟨xs, z⟩, _⟩ := hG c g
          rw [e] at z; cases z
      · rw [dropL_out fun g => ?_]
        · exact e
        · obtain ⟨⟨xs, z⟩, _⟩ := hG c g
          rw [e] at z; cases z
  · rintro b ⟨⟨o, e, d⟩, _⟩
    exact ⟨o, by rw [h3]; exact e, d⟩
  · rw [h3, tw.base, tw.out]
    exact I2.stack
  · rw [h3]
    exact Nat.le_trans szs (Nat.le_trans g1.size g2.size)
  · intro b o e
    by_cases hb : ∃ o', Y.base.get? b = some o'
    · exact .inr (.inl hb)
    by_cases h0 : ∃ u, H0 b = some u
    · exact .inr (.inr (.inl h0))
    have nb : ∀ o', Y.base.get? b ≠ some o' := fun o' z => hb ⟨o', z⟩
    have n0 : H0 b = none := by
      cases q : H0 b with
      | none => rfl
      | some u => exact absurd ⟨u, q⟩ h0
    by_cases hok : C b ∨ s1.heap.objs.size ≤ b ∨ Gv b
    · by_cases hd : (∀ v, o.data ≠ .cell v) ∨ b < X.s_0.heap.objs.size
      · exact .inl ⟨⟨o, e, hd⟩, hok, nb, n0⟩
      · obtain ⟨v, hv⟩ : ∃ v, o.data = .cell v := Classical.byContradiction fun z => hd (.inl fun v hv => z ⟨v, hv⟩)
        have hy : X.s_0.heap.objs.size ≤ b := Nat.le_of_not_lt fun z => hd (.inr z)
        refine .inr (.inr (.inr ⟨hy, (tidy b o v hy e hv).2, (tidy b o v hy e hv).1, fun z => ?_, fun p hp z => ?_⟩))
        · obtain ⟨m, ⟨o', es, ep, ho', hd', _⟩, _⟩ := I2.loc
          rw [← z, e] at ho'
          cases ho'
          rw [hv] at hd'
          cases hd'
        · have hpp := I2.pin p hp
          rw [z, e] at hpp
          cases hpp.1
          exact hpp.2.2.2.2 v hv
    · have nc : ¬ C b := fun z => hok (.inl z)
      have ng : ¬ Gv b := fun z => hok (.inr (.inr z))
      have hl : b < s1.heap.objs.size := Nat.lt_of_not_le fun z => hok (.inr (.inl z))
      cases q : s1.heap.get? b with
      | none => rw [g2.gone b hl q] at e; cases e
      | some o1 =>
        obtain ⟨hy, hx, hr⟩ := young q nc nb n0
        refine .inr (.inr (.inr ⟨hy, hx, (kE b o1 (keepE_of hy nc ng nb n0 q)).2, ?_⟩))
        by_cases hs : b < s.heap.objs.size
        · exact (hr hs).2
        · refine ⟨fun z => hs (by rw [z]; exact I.lt), fun p hp z => hs ?_⟩
          rw [← z]
          exact Heap.lt_size (I.pin p hp).1
end
end GN
set_option Elab.async false
set_option linter.all false
set_option maxRecDepth 100000
set_option maxHeartbeats 2000000
namespace GN
open PySem PySem.Spec PyProof.Rows L2 GenW
section
variable {X Y : Cx} {H0 : Hp} {a : Addr} {gi N n : Nat} {pins ip : List (Addr × Obj)} {σ : L2.St} {H : Hp} {s : Shared} {Item : Nat → V → Hp → (Addr → Prop) → Prop} {Q : Nat → Hp → Prop}
/-- the dict of a shared object is where the object says -/
theorem shr_full {P : Program} {w : World} {H0 H : Hp} {h : Heap} (sh : Shr H0) (le : ∀ b u, H0 b = some u → (∀ a, u ≠ .own a) → H b = some u) (ok : HOk P w H h) : ∀ b u, H0 b = some u → H b = some u := fun b u e => by
  by_cases c : ∃ a, u = .own a
  · obtain ⟨a, rfl⟩ := c
    obtain ⟨C, fs, q⟩ := sh.own b a e
    obtain ⟨d, _⟩ := ok a _ (le a _ q fun a z => by cases z)
    exact d
  · exact le b u e fun a z => c ⟨a, z⟩
/-- the generator sleeps and may be woken at s -/
structure RdyX (N : Nat) (Item : Nat → V → Hp → (Addr → Prop) → Prop) (Q : Nat → Hp → Prop) (X Y : Cx) (H0 : Hp) (a : Addr) (gi : Nat) (pins : List (Addr × Obj)) (n : Nat) (s : Shared) (H : Hp) : Prop where
  isg : s.heap.IsGen a gi
  go : ∃ gs C, s.gens[gi]? = some gs ∧ GoesG (model Y.prog Y.w) Y.A.in1 (FX X N Q) (YX X N Item) n C gs (.send .none) (s.setGen gi .running) ∧ Cls X Y H0 pins C H s
/-- what a consumer knows behind an item -/
structure GotX (N : Nat) (Item : Nat → V → Hp → (Addr → Prop) → Prop) (Q : Nat → Hp → Prop) (X Y : Cx) (H0 : Hp) (a : Addr) (gi : Nat) (pins : List (Addr × Obj)) (σ : L2.St) (H : Hp) (m : Nat) (x : V) (Hg : Hp) (Gv : Addr → Prop) (E : Addr → Option Obj) (s4 : Shared) : Prop where
  gv : ∀ b, Gv b → ∃ xs, Hg b = some (.lst xs)
  gvn : ∀ b, Gv b → H b = none ∧ E b = none
  en : ∀ b o, E b = some o → H b = none
  fin : ∃ L : List Addr, ∀ b o, E b = some o → b ∈ L
  eb : ∀ b o, E b = some o → X.s_0.heap.objs.size ≤ b
  inv : Inv Y pins σ (wakeH H Hg Gv E) s4
  asl : Asl s4 gi
  again : ∀ σ2 H2 s2, Inv Y pins σ2 H2 s2 → (∀ b u, H0 b = some u → H2 b = some u) → Gone s4 s2 → (∀ b o, E b = some o → s2.heap.get? b = some o ∧ H2 b = none) →
    (∀ b o v, X.s_0.heap.objs.size ≤ b → s2.heap.get? b = some o → o.data = .cell v → H2 b = none ∧ (b ∈ Y.ex ∨ Y.s_0.heap.objs.size ≤ b)) → s2.gens[gi]? = s4.gens[gi]? → RdyX N Item Q X Y H0 a gi pins m s2 H2
theorem turnX {E' : Value → Shared → Prop} (tw : Two X Y H0 a gi) (hc : Y.calm = true) (hroom : Y.A.depth < recursionLimit) (hI : ∀ i x Hg Gv, Item i x Hg Gv → (∀ b u, H0 b = some u → (∀ a, u ≠ .own a) → Hg b = some u) ∧ ∀ b, Gv b → H0 b = none)
    (hQ : ∀ i Hg, Q i Hg → ∀ b u, H0 b = some u → (∀ a, u ≠ .own a) → Hg b = some u) (I : Inv Y pins σ H s) (le : ∀ b u, H0 b = some u → H b = some u) (nN : n ≤ N) (R : RdyX N Item Q X Y H0 a gi pins n s H) :
    wpAny (model Y.prog Y.w) Y.A (pyNext (.ref a)) (fun r s4 => match r with
      | none => Inv Y pins σ H s4 ∧ ∃ Hg, Q (N - n) Hg
      | some v => ∃ m x Hg Gv E, n = m + 1 ∧ RelV x v ∧ Item (N - n) x Hg Gv ∧ GotX N Item Q X Y H0 a gi pins σ H m x Hg Gv E s4) E' s := by
  obtain ⟨isg, gs, C, hgs, go, cl⟩ := R
  have gl : gi < s.gens.size := (Array.getElem?_eq_some_iff.mp hgs).1
  refine next_g (F := fun C n s₀ s => ∃ ip σ H, n ≤ N ∧ GIx X C s₀ ip σ H s ∧ Q (N - n) H) (Y := YX X N Item) (I.ok.hd hc) I.nolimit hroom isg hgs go (fun v s1 gs' hb gg hsu hy => ?_) fun s1 gg hf h' hk => ?_
  · obtain ⟨ip, σg, Hg, x, Gv, rv, G, hlt, hit, hG, hk⟩ := hy
    obtain ⟨leg0, gv0⟩ := hI _ _ _ _ hit
    have cu : ∀ b, C b → Hg b = none := G.aw.un
    obtain ⟨HW, pg, a1, Ig, a2, a3⟩ := id G.inv
    have leg := shr_full tw.shr leg0 Ig.hok
    have bare1 : AllBare s1.gens := Ig.bare
    cases n with
    | zero =>
      exfalso
      refine hk (fun _ => False) s1 (fun b h => h.elim) ⟨rfl, bare1, Nat.le_refl _, fun b o _ _ _ e => e, ?_⟩ ⟨fun b h => h.elim, Ig.funs, Nat.le_trans G.w.size gg.size⟩
      exact (inv_drop Ig hG).hok
    | succ m =>
      have hG2 : ∀ b, Gv b → (∃ xs, Hg b = some (.lst xs)) ∧ H0 b = none := fun b g => ⟨hG b g, gv0 b g⟩
      have gv1 : ∀ b, Gv b → H b = none := fun b g => by
        cases q : H b with
        | none => rfl
        | some u =>
          obtain ⟨xs, z⟩ := hG b g
          rcases told_cls (X := X) I cl q with h | ⟨u', h⟩
          · rw [cu b h] at z; cases z
          · rw [gv0 b g] at h; cases h
      have s4g : (s1.setGen gi gs').gens[gi]? = some gs' := setGen_at (Nat.lt_of_lt_of_le gl gg.gens)
      refine ⟨m, x, Hg, Gv, keepE X Y H0 C Gv s1.heap, rfl, rv, by rw [show N - (m + 1) = N - 1 - m by omega]; exact hit, hG, fun b g => ⟨gv1 b g, ?_⟩, fun b o e => ?_, ⟨List.range s1.heap.objs.size, fun b o e => List.mem_range.mpr (Heap.lt_size (keepE_in e).2)⟩, fun b o e => (keepE_in e).1.1, ?_, ?_, ?_⟩
      · cases q : keepE X Y H0 C Gv s1.heap b with
        | none => rfl
        | some o => exact absurd g (keepE_in q).1.2.2.1
      · obtain ⟨⟨_, h2, _, _, h5⟩, _⟩ := keepE_in e
        cases q : H b with
        | none => rfl
        | some u =>
          rcases told_cls (X := X) I cl q with h | ⟨u', h⟩
          · exact absurd h h2
          · rw [h5] at h; cases h
      · exact after tw I le cl G rfl rfl leg hG2 (fun b o e => by
          obtain ⟨⟨_, h2, h3, h4, h5⟩, h6⟩ := keepE_in e
          exact ⟨h6, h2, h4, h5, h3⟩) (fun _ _ e => e) rfl (allBare_setGen bare1 hb)
      · cases gs' with
        | suspended k l c p fs cl => exact ⟨_, _, _, _, _, _, s4g⟩
        | _ => exact hsu.elim
      · intro σ2 H2 s2 I2 le2 g2 kE tidy hgen
        have g2' : Gone s1 s2 := ⟨g2.size, g2.gone, by rw [← setGen_sz s1 gi gs']; exact g2.gens⟩
        obtain ⟨C3, hC, ct, w3, cl3⟩ := again (s3 := s2.setGen gi .running) tw I cl G rfl rfl leg hG2 gg I2 le2 g2' kE tidy rfl rfl (allBare_setGen I2.bare rfl)
        obtain ⟨o, nm, qn, hpn, hc1, hd1, hs1⟩ := tw.gen
        refine ⟨⟨o, nm, qn, ?_, hc1, hd1, hs1⟩, gs', C3, by rw [hgen]; exact s4g, hk C3 _ hC ct w3, cl3⟩
        have hm : (a, o) ∈ X.pn := by rw [hpn]; exact List.mem_singleton.mpr rfl
        obtain ⟨p1, p2, _⟩ := Ig.pin (a, o) (List.mem_append_left _ hm)
        have na : ¬ C a := fun z => G.aw.pin a z (a, o) (List.mem_append_left _ hm) rfl
        have ya : X.s_0.heap.objs.size ≤ a := G.aw.pinN (a, o) (List.mem_append_left _ hm)
        refine (kE a o (keepE_of ya na (fun g => ?_) (fun o' z => ?_) ?_ p1)).1
        · obtain ⟨xs, z⟩ := hG a g
          rw [show Hg a = none from p2] at z; cases z
        · rw [← tw.base] at z
          exact Nat.lt_irrefl _ (Nat.lt_of_lt_of_le (Heap.lt_size z) (Nat.le_trans tw.bsz ya))
        · cases z : H0 a with
          | none => rfl
          | some u => have := leg a u z; rw [show Hg a = none from p2] at this; cases this
  · obtain ⟨ip, σg, Hg, hn, G, hq⟩ := hf
    obtain ⟨HW, pg, a1, Ig, a2, a3⟩ := id G.inv
    refine ⟨?_, Hg, hq⟩
    have z := after (E := fun _ => none) (Gv := fun _ => False) (s4 := { s1.setGen gi .finished with heap := h' }) tw I le cl G rfl rfl (shr_full tw.shr (hQ _ _ hq) Ig.hok) (fun b g => g.elim) (fun b o e => by cases e) hk rfl (allBare_setGen Ig.bare rfl)
    have e : wakeH H Hg (fun _ => False) (fun _ => none) = H := by
      funext b
      rw [wakeH_H (fun g => g) rfl]
    rw [e] at z
    exact z
end
end GN
namespace GN
open PySem PySem.Spec PyProof.Rows L2 GenW
noncomputable def shrH (M : Addr → Prop) (H : Hp) : Hp := fun b => match H b with
  | some (.own a) => if cdec (¬ M a ∧ ∃ C fs, H a = some (.ins C b fs)) = true then some (.own a) else none
  | some u => if cdec (¬ M b ∧ Shk u) = true then some u else none
  | none => none
theorem shrH_sub {M : Addr → Prop} {H : Hp} {b : Addr} {u : HO} (h : shrH M H b = some u) : H b = some u := by
  unfold shrH at h
  cases q : H b with
  | none => rw [q] at h; cases h
  | some v =>
    rw [q] at h
    cases v <;> (dsimp only at h; split at h <;> first | exact h | cases h)
theorem shrH_in {M : Addr → Prop} {H : Hp} {b : Addr} {u : HO} (m : ¬ M b) (k : Shk u) (n : ∀ a, u ≠ .own a) (h : H b = some u) : shrH M H b = some u := by
  unfold shrH
  rw [h]
  cases u with
  | own a => exact absurd rfl (n a)
  | _ => first | exact if_pos (cdec_t.mpr ⟨m, k⟩) | exact k.elim
theorem shrH_shk {M : Addr → Prop} {H : Hp} {b : Addr} {u : HO} (h : shrH M H b = some u) : Shk u ∧ ((∀ a, u ≠ .own a) → ¬ M b) ∧ ∀ a, u = .own a → ¬ M a ∧ ∃ C fs, H a = some (.ins C b fs) := by
  unfold shrH at h
  cases q : H b with
  | none => rw [q] at h; cases h
  | some v =>
    rw [q] at h
    cases v with
    | own a =>
      dsimp only at h
      split at h
      · rename_i c
        cases h
        exact ⟨trivial, fun z => absurd rfl (z a), fun a' e => by cases e; exact cdec_t.mp c⟩
      · cases h
    | _ =>
      dsimp only at h
      split at h
      · rename_i c
        cases h
        exact ⟨(cdec_t.mp c).2, fun _ => (cdec_t.mp c).1, fun a' e => by cases e⟩
      · cases h
theorem shrH_shr {M : Addr → Prop} {H : Hp} : Shr (shrH M H) := ⟨fun b u h => (shrH_shk h).1, fun b a h => by
  obtain ⟨m, C, fs, e⟩ := (shrH_shk h).2.2 a rfl
  exact ⟨C, fs, shrH_in m trivial (fun a z => by cases z) e⟩⟩
theorem shrH_ok {P : Program} {w : World} {M : Addr → Prop} {H : Hp} {h : Heap} (x : HOk P w H h) : HOk P w (shrH M H) h := fun b u e => by
  refine objok_shr (shrH_shk e).1 (x b u (shrH_sub e)) fun C dx fs hu d => ?_
  subst hu
  have m := (shrH_shk e).2.1 fun a z => by cases z
  unfold shrH
  rw [d]
  exact if_pos (cdec_t.mpr ⟨m, C, fs, shrH_sub e⟩)
/-- an expression whose value is a generator that has not begun: σ, H; then the heap, what of it the generator is shown, the most items, each item, the end -/
abbrev TGX := L2.St → Hp → (Hp → Hp → Nat → (Nat → V → Hp → (Addr → Prop) → Prop) → (Nat → Hp → Prop) → Prop) → Prop
structure PGenX (X : Cx) (k : Nat) (e : Expr) (tg : TGX) : Prop where
  run : ∀ (pins : List (Addr × Obj)) (s : Shared) (σ : L2.St) (H : Hp) (cont : Hp → Hp → Nat → (Nat → V → Hp → (Addr → Prop) → Prop) → (Nat → Hp → Prop) → Prop), Inv X pins σ H s → tg σ H cont → wpAny (model X.prog X.w) X.A (eval e X.env)
    (fun u s' => ∃ H1 sc H0 N Item Q, Inv X pins σ H1 sc ∧ (∀ b u, H0 b = some u → H1 b = some u) ∧ Shr H0 ∧ HOk X.prog X.w H0 sc.heap ∧ GMadeX X.prog X.w X.base k X.stack H0 sc N Item Q u s' ∧ cont H1 H0 N Item Q) X.xe s
def tCallGX (sp : SpGX) (t : TA) : TGX := fun σ H cont => t σ H fun vs H1 => ∃ M N Item Q, sp vs (shrH M H1) N Item Q ∧ cont H1 (shrH M H1) N Item Q
/-- f(e, ..) of a generator def -/
theorem pgenx_call {X : Cx} {k : Nat} {f : Addr} {fd : FuncData} {ps : List Str} {sp : SpGX} {x : Str} {p pos : Pos} {e : Expr} {es : List Expr} {t : TA} (F : GFnX X.prog X.w X.K X.mg X.base k f fd ps sp) (hr : Room k X.A) (hg : Gl X x) (hm : X.mg x = some (.ref f)) (hk : PySem.W.keepIn X.K (.ref f) = true) (hb : Binds X.K fd ps [])
    (ha : PA X (e :: es) t) (hdb : (x == ("__debug__" : Str)) = false := by decide) (he : starEach (e :: es) X.env = (false, eval e X.env) :: starEach es X.env := by rfl) (hpl : (backTo pos (starEach es X.env)).any (·.1) = false := by rfl) :
    PGenX X k (.Call (.Name x p) (e :: es) [] pos) (tCallGX sp t) := by
  refine ⟨fun pins s σ H cont I h => ?_⟩
  refine wpAny_Call_Name_kw (ld_glob I hg hm ?_ hdb)
  refine PySem.W.callWith_K (h₀ := X.base) I.ok.mod.kin hk (thn (ha.run pos pins s σ H _ I h) fun us s1 ⟨vs, H1, I1, r, M, N, Item, Q, hs, hc⟩ => ⟨I1.kIn, ?_⟩) he hpl
  exact thn (run_gfnx F hr hb I1 (fun _ _ => shrH_sub) (shrH_ok I1.hok) r hs) fun u s2 hG => ⟨H1, s1, shrH M H1, N, Item, Q, I1, fun _ _ => shrH_sub, shrH_shr, shrH_ok I1.hok, hG, hc⟩
end GN
set_option Elab.async false
set_option linter.all false
set_option maxRecDepth 100000
set_option maxHeartbeats 2000000
namespace GN
open PySem PySem.Spec PyProof.Rows L2 GenW
theorem objok_trim {P : Program} {w : World} {H H' : Hp} {h : Heap} {a : Addr} {u : HO} (x : ObjOk P w H h a u) (k1 : ∀ dx, H dx = some (.own a) → (∃ m, h.Ns1 dx m) → H' dx = some (.own a)) (k2 : ∀ c xs, H c = some (.tup xs) → H' c = some (.tup xs)) : ObjOk P w H' h a u := by
  induction u with
  | lst xs => exact x
  | tup xs => exact x
  | dK kvs => exact x
  | dT kvs =>
    obtain ⟨z, y, xs, r, ob, es, ep, e, c⟩ := x
    exact ⟨z, y, xs, Paired.mapP r fun p q z => ⟨z.1, k2 _ _ z.2.1, z.2.2⟩, ob, es, ep, e, c⟩
  | set S n => exact x
  | rng lo hi => exact x
  | own y => exact x
  | ins C dx fs =>
    obtain ⟨d, z, ne, e, mA, r1, r2⟩ := x
    exact ⟨k1 dx d ⟨mA, r1⟩, z, ne, e, mA, r1, r2⟩
  | xd fs => exact x
  | frz o u ih =>
    obtain ⟨e, q⟩ := x
    exact ⟨e, ih q⟩
  | tbl ps => exact x
  | met f y => exact x
  | ext φ => exact x
theorem inv_trim {X : Cx} {pins : List (Addr × Obj)} {σ : L2.St} {H H8 : Hp} {s : Shared} (I : Inv X pins σ H s) (h8 : ∀ b, H8 b = H b ∨ (H8 b = none ∧ (∀ xs, H b ≠ some (.tup xs)) ∧ (∀ a, H b = some (.own a) → ¬ ∃ m, s.heap.Ns1 b m) ∧
    (∀ xs, X.H_0 b ≠ some (.tup xs)) ∧ (∀ o v, X.H_0 b ≠ some (.frz o v)) ∧ ∀ ps, X.H_0 b ≠ some (.tbl ps))) : Inv X pins σ H8 s := by
  have nn : ∀ b, H b = none → H8 b = none := fun b e => (h8 b).elim (fun z => by rw [z]; exact e) fun z => z.1
  obtain ⟨ok, os, bare, base, loc, cell, free, freeC, pin, hok, len⟩ := I
  refine ⟨ok, os, bare, ⟨base.keep, base.slot, fun b o e n hx => nn b (base.free b o e n hx), base.there, fun b xs e => ?_, fun b o u e => ?_, fun b ps e => ?_⟩, loc, cell, nn _ free, fun x c e => nn _ (freeC x c e), fun p hp => ?_, fun b u q => ?_, len⟩
  · rcases h8 b with z | z
    · rw [z]; exact base.tups b xs e
    · exact absurd e (z.2.2.2.1 xs)
  · rcases h8 b with z | z
    · rw [z]; exact base.frzs b o u e
    · exact absurd e (z.2.2.2.2.1 o u)
  · rcases h8 b with z | z
    · rw [z]; exact base.tbls b ps e
    · exact absurd e (z.2.2.2.2.2 ps)
  · obtain ⟨h1, h2, h3⟩ := pin p hp
    exact ⟨h1, nn _ h2, h3⟩
  · have q1 : H b = some u := by
      rcases h8 b with z | z
      · rw [← z]; exact q
      · rw [z.1] at q; cases q
    refine objok_trim (hok b u q1) (fun dx e hd => ?_) fun c xs e => ?_
    · rcases h8 dx with z | z
      · rw [z]; exact e
      · exact absurd hd (z.2.2.1 b e)
    · rcases h8 c with z | z
      · rw [z]; exact e
      · exact absurd e (z.2.1 xs)
theorem inv_gens {X : Cx} {pins : List (Addr × Obj)} {σ : L2.St} {H : Hp} {s s' : Shared} (I : Inv X pins σ H s) (h : s'.heap = s.heap) (o : s'.os = s.os) (b : AllBare s'.gens) : Inv X pins σ H s' := by
  obtain ⟨ok, os, bare, base, loc, cell, free, freeC, pin, hok, len⟩ := I
  refine ⟨ok, by rw [o]; exact os, b, ?_, ?_, ?_, free, freeC, ?_, ?_, len⟩ <;> rw [h] <;> assumption
/-- what is never a cell -/
def NCK : HO → Prop
  | .lst _ => True
  | .tup _ => True
  | .dK _ => True
  | .set _ _ => True
  | .rng _ _ => True
  | .ins _ _ _ => True
  | _ => False
theorem nck_cell {P : Program} {w : World} {H : Hp} {h : Heap} {a : Addr} {u : HO} (x : ObjOk P w H h a u) (k : NCK u) {o : Obj} {v : Option Value} (e : h.get? a = some o) (d : o.data = .cell v) : False := by
  cases u with
  | lst xs =>
    obtain ⟨_, its, n, _, q⟩ := x
    rw [e] at q; cases q; cases d
  | tup xs =>
    obtain ⟨_, its, _, ob, q, c⟩ := x
    rw [e] at q; cases q
    obtain ⟨n, hd⟩ := c.2
    rw [d] at hd; cases hd
  | dK kvs =>
    obtain ⟨_, _, vs, _, ob, es, ep, q, _, hd, _⟩ := x
    rw [e] at q; cases q
    rw [d] at hd; cases hd
  | set S n =>
    obtain ⟨ob, es, ep, t, q, _, hd, _⟩ := x
    rw [e] at q; cases q
    rw [d] at hd; cases hd
  | rng lo hi =>
    obtain ⟨t, u, v, q⟩ := x
    rw [e] at q; cases q; cases d
  | ins C dx fs =>
    obtain ⟨_, _, _, q, _⟩ := x
    rw [e] at q; cases q; cases d
  | _ => exact k.elim
end GN
set_option Elab.async false
set_option linter.all false
set_option maxRecDepth 100000
set_option maxHeartbeats 2000000
namespace GN
open PySem PySem.Spec PyProof.Rows L2 GenW G
def itemL (H0 : Hp) (ls : List (List Str)) : Nat → V → Hp → (Addr → Prop) → Prop := fun j x Hg Gv =>
  ∃ p l, ls[j]? = some l ∧ x = .ref p ∧ Hg p = some (.lst (l.map V.str)) ∧ (∀ b, Gv b ↔ b = p) ∧ (∀ b u, H0 b = some u → Hg b = some u) ∧ H0 p = none
def endL (H0 : Hp) (ls : List (List Str)) : Nat → Hp → Prop := fun j Hg => j = ls.length ∧ ∀ b u, H0 b = some u → Hg b = some u
/-- a promise of such a def: its arguments, its items -/
abbrev PGT := List G.Ty → List (List Str) → Prop
def spGX (B : Bs) (P : PGT) : SpGX := fun vs H0 N Item Q => ∃ (ts : List G.Ty) (ls : List (List Str)), DT (Wd.free B).toWc H0 vs ts ∧ P ts ls ∧ N = ls.length ∧ Item = itemL H0 ls ∧ Q = endL H0 ls
structure PoG where
  nx : Nat → Gam → Prop
  bk : Nat → Gam → Prop := fun _ _ => False
  ct : Nat → Gam → Prop := fun _ _ => False
abbrev Le (H H' : Hp) : Prop := ∀ b u, H b = some u → H' b = some u
structure EOkG (W : Wd) (H : Hp) (D : GEnds) (R : PoG) : Prop where
  nx : ∀ ys σ' H' Γ', Le H H' → GOk W H' σ' Γ' → R.nx ys.length Γ' → D.nx ys σ' H'
  bk : ∀ ys σ' H' Γ', Le H H' → GOk W H' σ' Γ' → R.bk ys.length Γ' → D.bk ys σ' H'
  ct : ∀ ys σ' H' Γ', Le H H' → GOk W H' σ' Γ' → R.ct ys.length Γ' → D.ct ys σ' H'
theorem EOkG.le {W : Wd} {H H1 : Hp} {D : GEnds} {R : PoG} (O : EOkG W H D R) (h : Le H H1) : EOkG W H1 D R := ⟨fun ys σ' H' Γ' f => O.nx ys σ' H' Γ' fun b u q => f b u (h b u q), fun ys σ' H' Γ' f => O.bk ys σ' H' Γ' fun b u q => f b u (h b u q), fun ys σ' H' Γ' f => O.ct ys σ' H' Γ' fun b u q => f b u (h b u q)⟩
/-- a statement of the def's body; F: what it was shown; n: how many items it has handed out -/
def SxG (W : Wd) (F : Hp) (t : TGn) (n : Nat) (Γ : Gam) (R : PoG) : Prop := ∀ D ys σ H, ys.length = n → Le F H → GOk W H σ Γ → EOkG W H D R → t D ys σ H
structure Fre (W : Wd) : Prop where
  mu : ∀ b, ¬ W.mu b
  ok : ∀ H, W.ok H
  wish : ∀ H, W.wish H
theorem fre_free {B : Bs} : Fre (Wd.free B) := ⟨fun _ h => h, fun _ => trivial, fun _ => trivial⟩
section
variable {g : TG} {tb : TGn} {D : GEnds} {σ : L2.St} {H : Hp} {ys : List V}
theorem gfor_list {K : PySem.W.Frag} {a : Addr} {xs : List V} (Pv : Nat → List V → L2.St → Hp → Prop) (h0 : Pv 0 ys σ H) (hl : ∀ i ys σ H, i ≤ xs.length → Pv i ys σ H → SqL K H a xs)
    (hs : ∀ i x ys σ H, xs[i]? = some x → Pv i ys σ H → g x σ H fun σ2 H2 => tb { D with nx := Pv (i + 1), ct := Pv (i + 1), bk := D.nx } ys σ2 H2) (hd : ∀ ys σ H, Pv xs.length ys σ H → D.nx ys σ H) :
    ∃ U : Nat → Nat → List V → L2.St → Hp → Prop, (∃ m, U 0 m ys σ H) ∧ ∀ i m ys σ H, U i m ys σ H → ((Itl K a).stop i H ∧ D.nx ys σ H) ∨ ((Itl K a).go i H ∧ ∃ N : List V → L2.St → Hp → Prop, (∀ ys' σ' H', N ys' σ' H' → ∃ m', m' < m ∧ U (i + 1) m' ys' σ' H') ∧
      ∀ x H', (Itl K a).yld i H x H' → g x σ H' fun σ2 H2 => tb { D with nx := N, ct := N, bk := D.nx } ys σ2 H2) := by
  refine ⟨fun i m ys σ H => m = xs.length - i ∧ i ≤ xs.length ∧ Pv i ys σ H, ⟨xs.length, by simp, Nat.zero_le _, h0⟩, ?_⟩
  rintro i m ys σ H ⟨rfl, hi, p⟩
  have q := hl i ys σ H hi p
  by_cases hlt : i < xs.length
  · refine .inr ⟨⟨xs, xs[i], q, by simp [hlt]⟩, Pv (i + 1), fun ys' σ' H' p' => ⟨xs.length - (i + 1), by omega, rfl, hlt, p'⟩, fun x H' y => ?_⟩
    obtain ⟨e, y⟩ := y
    subst e
    exact hs i x ys σ _ (y xs q) p
  · have e : i = xs.length := by omega
    subst e
    exact .inl ⟨⟨xs, q, Nat.le_refl _⟩, hd ys σ H p⟩
end
section
variable {W : Wd} {F : Hp} {Γ : Gam} {n : Nat} {R : PoG} {t : TS} {u v : TGn} {te : TE} {g : TG}
theorem Fre.up {W : Wd} (fr : Fre W) {H H' : Hp} (e : G.Ext W H H') : Le H H' := fun b u q => e.keep b u (fr.mu b) q
theorem Fre.ext {W : Wd} (fr : Fre W) {H H' : Hp} (e : Le H H') : G.Ext W H H' := ⟨fun b u _ q => e b u q, fr.ok _⟩
theorem sxg_plain (fr : Fre W) (h : Sx W t Γ { nx := R.nx n, bk := R.bk n, ct := R.ct n, rt := fun _ => False }) : SxG W F (tPlain t) n Γ R := fun D ys σ H hn hF go O => by
  subst hn
  exact h (D.at ys) σ H go ⟨fun σ' H' Γ' e go' q => O.nx ys σ' H' Γ' (fr.up e) go' q, fun _ _ _ _ _ q => q.elim, fun σ' H' Γ' e go' q => O.bk ys σ' H' Γ' (fr.up e) go' q, fun σ' H' Γ' e go' q => O.ct ys σ' H' Γ' (fr.up e) go' q⟩
theorem sxg_nil (q : R.nx n Γ) : SxG W F tG0 n Γ R := fun D ys σ H hn hF go O => by
  subst hn
  exact O.nx ys σ H Γ (fun _ _ q => q) go q
theorem sxg_then (h : SxG W F u n Γ { R with nx := fun n' Γ' => SxG W F v n' Γ' R }) : SxG W F (tGThen u v) n Γ R := fun D ys σ H hn hF go O =>
  h _ ys σ H hn hF go ⟨fun ys' σ' H' Γ' f go' q => q D ys' σ' H' rfl (fun b u z => f b u (hF b u z)) go' (O.le f), O.bk, O.ct⟩
/-- for x in a list -/
theorem sxg_forL {α : Type} {rα : G.Rep α} {K : PySem.W.Frag} (fr : Fre W) (hK : W.B.K = K) (h : EvK W te Γ fun as : List α => ∃ I : Nat → Nat → Gam → Prop, I 0 n Γ ∧
      (∀ (i : Nat) (a : α) m Γ', as[i]? = some a → I i m Γ' → Tg W g Γ' a fun Γ1 => SxG W F u m Γ1 { nx := I (i + 1), ct := I (i + 1), bk := R.nx }) ∧ ∀ m Γ', I as.length m Γ' → R.nx m Γ') : SxG W F (tGFor (iList K te) g u) n Γ R := by
  subst hK
  refine fun D ys σ H hn hF go O => h σ H _ go fun v H1 as e1 ⟨p, vs, hv, hp, hd⟩ ⟨I, h0, hs, hl⟩ => ?_
  subst hn
  have l1 := fr.up e1
  have kp : ∀ {H' : Hp}, Le H1 H' → Kp W.toWc H1 H' := fun f b u _ q => f b u q
  refine ⟨p, hv, ⟨vs, hp.sq⟩, gfor_list (K := W.B.K) (a := p) (xs := vs) (fun i ys' σ' H' => Le H1 H' ∧ ∃ Γ', GOk W H' σ' Γ' ∧ I i ys'.length Γ') ⟨fun _ _ q => q, Γ, go.ext e1, h0⟩ (fun i ys' σ' H' _ ⟨e, _⟩ => (hp.mono (kp e)).sq) ?_ ?_⟩
  · rintro i x ys' σ' H' hx ⟨e, Γ', G', q⟩
    obtain ⟨a, ha, da⟩ := (hd.imp fun _ _ d => G.Rep.mono (kp e) d).at hx
    obtain ⟨js, hj⟩ := hs i a ys'.length Γ' ha q
    refine hj σ' H' x _ G' da fun σ2 Γ2 G2 _ q2 => ?_
    refine q2 _ ys' σ2 H' rfl (fun b u z => e b u (l1 b u (hF b u z))) G2 ⟨fun ys3 σ3 H3 Γ3 e3 G3 q3 => ⟨fun b u z => e3 b u (e b u z), Γ3, G3, q3⟩, fun ys3 σ3 H3 Γ3 e3 G3 q3 => O.nx ys3 σ3 H3 Γ3 (fun b u z => e3 b u (e b u (l1 b u z))) G3 q3, fun ys3 σ3 H3 Γ3 e3 G3 q3 => ⟨fun b u z => e3 b u (e b u z), Γ3, G3, q3⟩⟩
  · rintro ys' σ' H' ⟨e, Γ', G', q⟩
    rw [hd.length] at q
    exact O.nx ys' σ' H' Γ' (fun b u z => e b u (l1 b u z)) G' (hl _ Γ' q)
theorem dl_str {W : Wc} {H : Hp} {vs : List V} {bs : List Str} (d : Dl (den W H) vs bs) : vs = bs.map V.str := by
  induction d with
  | nil => rfl
  | cons x _ ih => rw [List.map_cons, ← ih, show _ = V.str _ from x]
/-- yield of a new list of texts -/
theorem sxg_yield {ls : List (List Str)} (fr : Fre W) (hi : n < ls.length) (h : EvF W te Γ fun l : List Str => ls[n]? = some l ∧ R.nx (n + 1) Γ) : SxG W F (tGYieldX ls.length (itemL F ls) te) n Γ R := fun D ys σ H hn hF go O => by
  subst hn
  refine ⟨hi, h σ H _ go fun p H' vs bs hp e hl d ⟨hb, q⟩ => ?_⟩
  have ev := dl_str d
  subst ev
  have F0 : F p = none := by
    cases z : F p with
    | none => rfl
    | some u => rw [hF p u z] at hp; cases hp
  have l1 := fr.up e
  have drop : ∀ b u, b ≠ p → H' b = some u → dropL (fun b => b = p) H' b = some u := fun b u hb q => (dropL_out (Gv := fun b => b = p) hb).trans q
  have l2 : Le H (dropL (fun b => b = p) H') := fun b u z => drop b u (fun hb => by rw [hb, hp] at z; cases z) (l1 b u z)
  refine ⟨fun b => b = p, fun b hb => ⟨_, (congrArg H' hb).trans hl⟩, ⟨p, bs, hb, rfl, hl, fun b => Iff.rfl, fun b u z => l1 b u (hF b u z), F0⟩, O.nx (ys ++ [V.ref p]) σ _ Γ l2 (go.ext (fr.ext l2)) ?_⟩
  rw [List.length_append, List.length_singleton]
  exact q
end
/-- the def's body -/
theorem gbody_ok {B : Bs} {t : TGn} {Ns : List Str} {vs : List V} {H0 : Hp} {ts : List G.Ty} {ls : List (List Str)} {rt : List V → V → Hp → Prop} (d : DT (Wd.free B).toWc H0 vs ts)
    (hb : ∀ W : Wd, W.B = B → Fre W → SxG W H0 t 0 (ts.map some ++ List.replicate (Ns.length - ts.length) none) { nx := fun m _ => m = ls.length }) :
    t { nx := fun ys _ H' => endL H0 ls ys.length H', rt := rt } [] (L2.start Ns vs) H0 :=
  hb (Wd.free B) rfl fre_free _ [] _ H0 rfl (fun _ _ q => q) (start_ok trivial trivial d) ⟨fun ys σ' H' Γ' f _ q => ⟨q, f⟩, fun _ _ _ _ _ _ q => q.elim, fun _ _ _ _ _ _ q => q.elim⟩
/-- the promise of a generator def -/
theorem gfnx_at {P : Program} {w : World} {K : PySem.W.Frag} {mg : Str → Option Value} {base : Heap} {st : Stmt} {Ns ps : List Str} {k : Nat} {sp : SpGX} {f : Addr} {name qual : Str} (D : DefM K name qual st ps f) (S : GScope Ns ps (defScope st)) (len : ∀ vs H N I Q, sp vs H N I Q → vs.length = ps.length)
    (hbody : ∀ (cdv : Value) (A : Around) (outer : List Env) (s : Shared) (H : Hp) (vs : List V) (N : Nat) (Item : Nat → V → Hp → (Addr → Prop) → Prop) (Q : Nat → Hp → Prop) (pn : List (Addr × Obj)), Room k (A.deeper (envOfC qual (defScope st) s.heap.objs.size f cdv)) → sp vs H N Item Q →
      ∃ t, GSsx (gcxN P w K mg base Ns qual (defScope st) f cdv A outer s H pn) N Item (defBody st) t ∧ t { nx := fun ys _ H' => Q ys.length H', rt := fun ys v H' => v = .non ∧ Q ys.length H' } [] (start Ns vs) H) :
    ∃ fd, GFnX P w K mg base (k + 1) f fd ps sp ∧ Binds K fd ps [] := by
  obtain ⟨fd, F, b⟩ := D
  obtain ⟨oc, od, kV, doc, pm, an, cdv, ct, osl, rfl, l, c⟩ := F.ex
  exact ⟨_, gfnx_of l c S len fun A outer s H vs N Item Q pn hr h => hbody cdv A outer s H vs N Item Q pn hr h, b⟩
theorem glen_ok {B : Bs} {P : PGT} {n : Nat} (hn : ∀ ts ls, P ts ls → ts.length = n) : ∀ vs H N I Q, spGX B P vs H N I Q → vs.length = n := fun vs H N I Q ⟨ts, ls, d, hp, _⟩ => d.length.trans (hn ts ls hp)
end GN
set_option Elab.async false
set_option linter.all false
set_option maxRecDepth 100000
set_option maxHeartbeats 2000000
namespace GN
open PySem PySem.Spec PyProof.Rows L2 GenW G
theorem inv_around {X : Cx} {pins : List (Addr × Obj)} {σ : L2.St} {H : Hp} {s : Shared} {A' : Around} (I : Inv X pins σ H s) (hh : A'.handled = X.A.handled) (hf : A'.frames = X.A.frames) : Inv { X with A := A' } pins σ H s := by
  obtain ⟨ok, os, bare, base, loc, cell, free, freeC, pin, hok, len⟩ := I
  obtain ⟨o1, o2, o3, o4, o5, o6, o7, o8, o9, o10, o11, o12, o13, o14, o15, o16, o17, o18⟩ := ok
  exact ⟨⟨o1, o2, o3, o4, o5, o6, o7, o8, fun h => hh.trans (o9 h), hf.trans o10, o11, o12, o13, o14, o15, o16, o17, o18⟩, os, bare, base, loc, cell, free, freeC, pin, hok, len⟩
theorem drainX {X Y : Cx} {H0 H1 : Hp} {a S : Addr} {gi : Nat} {pins : List (Addr × Obj)} {σ : L2.St} {ls : List (List Str)} {R : Result → Shared → Prop} {res : Value} {A0 : Around} (tw : Two X Y H0 a gi) (hc : Y.calm = true) (hroom : Y.A.depth < recursionLimit) (hA : A0.in1 = Y.A) (hls : ls.length < sizeLine) (hys : Y.s_0.heap.objs.size ≤ X.s_0.heap.objs.size)
    (h0n : ∀ b, X.s_0.heap.objs.size ≤ b → (∀ xs, Y.H_0 b ≠ some (.tup xs)) ∧ (∀ o v, Y.H_0 b ≠ some (.frz o v)) ∧ ∀ ps, Y.H_0 b ≠ some (.tbl ps)) (h01 : ∀ b u, H0 b = some u → H1 b = some u) (h1n : ∀ b u, H1 b = some u → b < X.s_0.heap.objs.size)
    (hend : ∀ s' H' qs, Inv Y pins σ H' s' → (∀ b u, H1 b = some u → H' b = some u) → FF H1 H' S qs ls → R (.ok (.ret res)) s') :
    ∀ (n : Nat) (s : Shared) (H : Hp) (qs : List Addr), n + qs.length = ls.length → Inv Y pins σ H s → (∀ b u, H1 b = some u → H b = some u) → H S = some (.lst (qs.map V.ref)) → (∀ (j : Nat) (q : Addr) (l : List Str), qs[j]? = some q → ls[j]? = some l → H q = some (.lst (l.map V.str))) → (S :: qs).Nodup → (∀ b ∈ S :: qs, H1 b = none) →
      (∀ b u, X.s_0.heap.objs.size ≤ b → H b = some u → ∃ xs, u = .lst xs) → RdyX ls.length (itemL H0 ls) (endL H0 ls) X Y H0 a gi pins n s H → codeAny (model Y.prog Y.w) A0 (.builtin "list.extend.loop" ⟨[.ref S, .ref a, res], []⟩) R s := by
  intro n
  induction n with
  | zero =>
    intro s H qs hn I l1 hS hq nd new lst rd
    refine codeAny_builtin F.entry_extend_loop ?_
    rw [Around.under_plainId F.plain_extend_loop _]
    show wpAny _ A0.in1 (pyNext (.ref a) >>= _) _ _ s
    rw [hA]
    refine wpAny_bind (wpAny_mono (turnX (E' := fun _ _ => False) tw hc hroom (fun i x Hg Gv ⟨p, l, _, _, _, hgv, hle, hp0⟩ => ⟨fun b u z _ => hle b u z, fun b g => by rw [(hgv b).mp g]; exact hp0⟩) (fun i Hg ⟨_, hle⟩ b u z _ => hle b u z) I (fun b u z => l1 b u (h01 b u z)) (by omega) rd) (fun r s4 h4 => ?_) fun e s' z => z.elim)
    cases r with
    | none => exact wpAny_pure (hend s4 H qs h4.1 l1 ⟨new, nd, by omega, hS, hq⟩)
    | some v => obtain ⟨m, _, _, _, _, e, _⟩ := h4; cases e
  | succ m ih =>
    intro s H qs hn I l1 hS hq nd new lst rd
    refine codeAny_builtin F.entry_extend_loop ?_
    rw [Around.under_plainId F.plain_extend_loop _]
    show wpAny _ A0.in1 (pyNext (.ref a) >>= _) _ _ s
    rw [hA]
    refine wpAny_bind (wpAny_mono (turnX (E' := fun _ _ => False) tw hc hroom (fun i x Hg Gv ⟨p, l, _, _, _, hgv, hle, hp0⟩ => ⟨fun b u z _ => hle b u z, fun b g => by rw [(hgv b).mp g]; exact hp0⟩) (fun i Hg ⟨_, hle⟩ b u z _ => hle b u z) I (fun b u z => l1 b u (h01 b u z)) (by omega) rd) (fun r s4 h4 => ?_) fun e s' z => z.elim)
    cases r with
    | none => obtain ⟨_, Hg, he, _⟩ := h4; exfalso; omega
    | some v =>
      obtain ⟨m', x, Hg, Gv, E, e, rv, ⟨p, l, hl, rfl, hp, hgv, hle, hp0⟩, got⟩ := h4
      cases e
      have ev : v = .ref p := rv
      subst ev
      have gvp : Gv p := (hgv p).mpr rfl
      have pn : H p = none := (got.gvn p gvp).1
      have ngS : ¬ Gv S := fun g => by rw [(hgv S).mp g, pn] at hS; cases hS
      have eS : E S = none := by
        cases z : E S with
        | none => rfl
        | some o => rw [got.en S o z] at hS; cases hS
      have I4 := got.inv
      have wS : wakeH H Hg Gv E S = some (.lst (qs.map V.ref)) := by rw [wakeH_H ngS eS]; exact hS
      obtain ⟨hz, its, nn, hvs, hS4⟩ := I4.hok S _ wS
      have hil : its.length = qs.length := by rw [← hvs.length, List.length_map]
      have hsz : its.toArray.size < sizeLine := by
        show its.length < _
        omega
      show wpAny _ Y.A (updateSeq S (·.push (.ref p)) >>= _) _ _ _
      refine wpAny_bind ?_
      refine wpAny_updateSeq hS4 rfl (wpAny_pure ⟨plainId_quiet F.plain_extend_loop _, ?_⟩) (Nat.le_of_lt hsz) (by show (its.toArray.push (.ref p)).size ≤ sizeLine + 1; rw [Array.size_push]; omega)
      have keep : ∀ b o, b ≠ S → s4.heap.get? b = some o → (s4.heap.update S (Obj.mapSeq (·.push (Value.ref p)))).get? b = some o := fun b o hb e => (Heap.get?_update_other _ _ (Ne.symm hb)).trans e
      have hS5 := Heap.get?_update_self (Obj.mapSeq (·.push (Value.ref p))) hS4 rfl
      have I5 : Inv Y pins σ (upd (wakeH H Hg Gv E) S (.lst ((qs ++ [p]).map V.ref))) { s4 with heap := s4.heap.update S (Obj.mapSeq (·.push (Value.ref p))) } := by
        refine I4.write (x := S) (e := S) (t' := s4.toks) (by rw [wS]; trivial) (.inl rfl) keep ⟨_, hS5⟩ ⟨by rw [List.length_map, List.length_append, List.length_singleton]; omega, its ++ [.ref p], (if (its.toArray.push (Value.ref p)).size == its.toArray.size then nn else nn + 1), ?_, ?_⟩
        · rw [List.map_append]
          exact hvs.append (.cons rfl .nil)
        · exact hS5.trans (by simp only [Obj.mapSeq, List.push_toArray])
      have E5 : ∀ b o, E b = some o → b ≠ S := fun b o e z => by rw [z, eS] at e; cases e
      let H5 : Hp := fun b => if (E b).isSome then none else upd (wakeH H Hg Gv E) S (.lst ((qs ++ [p]).map V.ref)) b
      have e5n : ∀ b o, E b = some o → H5 b = none := fun b o e => if_pos (by rw [e]; rfl)
      have e5s : ∀ b, E b = none → H5 b = upd (wakeH H Hg Gv E) S (.lst ((qs ++ [p]).map V.ref)) b := fun b e => if_neg (by rw [e]; decide)
      have J5 : Inv Y pins σ H5 { s4 with heap := s4.heap.update S (Obj.mapSeq (·.push (Value.ref p))) } := inv_trim I5 fun b => by
        cases z : E b with
        | none => exact .inl (e5s b z)
        | some o =>
          have q : upd (wakeH H Hg Gv E) S (.lst ((qs ++ [p]).map V.ref)) b = some (stands b o) := by
            rw [upd_ne (E5 b o z), wakeH_E (fun g => by rw [(got.gvn b g).2] at z; cases z) z]
          exact .inr ⟨e5n b o z, fun xs y => (by rw [q] at y; cases y), fun a' y => (by rw [q] at y; cases y), h0n b (got.eb b o z)⟩
      have h5S : H5 S = some (.lst ((qs ++ [p]).map V.ref)) := by rw [e5s S eS, upd_same]
      have h5p : H5 p = some (.lst (l.map V.str)) := by
        rw [e5s p (got.gvn p gvp).2, upd_ne (fun z => ngS (by rw [← z]; exact gvp)), wakeH_gv gvp]
        exact hp
      have h5o : ∀ b u, b ≠ S → H b = some u → H5 b = some u := fun b u hb q => by
        have ng : ¬ Gv b := fun g => by rw [(got.gvn b g).1] at q; cases q
        have ne : E b = none := by
          cases z : E b with
          | none => rfl
          | some o => rw [got.en b o z] at q; cases q
        rw [e5s b ne, upd_ne hb, wakeH_H ng ne]
        exact q
      have pS : p ≠ S := fun z => ngS (by rw [← z]; exact gvp)
      have nd' : (S :: (qs ++ [p])).Nodup := by
        have h1 : (S :: qs).Nodup := nd
        have h2 : p ∉ S :: qs := fun hm => by
          rcases List.mem_cons.mp hm with z | z
          · exact pS z
          · obtain ⟨j, hj⟩ := List.getElem?_of_mem z
            have hjl : j < qs.length := (List.getElem?_eq_some_iff.mp hj).1
            obtain ⟨l', hl'⟩ : ∃ l', ls[j]? = some l' := ⟨ls[j], List.getElem?_eq_getElem (by omega)⟩
            rw [hq j p l' hj hl'] at pn
            cases pn
        rw [← List.cons_append]
        exact List.nodup_append.mpr ⟨h1, by simp, fun a ha b hb z => h2 (by rw [List.mem_singleton.mp hb] at z; rw [← z]; exact ha)⟩
      have new1 : H1 p = none := by
        cases z : H1 p with
        | none => rfl
        | some u => rw [l1 p u z] at pn; cases pn
      have lst5 : ∀ b u, X.s_0.heap.objs.size ≤ b → H5 b = some u → ∃ xs, u = .lst xs := fun b u hb q => by
        by_cases c1 : b = S
        · rw [c1, h5S] at q; cases q; exact ⟨_, rfl⟩
        by_cases c2 : b = p
        · rw [c2, h5p] at q; cases q; exact ⟨_, rfl⟩
        cases z : E b with
        | some o => rw [e5n b o z] at q; cases q
        | none =>
          rw [e5s b z, upd_ne c1, wakeH_H (fun g => c2 ((hgv b).mp g)) z] at q
          exact lst b u hb q
      have l15 : ∀ b u, H1 b = some u → H5 b = some u := fun b u q => h5o b u (fun z => by rw [z, new S List.mem_cons_self] at q; cases q) (l1 b u q)
      refine ih _ H5 (qs ++ [p]) (by rw [List.length_append, List.length_singleton]; omega) J5 l15 h5S (fun j q l' hj hl' => ?_) nd' (fun b hb => ?_) lst5 (got.again σ H5 _ J5 (fun b u z => l15 b u (h01 b u z)) (Gone.upd rfl (by rw [hS4]; rfl)) (fun b o e => ⟨keep b o (E5 b o e) ?_, e5n b o e⟩) (fun b o v hb e d => ?_) rfl)
      · by_cases hjl : j < qs.length
        · rw [List.getElem?_append_left hjl] at hj
          have q0 := hq j q l' hj hl'
          exact h5o q _ (fun z => (List.nodup_cons.mp nd).1 (by rw [← z]; exact List.mem_of_getElem? hj)) q0
        · have ej : j = qs.length := by
            have := (List.getElem?_eq_some_iff.mp hj).1
            rw [List.length_append, List.length_singleton] at this
            omega
          rw [ej, List.getElem?_append_right (Nat.le_refl _), Nat.sub_self] at hj
          cases hj
          rw [ej] at hl'
          rw [show ls.length - (m + 1) = qs.length by omega] at hl
          rw [hl] at hl'
          cases hl'
          exact h5p
      · rcases List.mem_cons.mp hb with z | z
        · rw [z]; exact new S List.mem_cons_self
        · rcases List.mem_append.mp z with z | z
          · exact new b (List.mem_cons_of_mem _ z)
          · rw [List.mem_singleton.mp z]; exact new1
      · have q : wakeH H Hg Gv E b = some (stands b o) := wakeH_E (fun g => by rw [(got.gvn b g).2] at e; cases e) e
        exact (I4.hok b _ q).1
      · refine ⟨?_, .inr (Nat.le_trans hys hb)⟩
        cases z : H5 b with
        | none => rfl
        | some u =>
          obtain ⟨xs, rfl⟩ := lst5 b u hb z
          exact (nck_cell (J5.hok b _ z) trivial e d).elim
/-- a generator just made; it is first woken at a later state, by a consumer Y -/
theorem startX2 {P : Program} {w : World} {base : Heap} {outer : List Env} {AY : Around} {k N : Nat} {Item : Nat → V → Hp → (Addr → Prop) → Prop} {Q : Nat → Hp → Prop} {H0 : Hp} {sc s' : Shared} {u : Value} (M : GMadeX P w base k outer H0 sc N Item Q u s')
    (shr : Shr H0) (ok0 : HOk P w H0 sc.heap) (room : Room k AY.in1) (hfr : AY.frames = some outer) (bsz : base.objs.size ≤ sc.heap.objs.size) :
    ∃ (a : Addr) (gi : Nat) (X : Cx), u = .ref a ∧ a < s'.heap.objs.size ∧ s'.heap.IsGen a gi ∧ X.s_0 = sc ∧ sc.heap.objs.size ≤ s'.heap.objs.size ∧ s'.heap.NoLimit ∧ s'.os = sc.os ∧ AllBare s'.gens ∧ (∀ b o, sc.heap.get? b = some o → s'.heap.get? b = some o) ∧
      ∀ (Y : Cx), Y.prog = P → Y.w = w → Y.base = base → Y.stack = outer → Y.A = AY → (∀ x c, Y.env.cells.lookup x = some c → c < sc.heap.objs.size) → Two X Y H0 a gi ∧
        ∀ pins σ s2 H2, Inv Y pins σ H2 s2 → (∀ b o, s'.heap.get? b = some o → s2.heap.get? b = some o) → s2.os = s'.os → s'.heap.objs.size ≤ s2.heap.objs.size → s2.gens[gi]? = s'.gens[gi]? →
          (∀ b, sc.heap.objs.size ≤ b → b < s'.heap.objs.size → (b ∈ Y.ex ∨ Y.s_0.heap.objs.size ≤ b) ∧ H2 b = none ∧ b ≠ Y.env.locals ∧ ∀ p ∈ Y.pn ++ pins, p.1 ≠ b) →
          (∀ b o v, sc.heap.objs.size ≤ b → s2.heap.get? b = some o → o.data = .cell v → H2 b = none ∧ (b ∈ Y.ex ∨ Y.s_0.heap.objs.size ≤ b)) → RdyX N Item Q X Y H0 a gi pins N s2 H2 := by
  obtain ⟨a, gi, c, rfl, ha1, ha2, hisg, hgs, hos, hbare, hnl, hkeep, hmk⟩ := M
  obtain ⟨X, hP, hw, hout, hbase, hex, hs0, hH0, ⟨go, hpn, hgo⟩, hseg⟩ := hmk AY.in1 room hfr
  obtain ⟨o, nm, qn, ho, hc1, hd1, hs1⟩ := id hisg
  rw [hgo] at ho
  cases ho
  have hl : sc.heap.objs.size ≤ s'.heap.objs.size := Nat.le_of_lt (Nat.lt_of_le_of_lt ha1 ha2)
  refine ⟨a, gi, X, rfl, ha2, hisg, hs0, hl, hnl, hos, hbare, hkeep, fun Y yP yw yb yo yA cells => ?_⟩
  subst yP yw yb yo yA
  have tw : Two X Y H0 a gi := ⟨hP, hw, hbase, hout, hex, fun x c e => by rw [hs0]; exact cells x c e, by rw [hbase, hs0]; exact bsz, shr, go, nm, qn, hpn, hc1, hd1, hs1⟩
  refine ⟨tw, fun pins σ s2 H2 I2 k2 o2 z2 g2 n2 tidy => ⟨hisg.keeps k2, .fresh c, fun b => (∃ o, s2.heap.get? b = some o ∧ ((∀ v, o.data ≠ .cell v) ∨ b < sc.heap.objs.size)) ∧ (b < sc.heap.objs.size ∨ s'.heap.objs.size ≤ b) ∧ (∀ o', Y.base.get? b ≠ some o') ∧ H0 b = none, by rw [g2]; exact hgs, ⟨rfl, ?_⟩, fun b o e => ?_⟩⟩
  · refine hseg _ _ (fun b h => h.2.2.2) (fun b h => h.2.1.imp (fun z => ⟨z, ?_⟩) id) ⟨o2, allBare_setGen I2.bare rfl, z2, fun b o _ _ _ e => k2 b o e, ?_⟩ ⟨?_, ?_, ?_⟩
    · cases z : Y.base.get? b with
      | none => rfl
      | some o' => exact absurd z (h.2.2.1 o')
    · rw [hP, hw]
      exact (ok0.kept hkeep).kept k2
    · rintro b ⟨⟨o, e, d⟩, _⟩
      exact ⟨o, e, by rw [hs0]; exact d⟩
    · rw [hbase, hout]
      exact I2.stack
    · rw [hs0]; exact Nat.le_trans hl z2
  · by_cases hb : ∃ o', Y.base.get? b = some o'
    · exact .inr (.inl hb)
    by_cases h0 : ∃ u, H0 b = some u
    · exact .inr (.inr (.inl h0))
    have n0 : H0 b = none := by
      cases q : H0 b with
      | none => rfl
      | some u => exact absurd ⟨u, q⟩ h0
    have nb : ∀ o', Y.base.get? b ≠ some o' := fun o' z => hb ⟨o', z⟩
    by_cases hy : b < sc.heap.objs.size
    · exact .inl ⟨⟨o, e, .inr hy⟩, .inl hy, nb, n0⟩
    have hy := Nat.le_of_not_lt hy
    by_cases hz : b < s'.heap.objs.size
    · exact .inr (.inr (.inr ⟨by rw [hs0]; exact hy, n2 b hy hz⟩))
    by_cases hd : ∀ v, o.data ≠ .cell v
    · exact .inl ⟨⟨o, e, .inl hd⟩, .inr (Nat.le_of_not_lt hz), nb, n0⟩
    · obtain ⟨v, hv⟩ : ∃ v, o.data = .cell v := Classical.byContradiction fun z => hd fun v hv => z ⟨v, hv⟩
      refine .inr (.inr (.inr ⟨by rw [hs0]; exact hy, (tidy b o v hy e hv).2, (tidy b o v hy e hv).1, fun z => ?_, fun p hp z => ?_⟩))
      · obtain ⟨m, ⟨o', es, ep, ho', hd', _⟩, _⟩ := I2.loc
        rw [← z, e] at ho'
        cases ho'
        rw [hv] at hd'
        cases hd'
      · have hpp := I2.pin p hp
        rw [z, e] at hpp
        cases hpp.1
        exact hpp.2.2.2.2 v hv
def tListGX (tgx : TGX) : TE := fun σ H Q => tgx σ H fun H1 H0 N Item Qe => ∃ ls : List (List Str), N = ls.length ∧ ls.length < sizeLine ∧ Item = itemL H0 ls ∧ Qe = endL H0 ls ∧ ∀ S qs H', (∀ b u, H1 b = some u → H' b = some u) → FF H1 H' S qs ls → Q (.ref S) H'
/-- list(g(..)) -/
theorem pe_listGX {X : Cx} {k : Nat} {e : Expr} {tgx : TGX} {nm : Str} {p pos : Pos} (h : PGenX X k e tgx) (hc : X.calm = true) (hr : Room (k + 3) X.A) (hg : Gl X nm) (hmg : X.mg nm = none) (hv : bootBuiltins nm = some (.type "list")) (hnm : nm ≠ "__name__" := by decide) (hdb : (nm == ("__debug__" : Str)) = false := by decide)
    (he : starEach [e] X.env = (false, eval e X.env) :: starEach [] X.env := by rfl) : PE X (.Call (.Name nm p) [e] [] pos) (tListGX tgx) := by
  refine ⟨fun pins s σ H Q I hq => ?_⟩
  refine wpAny_Call_Name_kw (ld_blt I hg hmg hv ?_ hnm hdb)
  refine PyProof.Rows.callWith_type1 ?_ he rfl
  rw [he]
  show wpAny _ _ (spliced ((false, eval e X.env) :: backTo pos (starEach [] X.env))) _ _ s
  refine Calls.spliced_cons (thn (h.run pins s σ H _ I hq) fun u s1 ⟨H1, sc, H0, N, Item, Qe, I1, le, shr, ok0, M, ls, eN, hls, eI, eQ, hQ⟩ => ?_)
  subst eN eI eQ
  refine Calls.spliced_nil ?_
  have IA : Inv { X with A := X.A.in1.in1 } pins σ H1 sc := inv_around I1 rfl rfl
  obtain ⟨a, gi, Xg, rfl, ha2, hg1, hs0, hl, hnl, hos1, hbare1, hkeep1, mk⟩ := startX2 (AY := X.A.in1.in1) M shr ok0 hr.in1.in1.in1 I1.ok.frames (Nat.le_trans I1.ok.bsz I1.sz)
  obtain ⟨tw, rdy⟩ := mk { X with A := X.A.in1.in1 } rfl rfl rfl rfl rfl fun x c e => by
    obtain ⟨v, o, ho, _⟩ := I1.cell x c e
    exact Heap.lt_size ho
  have IA1 : Inv { X with A := X.A.in1.in1 } pins σ H1 s1 := IA.call' (ch := []) hos1 (Un.kept hkeep1) (IA.hok.kept hkeep1) hbare1 fun b z => by simp at z
  have hSa : s1.heap.objs.size ≠ a := Nat.ne_of_gt ha2
  refine callType_codes (Q₁ := fun obj s₁ => obj = .ref s1.heap.objs.size ∧ s₁ = { s1 with heap := s1.heap.push { cls := .type "list", data := .seq #[] } }) F.called_list (F.typeCall_list_1 _) F.entry_list_init
    (code_list_new _ ⟨rfl, rfl⟩) fun obj s₁ h₁ => ?_
  obtain ⟨rfl, rfl⟩ := h₁
  have hS : (s1.heap.push { cls := .type "list", data := .seq #[] }).get? s1.heap.objs.size = some { cls := .type "list", data := .seq #[] } := Heap.get?_push_size _ rfl
  refine ⟨⟨_, hS, rfl⟩, F.args_list_init_2 _ _, ?_⟩
  show wpAny _ X.A.in1.in1 (do let old ← Builtin.List.listItems (.ref s1.heap.objs.size); Builtin.List.listUpdate (.ref s1.heap.objs.size) (fun _ => #[]); letGo old.toList.reverse; Builtin.List.listExtendWith (.ref s1.heap.objs.size) (.ref a) .none) _ _ _
  refine wpAny_bind ?_
  unfold Builtin.List.listItems
  refine wpAny_bind (wpAny_seqItems hS rfl (wpAny_pure ?_))
  show wpAny _ X.A.in1.in1 (updateSeq s1.heap.objs.size (fun _ => #[]) >>= fun _ => letGo (#[] : Array Value).toList.reverse >>= fun _ => Builtin.List.listExtendWith (.ref s1.heap.objs.size) (.ref a) .none) _ _ _
  refine wpAny_bind (wpAny_updateSeq hS rfl ?_)
  have hS2 := Heap.get?_update_self (Obj.mapSeq (fun _ => (#[] : Array Value))) hS rfl
  refine wpAny_bind (wpAny_letGo ?_)
  unfold Builtin.List.listExtendWith
  have up : ∀ (h : Heap) (f : Obj → Obj), (∀ b o, s1.heap.get? b = some o → h.get? b = some o) → ∀ b o, s1.heap.get? b = some o → (h.update s1.heap.objs.size f).get? b = some o := fun h f q b o e =>
    (Heap.get?_update_other _ _ (Ne.symm (Nat.ne_of_lt (Heap.lt_size e)))).trans (q b o e)
  have k1 : ∀ b o, s1.heap.get? b = some o → (s1.heap.push { cls := .type "list", data := .seq #[] }).get? b = some o := fun b o e => Heap.get?_push_of_some _ e
  have k2 := up _ (Obj.mapSeq (fun _ => (#[] : Array Value))) k1
  have gty : ∀ {h : Heap}, (∀ b o, s1.heap.get? b = some o → h.get? b = some o) → h.IsGen a gi := fun {h} q => hg1.keeps q
  refine wpAny_bind (wpAny_typeOf (Heap.IsGen.typeIs (s := { s1 with heap := _ }) (gty k2)) ?_)
  have h1 : Builtin.List.listSameRef (.ref s1.heap.objs.size) (.ref a) = false := by simp [Builtin.List.listSameRef, hSa]
  have h2 : (Value.type "generator" == Value.type "list") = false := by decide
  have h3 : (Value.type "generator" == Value.type "tuple") = false := by decide
  simp only [h1, h2, h3, Bool.or_false, Bool.false_eq_true, if_false]
  refine wpAny_bind (wpAny_pyIter_gen (s := { s1 with heap := _ }) (gty k2) ?_)
  refine wpAny_bind (wpAny_holding ?_)
  unfold Builtin.List.listLengthHint
  refine wpAny_bind (wpAny_specialOf (Heap.IsGen.typeIs (s := { s1 with heap := _ }) (gty k2)) F.gen_no_len ?_)
  show wpAny _ X.A.in1.in1 (specialOf (Value.ref a) (Str.ofString "__length_hint__") >>= _) _ _ _
  refine wpAny_bind (wpAny_specialOf (Heap.IsGen.typeIs (s := { s1 with heap := _ }) (gty k2)) F.gen_no_hint ?_)
  refine wpAny_pure ?_
  show wpAny _ X.A.in1.in1 (rule "list.extend.makes-room" >>= fun _ => Builtin.List.listTouch (.ref s1.heap.objs.size) >>= fun _ =>
    PySem.again (.builtin "list.extend.loop" ⟨[.ref s1.heap.objs.size, .ref a, .none], []⟩)) _ _ _
  refine wpAny_bind (wpAny_rule ?_)
  refine wpAny_bind ?_
  show wpAny _ X.A.in1.in1 (updateSeq s1.heap.objs.size (·.push .none) >>= fun _ => updateSeq s1.heap.objs.size (·.pop)) _ _ _
  refine wpAny_bind (wpAny_updateSeq hS2 rfl ?_)
  have hS3 := Heap.get?_update_self (Obj.mapSeq (·.push Value.none)) hS2 rfl
  refine wpAny_updateSeq (hz := by seq_fits) hS3 rfl ?_
  have hS4 := Heap.get?_update_self (Obj.mapSeq (·.pop)) hS3 rfl
  have k4 := up _ (Obj.mapSeq (·.pop)) (up _ (Obj.mapSeq (·.push Value.none)) k2)
  refine wpAny_pure ⟨plainId_quiet F.plain_extend_loop _, ?_⟩
  have n1S : H1 s1.heap.objs.size = none := IA1.hok.fresh (Nat.le_refl _)
  have I4 := IA1.laid (a := s1.heap.objs.size) (o := .lst []) (t' := s1.toks) k4 (Nat.le_refl _) ⟨Nat.zero_le _, [], 2, .nil, hS4⟩
  have h1lt : ∀ b u, H1 b = some u → b < sc.heap.objs.size := fun b u e => I1.hok.lt e
  have hh1 : ∀ b u, H1 b = some u → upd H1 s1.heap.objs.size (.lst []) b = some u := fun b u e => by rw [upd_ne (ne_of_none e n1S)]; exact e
  refine drainX (Y := { X with A := X.A.in1.in1 }) (A0 := X.A.in1) (H1 := H1) (σ := σ) (pins := pins) (ls := ls) tw hc ?_ rfl hls (by rw [hs0]; exact I1.sz) ?_ le (fun b u e => by rw [hs0]; exact h1lt b u e) (fun s' H' qs J l1 ff => ⟨rfl, ?_⟩) ls.length _ _ [] (by simp) I4 hh1 (by rw [upd_same]; rfl) (fun j q l hj _ => by simp at hj) (by simp) (fun b hb => by rw [List.mem_singleton.mp hb]; exact n1S) (fun b u hb q => ?_) (rdy _ _ _ _ I4 k4 rfl ?_ rfl (fun b hb hb2 => ⟨.inr (Nat.le_trans I1.sz hb), ?_, fun z => Nat.lt_irrefl _ (Nat.lt_of_lt_of_le (by rw [z]; exact I1.lt) hb), fun p hp z => Nat.lt_irrefl _ (Nat.lt_of_lt_of_le (by rw [← z]; exact Heap.lt_size (I1.pin p hp).1) hb)⟩) fun b o v hb e d => ⟨?_, .inr (Nat.le_trans I1.sz hb)⟩)
  · exact hr.in1.in1.depth
  · intro b hb
    rw [hs0] at hb
    have n1 : H1 b = none := I1.hok.fresh hb
    refine ⟨fun xs z => ?_, fun o v z => ?_, fun ps z => ?_⟩
    · have := I1.base.tups b xs z; rw [n1] at this; cases this
    · have := I1.base.frzs b o v z; rw [n1] at this; cases this
    · obtain ⟨_, this⟩ := I1.base.tbls b ps z; rw [n1] at this; cases this
  · rw [hs0] at hb
    by_cases z : b = s1.heap.objs.size
    · rw [z, upd_same] at q
      cases q
      exact ⟨_, rfl⟩
    · rw [upd_ne z] at q
      exact absurd (h1lt b u q) (Nat.not_lt.mpr hb)
  · simp only [Heap.size_update, Heap.size_push]
    exact Nat.le_succ _
  · rw [upd_ne (Nat.ne_of_lt hb2)]
    exact I1.hok.fresh hb
  · by_cases z : b = s1.heap.objs.size
    · rw [z] at e
      have e' := hS4.symm.trans e
      cases e'
      cases d
    · rw [upd_ne z]
      exact I1.hok.fresh hb
  · exact ⟨.ref s1.heap.objs.size, H', inv_around (X := { X with A := X.A.in1.in1 }) (A' := X.A) J rfl rfl, rfl, hQ _ qs H' l1 ff⟩
end GN
set_option Elab.async false
set_option linter.all false
set_option maxRecDepth 100000
set_option maxHeartbeats 2000000
namespace GN
open PySem PySem.Spec PyProof.Rows L2 GenW G
/-- at a turn's head: S the new list, qs what it holds, n: how many items may come -/
structure LsX (X Y : Cx) (H0 H1 : Hp) (a : Addr) (gi : Nat) (pins : List (Addr × Obj)) (ls : List (List Str)) (S : Addr) (σ : L2.St) (n : Nat) (s : Shared) (H : Hp) (qs : List Addr) : Prop where
  len : n + qs.length = ls.length
  inv : Inv Y pins σ H s
  le : ∀ b u, H1 b = some u → H b = some u
  hS : H S = some (.lst (qs.map V.ref))
  hq : ∀ (j : Nat) (q : Addr) (l : List Str), qs[j]? = some q → ls[j]? = some l → H q = some (.lst (l.map V.str))
  nd : (S :: qs).Nodup
  new : ∀ b ∈ S :: qs, H1 b = none
  lst : ∀ b u, X.s_0.heap.objs.size ≤ b → H b = some u → ∃ xs, u = .lst xs
  rdy : RdyX ls.length (itemL H0 ls) (endL H0 ls) X Y H0 a gi pins n s H
section
variable {X Y : Cx} {H0 H1 H : Hp} {a S : Addr} {gi n m : Nat} {pins : List (Addr × Obj)} {σ σ' : L2.St} {ls : List (List Str)} {s s4 s5 : Shared} {qs : List Addr}
theorem LsX.turn {E' : Value → Shared → Prop} (tw : Two X Y H0 a gi) (hc : Y.calm = true) (hroom : Y.A.depth < recursionLimit) (h01 : ∀ b u, H0 b = some u → H1 b = some u) (h : LsX X Y H0 H1 a gi pins ls S σ n s H qs) :
    wpAny (model Y.prog Y.w) Y.A (pyNext (.ref a)) (fun r s4 => match r with
      | none => Inv Y pins σ H s4 ∧ FF H1 H S qs ls
      | some v => ∃ m p l Hg Gv E, n = m + 1 ∧ v = .ref p ∧ ls[qs.length]? = some l ∧ Hg p = some (.lst (l.map V.str)) ∧ (∀ b, Gv b ↔ b = p) ∧ GotX ls.length (itemL H0 ls) (endL H0 ls) X Y H0 a gi pins σ H m (.ref p) Hg Gv E s4) E' s := by
  have hlen := h.len
  refine wpAny_mono (turnX (E' := fun _ _ => False) tw hc hroom (fun i x Hg Gv ⟨p, l, _, _, _, hgv, hle, hp0⟩ => ⟨fun b u z _ => hle b u z, fun b g => by rw [(hgv b).mp g]; exact hp0⟩) (fun i Hg ⟨_, hle⟩ b u z _ => hle b u z) h.inv (fun b u z => h.le b u (h01 b u z)) (by omega) h.rdy) (fun r s4 h4 => ?_) fun e s' z => z.elim
  cases r with
  | none =>
    obtain ⟨I4, Hg, he, _⟩ := h4
    exact ⟨I4, h.new, h.nd, by omega, h.hS, h.hq⟩
  | some v =>
    obtain ⟨m, x, Hg, Gv, E, rfl, rv, ⟨p, l, hl, rfl, hp, hgv, _, _⟩, got⟩ := h4
    have ev : v = .ref p := rv
    exact ⟨m, p, l, Hg, Gv, E, rfl, ev, by rw [show qs.length = ls.length - (m + 1) by omega]; exact hl, hp, hgv, got⟩
theorem LsX.step {p : Addr} {l : List Str} {Hg : Hp} {Gv : Addr → Prop} {E : Addr → Option Obj} (hys : Y.s_0.heap.objs.size ≤ X.s_0.heap.objs.size ∨ ∀ b, X.s_0.heap.objs.size ≤ b → b ∈ Y.ex ∨ Y.s_0.heap.objs.size ≤ b ∨ b = S)
    (h0n : ∀ b, X.s_0.heap.objs.size ≤ b → b ≠ S → (∀ xs, Y.H_0 b ≠ some (.tup xs)) ∧ (∀ o v, Y.H_0 b ≠ some (.frz o v)) ∧ ∀ ps, Y.H_0 b ≠ some (.tbl ps)) (h01 : ∀ b u, H0 b = some u → H1 b = some u) (h : LsX X Y H0 H1 a gi pins ls S σ (m + 1) s H qs)
    (hl : ls[qs.length]? = some l) (hp : Hg p = some (.lst (l.map V.str))) (hgv : ∀ b, Gv b ↔ b = p) (got : GotX ls.length (itemL H0 ls) (endL H0 ls) X Y H0 a gi pins σ H m (.ref p) Hg Gv E s4)
    (I5 : Inv Y pins σ' (upd (wakeH H Hg Gv E) S (.lst ((qs ++ [p]).map V.ref))) s5) (g5 : Gone s4 s5) (gn : s5.gens[gi]? = s4.gens[gi]?) : ∃ H5, LsX X Y H0 H1 a gi pins ls S σ' m s5 H5 (qs ++ [p]) := by
  have hlen := h.len
  have gvp : Gv p := (hgv p).mpr rfl
  have pn : H p = none := (got.gvn p gvp).1
  have hS := h.hS
  have ngS : ¬ Gv S := fun g => by rw [(hgv S).mp g, pn] at hS; cases hS
  have eS : E S = none := by
    cases z : E S with
    | none => rfl
    | some o => rw [got.en S o z] at hS; cases hS
  have E5 : ∀ b o, E b = some o → b ≠ S := fun b o e z => by rw [z, eS] at e; cases e
  let H5 : Hp := fun b => if (E b).isSome then none else upd (wakeH H Hg Gv E) S (.lst ((qs ++ [p]).map V.ref)) b
  have e5n : ∀ b o, E b = some o → H5 b = none := fun b o e => if_pos (by rw [e]; rfl)
  have e5s : ∀ b, E b = none → H5 b = upd (wakeH H Hg Gv E) S (.lst ((qs ++ [p]).map V.ref)) b := fun b e => if_neg (by rw [e]; decide)
  have e5w : ∀ b o, E b = some o → upd (wakeH H Hg Gv E) S (.lst ((qs ++ [p]).map V.ref)) b = some (stands b o) := fun b o z => by
    rw [upd_ne (E5 b o z), wakeH_E (fun g => by rw [(got.gvn b g).2] at z; cases z) z]
  have J5 : Inv Y pins σ' H5 s5 := inv_trim I5 fun b => by
    cases z : E b with
    | none => exact .inl (e5s b z)
    | some o =>
      have q := e5w b o z
      exact .inr ⟨e5n b o z, fun xs y => (by rw [q] at y; cases y), fun a' y => (by rw [q] at y; cases y), h0n b (got.eb b o z) (E5 b o z)⟩
  have h5S : H5 S = some (.lst ((qs ++ [p]).map V.ref)) := by rw [e5s S eS, upd_same]
  have pS : p ≠ S := fun z => ngS (by rw [← z]; exact gvp)
  have h5p : H5 p = some (.lst (l.map V.str)) := by
    rw [e5s p (got.gvn p gvp).2, upd_ne pS, wakeH_gv gvp]
    exact hp
  have h5o : ∀ b u, b ≠ S → H b = some u → H5 b = some u := fun b u hb q => by
    have ng : ¬ Gv b := fun g => by rw [(got.gvn b g).1] at q; cases q
    have ne : E b = none := by
      cases z : E b with
      | none => rfl
      | some o => rw [got.en b o z] at q; cases q
    rw [e5s b ne, upd_ne hb, wakeH_H ng ne]
    exact q
  have nd' : (S :: (qs ++ [p])).Nodup := by
    have h1 : (S :: qs).Nodup := h.nd
    have h2 : p ∉ S :: qs := fun hm => by
      rcases List.mem_cons.mp hm with z | z
      · exact pS z
      · obtain ⟨j, hj⟩ := List.getElem?_of_mem z
        have hjl : j < qs.length := (List.getElem?_eq_some_iff.mp hj).1
        obtain ⟨l', hl'⟩ : ∃ l', ls[j]? = some l' := ⟨ls[j], List.getElem?_eq_getElem (by omega)⟩
        rw [h.hq j p l' hj hl'] at pn
        cases pn
    rw [← List.cons_append]
    exact List.nodup_append.mpr ⟨h1, by simp, fun a ha b hb z => h2 (by rw [List.mem_singleton.mp hb] at z; rw [← z]; exact ha)⟩
  have new1 : H1 p = none := by
    cases z : H1 p with
    | none => rfl
    | some u => rw [h.le p u z] at pn; cases pn
  have lst5 : ∀ b u, X.s_0.heap.objs.size ≤ b → H5 b = some u → ∃ xs, u = .lst xs := fun b u hb q => by
    by_cases c1 : b = S
    · rw [c1, h5S] at q; cases q; exact ⟨_, rfl⟩
    by_cases c2 : b = p
    · rw [c2, h5p] at q; cases q; exact ⟨_, rfl⟩
    cases z : E b with
    | some o => rw [e5n b o z] at q; cases q
    | none =>
      rw [e5s b z, upd_ne c1, wakeH_H (fun g => c2 ((hgv b).mp g)) z] at q
      exact h.lst b u hb q
  have l15 : ∀ b u, H1 b = some u → H5 b = some u := fun b u q => h5o b u (fun z => by rw [z, h.new S List.mem_cons_self] at q; cases q) (h.le b u q)
  refine ⟨H5, by rw [List.length_append, List.length_singleton]; omega, J5, l15, h5S, fun j q l' hj hl' => ?_, nd', fun b hb => ?_, lst5, got.again σ' H5 _ J5 (fun b u z => l15 b u (h01 b u z)) g5 (fun b o e => ⟨(I5.hok b _ (e5w b o e)).1, e5n b o e⟩) (fun b o v hb e d => ?_) gn⟩
  · by_cases hjl : j < qs.length
    · rw [List.getElem?_append_left hjl] at hj
      exact h5o q _ (fun z => (List.nodup_cons.mp h.nd).1 (by rw [← z]; exact List.mem_of_getElem? hj)) (h.hq j q l' hj hl')
    · have ej : j = qs.length := by
        have := (List.getElem?_eq_some_iff.mp hj).1
        rw [List.length_append, List.length_singleton] at this
        omega
      rw [ej, List.getElem?_append_right (Nat.le_refl _), Nat.sub_self] at hj
      cases hj
      rw [ej, hl] at hl'
      cases hl'
      exact h5p
  · rcases List.mem_cons.mp hb with z | z
    · rw [z]; exact h.new S List.mem_cons_self
    · rcases List.mem_append.mp z with z | z
      · exact h.new b (List.mem_cons_of_mem _ z)
      · rw [List.mem_singleton.mp z]; exact new1
  · have bad : ∀ u, H5 b = some u → False := fun u z => by
      obtain ⟨xs, rfl⟩ := lst5 b u hb z
      exact nck_cell (J5.hok b _ z) trivial e d
    have nS : b ≠ S := fun z => bad _ (by rw [z]; exact h5S)
    refine ⟨?_, ?_⟩
    · cases z : H5 b with
      | none => rfl
      | some u => exact (bad u z).elim
    · rcases hys with y | y
      · exact .inr (Nat.le_trans y hb)
      · rcases y b hb with y | y | y
        · exact .inl y
        · exact .inr y
        · exact absurd y nS
end
theorem wpAny_deadF {α : Type} {M : Model} {A : Around} {m : Sem α} {Q : α → Shared → Prop} {s : Shared} (h : wpAny M A m Q (fun _ _ => False) (deadS s)) :
    wpAny M A m (fun a s1 => ∃ s', Q a s' ∧ Cw (Asl s) s s1 s') (fun _ _ => False) s := wpAny_mono (wpAny_dead h) (fun _ _ q => q) fun _ _ ⟨_, z, _⟩ => z.elim
theorem compGX_core {X : Cx} {k j : Nat} {pins : List (Addr × Obj)} {s : Shared} {σ : L2.St} {H : Hp} {Q : VK} {xn : Str} {px px2 : Pos} {iter : Expr} {scope : Scope} {own : List (Str × Nat)} {pos pos' : Pos} {tgx : TGX} {use : Option (Value → Sem Unit)} {Qf : Value → Shared → Prop}
    (hc : X.calm = true) (hN : X.N.Nodup) (hr : Room (k + 1) X.A) (I : Inv X pins σ H s) (hi : PGenX X k iter tgx) (ok : BlkOk X.N X.env.scope scope own) (hnc : ∀ y ∈ scope.names, y.2 ≠ .cell) (hj : j ∈ own.map (·.2))
    (hg : ∀ (s : Shared) (H : Hp) (C : Addr) (cl : List (Str × Addr)) (fp : List Addr), PG (X.blk s H scope (compEnvC scope cl C X.env) fp) (.Name xn px) (gName j))
    (he : ∀ (s : Shared) (H : Hp) (C : Addr) (cl : List (Str × Addr)) (fp : List Addr), PE (X.blk s H scope (compEnvC scope cl C X.env) fp) (.Name xn px2) (tVar j)) (hs : ∀ x, foldedSetIterable iter X.env x = pure x)
    (h : tListGX tgx σ H Q)
    (hRR : ∀ D C s' m H', Inv X pins σ H' s' → Q (.ref D) H' → s'.heap.Ns C m → FpOk X pins H' C → compPost (model X.prog X.w) X.A X.xe use Qf (.ref D) C (.ok .next) s') :
    wpAny (model X.prog X.w) X.A (comprehension (.ListComp (.Name xn px2) [⟨.Name xn px, iter, [], 0⟩] scope pos) scope X.env pos' (newList []) false (eval iter X.env) use) Qf X.xe s := by
  have hfree : ∀ y ∈ scope.names, y.2 = .free → ∃ c, X.env.cells.lookup y.1 = some c := fun y hy e => by
    rcases ok.free y hy e with k | k
    · exact I.ok.has _ (.inl k)
    · exact I.ok.has _ (.inr k)
  refine wpAny_comprehension_free (use := use) rfl hs (closure_ok hfree) ok.kind (fun y hy e => by rw [ok.uniq y hy, e])
    (thn (hi.run pins s σ H _ I h) fun u s1 ⟨H1, sc, H0, N, Item, Qe, I1, le, shr, ok0, M, ls, eN, hls, eI, eQ, hQ⟩ => ?_)
  subst eN eI eQ
  obtain ⟨a, gi, Xg, rfl, ha2, hg1, hs0, hl, hnl, hos1, hbare1, hkeep1, mk⟩ := startX2 (AY := X.A) M shr ok0 hr.in1 I1.ok.frames (Nat.le_trans I1.ok.bsz I1.sz)
  have I2 : Inv X pins σ H1 s1 := I1.call' (ch := []) hos1 (Un.kept hkeep1) (I1.hok.kept hkeep1) hbare1 fun b z => by simp at z
  refine wpAny_pyIter_gen hg1 ?_
  refine wpAny_newObj_type (newEnv_comp ?_) (by show 0 ≤ sizeLine; decide)
  generalize hD : s1.heap.objs.size = D
  have hDn : H1 D = none := I2.hok.fresh (Nat.le_of_eq hD)
  have h1lt : ∀ b u, H1 b = some u → b < sc.heap.objs.size := fun b u e => I1.hok.lt e
  generalize hs3 : ({ s1 with heap := s1.heap.push { cls := .type "list", data := .seq ([] : List Value).toArray } } : Shared) = s3
  have I3 : Inv X pins σ (upd H1 D (.lst [])) s3 := by
    rw [← hs3]
    refine I2.laid (t' := s1.toks) (fun b o e => Heap.get?_push_of_some _ e) (Nat.le_of_eq hD) ⟨Nat.zero_le _, [], 0, .nil, ?_⟩
    rw [← hD]
    exact Heap.get?_push_size _ rfl
  have h3 : s3.heap = s1.heap.push { cls := .type "list", data := .seq ([] : List Value).toArray } := by rw [← hs3]
  have z3 : s3.heap.objs.size = s1.heap.objs.size + 1 := by rw [h3, Heap.size_push]
  let fp : List Addr := (List.range s1.heap.objs.size).filter fun b => decide (sc.heap.objs.size ≤ b)
  have fpm : ∀ b, b ∈ fp ↔ (sc.heap.objs.size ≤ b ∧ b < s1.heap.objs.size) := fun b => by
    show b ∈ (List.range s1.heap.objs.size).filter _ ↔ _
    rw [List.mem_filter, List.mem_range, decide_eq_true_iff]
    exact And.comm
  have f3 : ∀ b ∈ fp, FpOk X pins (upd H1 D (.lst [])) b ∧ b < s3.heap.objs.size := fun b hb => by
    obtain ⟨h1, h2⟩ := (fpm b).mp hb
    refine ⟨⟨?_, fun z => Nat.lt_irrefl _ (Nat.lt_of_lt_of_le (by rw [z]; exact I1.lt) h1), I1.nofs h1, .inr (Nat.le_trans I1.sz h1), fun x c e z => ?_, fun p hp z => Nat.lt_irrefl _ (Nat.lt_of_lt_of_le (by rw [← z]; exact Heap.lt_size (I1.pin p hp).1) h1)⟩, by rw [z3]; exact Nat.lt_succ_of_lt h2⟩
    · rw [upd_ne (by rw [← hD]; exact Nat.ne_of_lt h2)]
      exact I1.hok.fresh h1
    · obtain ⟨v, o, ho, _⟩ := I1.cell x c e
      exact Nat.lt_irrefl _ (Nat.lt_of_lt_of_le (by rw [← z]; exact Heap.lt_size ho) h1)
  have I4 := block_start I3 ok hN f3
  have pg := hg s3 (upd H1 D (.lst [])) s3.heap.objs.size (cellsFrom (s3.heap.objs.size + 1) scope.names (cloFrom X.env.cells scope.names [])) fp
  have pe := he s3 (upd H1 D (.lst [])) s3.heap.objs.size (cellsFrom (s3.heap.objs.size + 1) scope.names (cloFrom X.env.cells scope.names [])) fp
  have ccl : ∀ x c, (compEnvC scope (cellsFrom (s3.heap.objs.size + 1) scope.names (cloFrom X.env.cells scope.names [])) s3.heap.objs.size X.env).cells.lookup x = some c → c < sc.heap.objs.size := fun x c e => by
    have e : (cellsFrom (s3.heap.objs.size + 1) scope.names (cloFrom X.env.cells scope.names [])).lookup x = some c := e
    rw [← Heap.size_push s3.heap { cls := .type "dict", data := .dict #[] }] at e
    rcases cells_mem (PySem.mem_of_lookup e) with hm | ⟨h1, _, _⟩
    · rcases cloFrom_mem hm with hm | ⟨h1, rfl⟩
      · cases hm
      · obtain ⟨c, hc'⟩ := hfree _ h1 rfl
        rw [hc']
        obtain ⟨v, o, ho, _⟩ := I1.cell _ _ hc'
        exact Heap.lt_size ho
    · exact absurd rfl (hnc _ h1)
  show codeAny _ _ (.compStart (.ListComp (.Name xn px2) [⟨.Name xn px, iter, [], 0⟩] scope pos) 0 (.ref a) (.ref D) (compEnvC scope (cellsFrom (s3.heap.objs.size + 1) scope.names (cloFrom X.env.cells scope.names [])) s3.heap.objs.size X.env)) (compPost (model X.prog X.w) X.A X.xe use Qf (.ref D) s3.heap.objs.size) { s3 with heap := pushCells (s3.heap.push { cls := .type "dict", data := .dict #[] }) scope.names }
  generalize hce : compEnvC scope (cellsFrom (s3.heap.objs.size + 1) scope.names (cloFrom X.env.cells scope.names [])) s3.heap.objs.size X.env = ce at I4 pg pe ccl ⊢
  have cL : ce.locals = s3.heap.objs.size := by subst hce; rfl
  generalize hH3 : upd H1 D (.lst []) = H3 at I3 I4 pg pe f3
  generalize hs4 : ({ s3 with heap := pushCells (s3.heap.push { cls := .type "dict", data := .dict #[] }) scope.names } : Shared) = s4 at I4 ⊢
  have k14 : ∀ b o, s1.heap.get? b = some o → s4.heap.get? b = some o := fun b o e => by
    rw [← hs4]
    refine pushCells_keeps _ _ _ _ (Heap.get?_push_of_some _ ?_)
    rw [h3]
    exact Heap.get?_push_of_some _ e
  obtain ⟨tw, rdy⟩ := mk (X.blk s3 H3 scope ce fp) rfl rfl rfl rfl rfl ccl
  have z4 : s3.heap.objs.size ≤ s4.heap.objs.size := by
    rw [← hs4]
    refine Nat.le_trans ?_ (pushCells_size _ _)
    rw [Heap.size_push]
    exact Nat.le_succ _
  have hys : ∀ b, Xg.s_0.heap.objs.size ≤ b → b ∈ fp ∨ s3.heap.objs.size ≤ b ∨ b = D := fun b hb => by
    rw [hs0] at hb
    by_cases c : b < s1.heap.objs.size
    · exact .inl ((fpm b).mpr ⟨hb, c⟩)
    · by_cases c2 : b = D
      · exact .inr (.inr c2)
      · exact .inr (.inl (by rw [z3]; exact Nat.lt_of_le_of_ne (Nat.le_of_not_lt c) fun z => c2 (by rw [← z, hD])))
  have h0n : ∀ b, Xg.s_0.heap.objs.size ≤ b → b ≠ D → (∀ xs, H3 b ≠ some (.tup xs)) ∧ (∀ o v, H3 b ≠ some (.frz o v)) ∧ ∀ ps, H3 b ≠ some (.tbl ps) := fun b hb hbD => by
    rw [hs0] at hb
    have n1 : H3 b = none := by
      rw [← hH3, upd_ne hbD]
      exact I1.hok.fresh hb
    rw [n1]
    exact ⟨fun _ z => (by cases z), fun _ _ z => (by cases z), fun _ z => (by cases z)⟩
  have L0 : LsX Xg (X.blk s3 H3 scope ce fp) H0 H1 a gi [] ls D (wipe σ (own.map (·.2))) ls.length s4 H3 [] := by
    have l13 : ∀ b u, H1 b = some u → H3 b = some u := fun b u e => by rw [← hH3, upd_ne (ne_of_none e hDn)]; exact e
    have y3 : ∀ b u, sc.heap.objs.size ≤ b → H3 b = some u → ∃ xs, u = .lst xs := fun b u hb q => by
      by_cases z : b = D
      · rw [← hH3, z, upd_same] at q
        cases q
        exact ⟨_, rfl⟩
      · rw [← hH3, upd_ne z, I1.hok.fresh hb] at q
        cases q
    refine ⟨by simp, I4, l13, by rw [← hH3, upd_same]; rfl, fun j q l hj _ => by simp at hj, by simp, fun b hb => by rw [List.mem_singleton.mp hb]; exact hDn, fun b u hb q => y3 b u (by rw [← hs0]; exact hb) q, rdy [] _ s4 H3 I4 k14 (by rw [← hs4, ← hs3]) (by omega) (by rw [← hs4, ← hs3]) (fun b hb hb2 => ⟨.inl ((fpm b).mpr ⟨hb, hb2⟩), ?_, ?_, fun p hp => absurd (show p ∈ ([] : List (Addr × Obj)) ++ [] from hp) (by simp)⟩) fun b o v hb e d => ?_⟩
    · rw [← hH3, upd_ne (by rw [← hD]; exact Nat.ne_of_lt hb2)]
      exact I1.hok.fresh hb
    · show b ≠ ce.locals
      rw [cL, z3]
      exact Nat.ne_of_lt (Nat.lt_succ_of_lt hb2)
    · have bad : ∀ u, H3 b = some u → False := fun u z => by
        obtain ⟨xs, rfl⟩ := y3 b u hb z
        exact nck_cell (I4.hok b _ z) trivial e d
      refine ⟨?_, ?_⟩
      · cases z : H3 b with
        | none => rfl
        | some u => exact (bad u z).elim
      · rcases hys b (by rw [hs0]; exact hb) with y | y | y
        · exact .inl y
        · exact .inr y
        · exact (bad (.lst []) (by rw [y, ← hH3, upd_same])).elim
  have loop : codeAny (model X.prog X.w) X.A (.compLoop (.ListComp (.Name xn px2) [⟨.Name xn px, iter, [], 0⟩] scope pos) 0 (.ref a) (.ref D) ce) (compPost (model X.prog X.w) X.A X.xe use Qf (.ref D) s3.heap.objs.size) s4 := by
    refine compLoop_any (fun n s' => ∃ H' qs, LsX Xg (X.blk s3 H3 scope ce fp) H0 H1 a gi [] ls D (wipe σ (own.map (·.2))) n s' H' qs) ?_ ls.length ⟨H3, [], L0⟩
    rintro n s5 ⟨H5, qs, L⟩
    refine thnF (L.turn (Y := X.blk s3 H3 scope ce fp) tw hc hr.depth le) fun r s6 h6 => ?_
    cases r with
    | none =>
      obtain ⟨I6, ff⟩ := h6
      have I7 : Inv X pins σ H5 s6 := I3.call' (ch := fp) I6.os I6.base I6.hok I6.bare fun b hb => ⟨(f3 b hb).1.2.2.2.1, (f3 b hb).1.2.1, (f3 b hb).1.2.2.2.2.1, (f3 b hb).1.2.2.2.2.2⟩
      have nC : H5 s3.heap.objs.size = none := by
        have z : H5 ce.locals = none := I6.free
        rw [cL] at z
        exact z
      obtain ⟨m, hn, _⟩ := I6.loc
      have hn : s6.heap.Ns ce.locals m := hn
      rw [cL] at hn
      exact hRR D s3.heap.objs.size s6 m H5 I7 (hQ D qs H5 L.le ff) hn (I3.fpOk (Nat.le_refl _) nC)
    | some v =>
      obtain ⟨m, p, l, Hg, Gv, E, rfl, rfl, hl', hp, hgv, got⟩ := h6
      refine wpAny_of_eq (a := ()) rfl ?_
      have I6 := got.inv
      have hwl : j < (wipe σ (own.map (·.2))).length := by
        rw [wipe_length, I1.len]
        obtain ⟨q, hq, rfl⟩ := List.mem_map.mp hj
        exact (List.getElem?_eq_some_iff.mp (ok.ix q hq)).1
      refine thnF (wpAny_deadF (pg.run [] (deadS s6) _ _ (.ref p) (.ref p) (fun σ' H' => σ' = (wipe σ (own.map (·.2))).set j (some (.ref p)) ∧ H' = wakeH H5 Hg Gv E) (inv_gens I6 rfl rfl (dead_bare I6.bare)) rfl ⟨rfl, rfl⟩)) fun _ s7 hs7 => ?_
      obtain ⟨s7', ⟨σ7, H7, I7', rfl, rfl⟩, c7⟩ := hs7
      have I7 := inv_gens I7' c7.rel.heap c7.rel.os (c7.bare I7'.bare)
      refine thnF (wpAny_tests_nil (E := fun _ _ => False) (Q := fun b s' => b = true ∧ s' = s7) ⟨rfl, rfl⟩) fun b s8 hb => ?_
      obtain ⟨rfl, rfl⟩ := hb
      rw [if_pos rfl]
      refine thnF (wpAny_deadF (pe.run [] (deadS s8) _ _ (fun y H' => y = .ref p ∧ H' = wakeH H5 Hg Gv E) (inv_gens I7 rfl rfl (dead_bare I7.bare)) ⟨.ref p, List.getElem?_set_self hwl, rfl, rfl⟩)) fun z s9 hs9 => ?_
      obtain ⟨s9', ⟨y, H9, I9', r9, rfl, rfl⟩, c9⟩ := hs9
      have ez : z = .ref p := r9
      subst ez
      have I9 := inv_gens I9' c9.rel.heap c9.rel.os (c9.bare I9'.bare)
      have gvp : Gv p := (hgv p).mpr rfl
      have pn : H5 p = none := (got.gvn p gvp).1
      have hSS := L.hS
      have ngS : ¬ Gv D := fun g => by rw [(hgv D).mp g, pn] at hSS; cases hSS
      have eS : E D = none := by
        cases z : E D with
        | none => rfl
        | some o => rw [got.en D o z] at hSS; cases hSS
      have wS : wakeH H5 Hg Gv E D = some (.lst (qs.map V.ref)) := by rw [wakeH_H ngS eS]; exact hSS
      have hlen := L.len
      refine thnF (wpAny_deadF (app_ok (X := X.blk s3 H3 scope ce fp) (E := fun _ _ => False) (y := .ref p) (Q := fun _ s' => Inv (X.blk s3 H3 scope ce fp) [] ((wipe σ (own.map (·.2))).set j (some (.ref p))) (upd (wakeH H5 Hg Gv E) D (.lst (qs.map V.ref ++ [.ref p]))) s') (inv_gens I9 rfl rfl (dead_bare I9.bare)) wS (by rw [List.length_map]; omega) rfl fun s' I' => I')) fun _ s10 hs10 => ?_
      obtain ⟨s10', I10', c10⟩ := hs10
      have I10 := inv_gens I10' c10.rel.heap c10.rel.os (c10.bare I10'.bare)
      have em : qs.map V.ref ++ [V.ref p] = (qs ++ [p]).map V.ref := by rw [List.map_append]; rfl
      rw [em] at I10
      have Iw : Inv (X.blk s3 H3 scope ce fp) [] (wipe σ (own.map (·.2))) (upd (wakeH H5 Hg Gv E) D (.lst ((qs ++ [p]).map V.ref))) s10 := I10.weak (by rw [List.length_set]) fun i v e => by
        by_cases z : j = i
        · exfalso
          subst z
          exact (wipe_some e).2 hj
        · rw [List.getElem?_set_ne z]; exact e
      have g7 : s8.gens[gi]? = s6.gens[gi]? := c7.kept gi got.asl
      have g9 : s9.gens[gi]? = s6.gens[gi]? := (c9.kept gi (by unfold Asl; rw [g7]; exact got.asl)).trans g7
      have g10 : s10.gens[gi]? = s6.gens[gi]? := (c10.kept gi (by unfold Asl; rw [g9]; exact got.asl)).trans g9
      obtain ⟨H', L'⟩ := L.step (Y := X.blk s3 H3 scope ce fp) (.inr hys) h0n le hl' hp hgv got Iw ((c7.gone.trans c9.gone).trans c10.gone) g10
      exact ⟨m, Nat.lt_succ_self _, H', _, L'⟩
  exact codeAny_compStart_list loop (wpAny_pyIter_gen (hg1.keeps k14) loop)
/-- name = [x for x in g(..)] on one line -/
theorem ps_setCompGX {X : Cx} {k i j : Nat} {y xn : Str} {py px px2 : Pos} {iter : Expr} {scope : Scope} {own : List (Str × Nat)} {pos spos : Pos} {tgx : TGX} (hc : X.calm = true) (hr : Room (k + 1) X.A) (hN : X.N.Nodup) (hy : X.N[i]? = some y) (hyl : X.env.scope.names.lookup y = some .local)
    (hsw : swapsWith (.ListComp (.Name xn px2) [⟨.Name xn px, iter, [], 0⟩] scope pos) (some (.Name y py)) spos.line X.env = pure true) (hi : PGenX X k iter tgx) (ok : BlkOk X.N X.env.scope scope own) (hnc : ∀ y ∈ scope.names, y.2 ≠ .cell) (hj : j ∈ own.map (·.2))
    (hg : ∀ (s : Shared) (H : Hp) (C : Addr) (cl : List (Str × Addr)) (fp : List Addr), PG (X.blk s H scope (compEnvC scope cl C X.env) fp) (.Name xn px) (gName j))
    (he : ∀ (s : Shared) (H : Hp) (C : Addr) (cl : List (Str × Addr)) (fp : List Addr), PE (X.blk s H scope (compEnvC scope cl C X.env) fp) (.Name xn px2) (tVar j)) (hs : ∀ x, foldedSetIterable iter X.env x = pure x := by intro _; rfl) :
    PS X (.Assign [.Name y py] (.ListComp (.Name xn px2) [⟨.Name xn px, iter, [], 0⟩] scope pos) spos) (tAsg (tListGX tgx) (gName i)) := by
  refine ⟨fun pins s σ H D I h => ?_⟩
  rw [exec_Assign_Name_used _ _ _ _ hsw]
  refine wpAny_bind (wpAny_standAt (wpAny_bind ?_))
  show wpAny _ X.A (do let _ ← comprehension (.ListComp (.Name xn px2) [⟨.Name xn px, iter, [], 0⟩] scope pos) scope X.env (firstIterPos [⟨.Name xn px, iter, [], 0⟩] pos) (newList []) false (eval iter X.env) (some (assign (.Name y py) X.env))) _ _ s
  have h : tListGX tgx σ H (fun x H1 => gName i x σ H1 D.nx) := h
  refine wpAny_bind (thn (compGX_core (Qf := fun _ s' => SP X pins D .next s') hc hN hr I hi ok hnc hj hg he hs h fun L C s' m H' I' q hn f => ?_) fun _ s' hq => wpAny_pure (wpAny_pure hq))
  show wpAny _ _ (assign (.Name y py) X.env (.ref L)) _ _ _
  refine wpAny_assign_Name (store_ok2 (v := V.ref L) I' hN hy (.inl hyl) rfl (fun s2 I2 ⟨a, sb, ha⟩ => ?_) (.inr hyl))
  obtain ⟨f0, f1, f2, f3, f4, f5⟩ := f
  have haC : C ≠ a := by
    rcases ha with z | z
    · rw [z]; exact f1
    · exact fun e => f4 y a z e.symm
  refine ⟨m, hn.sameBut sb haC, fun h3 sb3 => ?_⟩
  exact ⟨_, H', I2.turned (t' := s2.toks) (fun b o hb e => (sb3.2 b hb).trans e) f0 f1 f3 f4 f5, q⟩
end GN
set_option Elab.async false
set_option linter.all false
set_option maxRecDepth 100000
set_option maxHeartbeats 2000000
namespace GN
open PySem PySem.Spec PyProof.Rows L2 GenW G
class Nx (α : Type) [G.Rep α] : Prop where
  nx : ∀ {W W' : Wc} {H H' : Hp} {v : V} {a : α}, W'.B = W.B → (∀ b u, ¬ W.mu b → NCK u → H b = some u → ¬ W'.mu b ∧ H' b = some u) → den W H v a → den W' H' v a
instance : Nx Int := ⟨fun _ _ h => h⟩
instance : Nx Bool := ⟨fun _ _ h => h⟩
instance : Nx Str := ⟨fun _ _ h => h⟩
instance : Nx Unit := ⟨fun _ _ h => h⟩
theorem lq_nx {W W' : Wc} {H H' : Hp} {p : Addr} {vs : List V} (k : ∀ b u, ¬ W.mu b → NCK u → H b = some u → ¬ W'.mu b ∧ H' b = some u) (h : Lq W H p vs) : Lq W' H' p vs := k _ _ h.1 trivial h.2
theorem tq_nx {W W' : Wc} {H H' : Hp} {p : Addr} {vs : List V} (k : ∀ b u, ¬ W.mu b → NCK u → H b = some u → ¬ W'.mu b ∧ H' b = some u) (h : Tq W H p vs) : Tq W' H' p vs := k _ _ h.1 trivial h.2
instance {α β : Type} [G.Rep α] [G.Rep β] [Nx α] [Nx β] : Nx (α × β) := ⟨fun hB k ⟨p, x, y, hv, s, d1, d2⟩ => ⟨p, x, y, hv, tq_nx k s, Nx.nx hB k d1, Nx.nx hB k d2⟩⟩
instance {α : Type} [G.Rep α] [Nx α] : Nx (List α) := ⟨fun hB k ⟨p, vs, hv, s, d⟩ => ⟨p, vs, hv, lq_nx k s, d.imp fun _ _ x => Nx.nx hB k x⟩⟩
theorem ins_nx {W W' : Wc} {H H' : Hp} {a C dx : Addr} {fs : List (Str × V)} (k : ∀ b u, ¬ W.mu b → NCK u → H b = some u → ¬ W'.mu b ∧ H' b = some u) (m : ¬ W.mu a) (h : H a = some (.ins C dx fs)) : ¬ W'.mu a ∧ H' a = some (.ins C dx fs) := k _ _ m trivial h
instance : Nx Gau := ⟨fun hB k ⟨a, dx, hv, m, h⟩ => ⟨a, dx, hv, (ins_nx k m h).1, by rw [hB]; exact (ins_nx k m h).2⟩⟩
instance : Nx Rk := ⟨fun {W W' H H' v r} hB k ⟨a, dx, w, u, hv, m, h, h1, h3, h2⟩ => ⟨a, dx, w, u, hv, (ins_nx k m h).1, by rw [hB]; exact (ins_nx k m h).2, Nx.nx (a := r.gs) hB k h1, Nx.nx (a := r.fl) hB k h3, by rw [hB]; exact h2⟩⟩
def TyNx (t : G.Ty) : Prop := ∀ {W W' : Wc} {H H' : Hp} {v : V}, W'.B = W.B → (∀ b u, ¬ W.mu b → NCK u → H b = some u → ¬ W'.mu b ∧ H' b = some u) → t.den W H v → t.den W' H' v
theorem tyNx {α : Type} [r : G.Rep α] [Nx α] {a : α} : TyNx (T a) := fun hB k h => Nx.nx hB k h
theorem dt_nx {W W' : Wc} {H H' : Hp} (hB : W'.B = W.B) (k : ∀ b u, ¬ W.mu b → NCK u → H b = some u → ¬ W'.mu b ∧ H' b = some u) : ∀ {vs : List V} {ts : List G.Ty}, DT W H vs ts → (∀ t ∈ ts, TyNx t) → DT W' H' vs ts
  | _, _, .nil, _ => .nil
  | _, _, .cons h r, n => .cons (n _ List.mem_cons_self hB k h) (dt_nx hB k r fun t ht => n t (List.mem_cons_of_mem _ ht))
section
variable {W : Wd} {Γ : Gam} {B : Bs} {P : PGT} {ta : TA}
/-- list(g(..)), [x for x in g(..)]: a new list of new lists of texts -/
theorem evFF_listGX {k : List (List Str) → Prop} (hB : W.B = B) (h : EvA W ta Γ fun ts => (∀ t ∈ ts, TyNx t) ∧ ∃ ls, P ts ls ∧ ls.length ≤ 100000 ∧ k ls) : EvFF W (tListGX (tCallGX (spGX B P) ta)) Γ k := by
  subst hB
  refine fun σ H Q go c => h σ H _ go fun vs H1 ts e1 d ⟨hn, ls, hp, hl, hk⟩ => ?_
  have sub : ∀ b u, ¬ W.mu b → NCK u → H1 b = some u → ¬ (Wd.free W.B).toWc.mu b ∧ shrH W.mu H1 b = some u := fun b u m n q => ⟨fun z => z, shrH_in m (by cases u <;> first | trivial | exact n.elim) (fun a z => by subst z; exact n) q⟩
  refine ⟨W.mu, ls.length, itemL (shrH W.mu H1) ls, endL (shrH W.mu H1) ls, ⟨ts, ls, dt_nx (W := W.toWc) (W' := (Wd.free W.B).toWc) (H := H1) (H' := shrH W.mu H1) rfl sub d hn, hp, rfl, rfl, rfl⟩, ls, rfl, Nat.lt_of_le_of_lt hl (by decide), rfl, rfl, fun S qs H' l1 ff => ?_⟩
  refine c S qs H' ls (e1.trans ⟨fun b u _ q => l1 b u q, W.oke H1 H' e1.ok l1⟩) ⟨fun a ha => fresh_back e1.ok e1 (ff.new a ha), ff.nd, ff.len, ff.atp, ff.atq⟩ hk
end
end GN
namespace GN
open PySem PySem.Spec PyProof.Rows L2 GenW G
section
variable {W : Wd} {F : Hp} {L : OwnH} {Γ : Gam} {t : TS} {R : PoH}
/-- for x in an own list of own lists -/
theorem sxh_forFF {K : PySem.W.Frag} {i j : Nat} {p : Addr} {qs : List Addr} (hK : W.B.K = K) (hi : Γ[i]? = some (some (FfT p))) (I : Nat → OwnH → Gam → Prop) (h0 : I 0 L Γ) (hL : ∀ m L' Γ', I m L' Γ' → (p, HO.lst (qs.map V.ref)) ∈ L')
    (hs : ∀ (m : Nat) q L' Γ', qs[m]? = some q → I m L' Γ' → SxH W F t L' (Γ'.set j (some (T (Rf.mk q)))) { R with nx := I (m + 1), ct := I (m + 1), bk := R.nx }) (hl : ∀ L' Γ', I qs.length L' Γ' → R.nx L' Γ') : SxH W F (tFor (iList K (tVar i)) (gName j) t) L Γ R := by
  subst hK
  refine fun D σ H oF nF wF nd go O => ?_
  obtain ⟨v, h1, h2, _⟩ := go.at_ i _ hi
  have h2 : v = V.ref p := h2
  subst h2
  refine ⟨_, h1, p, rfl, ⟨_, .inl (.inl (go.ok.2 _ (hL 0 L Γ h0)))⟩, for_list (K := W.B.K) (a := p) (xs := qs.map V.ref) (fun m σ' H' => ∃ L' oF nF Γ', StpH W L H L' H' ∧ (keysH L').Nodup ∧ GOk (W.ownH F L' oF nF) H' σ' Γ' ∧ I m L' Γ') ⟨L, oF, nF, Γ, .refl, nd, go, h0⟩ (fun m σ' H' _ ⟨L', _, _, Γ', _, _, go', q⟩ => .inl (.inl (go'.ok.2 _ (hL m L' Γ' q)))) ?_ ?_⟩
  · rintro m x σ' H' hx ⟨L', oF', nF', Γ', s, nd', go', q⟩
    rw [List.getElem?_map] at hx
    cases hq : qs[m]? with
    | none => rw [hq] at hx; cases hx
    | some a =>
      rw [hq] at hx
      cases hx
      exact hs m a L' Γ' hq q _ _ H' oF' nF' wF nd' (go'.set j (t := T (Rf.mk a)) rfl) ⟨fun L3 oF3 nF3 σ3 H3 Γ3 s3 nd3 G3 q3 => ⟨L3, oF3, nF3, Γ3, s.trans go'.ok.1 s3, nd3, G3, q3⟩, fun v3 H3 t3 e3 d3 q3 => O.rt v3 H3 t3 e3 d3 q3,
        fun L3 oF3 nF3 σ3 H3 Γ3 s3 nd3 G3 q3 => O.nx L3 oF3 nF3 σ3 H3 Γ3 (s.trans go'.ok.1 s3) nd3 G3 q3, fun L3 oF3 nF3 σ3 H3 Γ3 s3 nd3 G3 q3 => ⟨L3, oF3, nF3, Γ3, s.trans go'.ok.1 s3, nd3, G3, q3⟩⟩
  · rintro σ' H' ⟨L', oF', nF', Γ', s, nd', go', q⟩
    rw [List.length_map] at q
    exact O.nx L' oF' nF' σ' H' Γ' s nd' go' (hl L' Γ' q)
end
abbrev ffU (p : Addr) (qs : List Addr) (us : List (List V)) : OwnH := (p, HO.lst (qs.map V.ref)) :: (qs.zip us).map fun e => (e.1, HO.lst e.2)
theorem ffL_U {p : Addr} {qs : List Addr} {fl : List (List Str)} : ffL p qs fl = ffU p qs (fl.map fun l => l.map V.str) := by
  show _ :: _ = _ :: _
  congr 1
  rw [List.zip_map_right, List.map_map]
  rfl
theorem zip_at {α β : Type} {qs : List α} {us : List β} {m : Nat} {q : α} {u : β} (hq : qs[m]? = some q) (hu : us[m]? = some u) : (qs.zip us)[m]? = some (q, u) := List.getElem?_zip_eq_some.mpr ⟨hq, hu⟩
theorem ffU_at {p q : Addr} {qs : List Addr} {us : List (List V)} {m : Nat} {u : List V} (hq : qs[m]? = some q) (hu : us[m]? = some u) : (ffU p qs us)[m + 1]? = some (q, .lst u) := by
  show ((qs.zip us).map _)[m]? = _
  rw [List.getElem?_map, zip_at hq hu]
  rfl
theorem ffU_set {p q : Addr} {qs : List Addr} {us : List (List V)} {m : Nat} {w : List V} (hq : qs[m]? = some q) (hm : m < us.length) : (ffU p qs us).set (m + 1) (q, .lst w) = ffU p qs (us.set m w) := by
  show _ :: ((qs.zip us).map _).set m _ = _ :: _
  congr 1
  refine List.ext_getElem? fun i => ?_
  by_cases h : m = i
  · subst h
    have hl : m < qs.length := (List.getElem?_eq_some_iff.mp hq).1
    rw [List.getElem?_set_self (by rw [List.length_map, List.length_zip]; omega), List.getElem?_map, zip_at hq (List.getElem?_set_self hm)]
    rfl
  · rw [List.getElem?_set_ne h, List.getElem?_map, List.getElem?_map]
    congr 1
    cases hq2 : qs[i]? with
    | none =>
      have hl : qs.length ≤ i := List.getElem?_eq_none_iff.mp hq2
      rw [List.getElem?_eq_none (by rw [List.length_zip]; omega), List.getElem?_eq_none (by rw [List.length_zip]; omega)]
    | some a =>
      cases hu : us[i]? with
      | none =>
        have hl : us.length ≤ i := List.getElem?_eq_none_iff.mp hu
        rw [List.getElem?_eq_none (by rw [List.length_zip]; omega), List.getElem?_eq_none (by rw [List.length_zip, List.length_set]; omega)]
      | some b => rw [zip_at hq2 hu, zip_at (us := us.set m w) hq2 (by rw [List.getElem?_set_ne h]; exact hu)]
end GN
set_option Elab.async false
set_option linter.all false
set_option maxRecDepth 100000
set_option maxHeartbeats 4000000
namespace Lw
open PySem PySem.Spec PyProof.Rows L2 StX G
def top (i : Nat) : Stmt := PySem.Challenge.pw_gaugemiss_k31_liar_lots.main.body.getD i (.Pass ⟨0, 0, 0, 0⟩)
abbrev s_take : Stmt := top 26
abbrev s_box : Stmt := top 25
abbrev s_word : Stmt := top 27
abbrev s_words : Stmt := top 28
abbrev s_m_is_gauge_name : Stmt := top 17
abbrev s_BadGauge_init : Stmt := inClass (top 6) 0
abbrev s_Gauge_init : Stmt := inClass (top 18) 1
abbrev s_CoarseGauge_init : Stmt := inClass (top 19) 0
abbrev s_LateGauge_init : Stmt := inClass (top 20) 0
abbrev s_LateCoarseGauge_init : Stmt := inClass (top 21) 0
abbrev s_specs : Stmt := top 29
abbrev s_gauge : Stmt := top 30
abbrev s_gauges : Stmt := top 31
abbrev s_DuplicateGauge_init : Stmt := inClass (top 7) 0
abbrev s_UnknownGauge_init : Stmt := inClass (top 8) 0
abbrev s_Rack_names : Stmt := inClass (top 23) 2
abbrev s_Rack_contains : Stmt := inClass (top 23) 12
abbrev s_Rack_gauge : Stmt := inClass (top 23) 3
abbrev s_Rack_faults : Stmt := inClass (top 23) 4
abbrev s_Rack_refuse_unknown : Stmt := inClass (top 23) 9
abbrev s_m_faults_of : Stmt := top 22
abbrev s_Rack_init : Stmt := inClass (top 23) 0
abbrev s_Rack_of : Stmt := inClass (top 23) 1
abbrev s_m_choices : Stmt := top 11
abbrev s_m_liar_lots : Stmt := top 10
abbrev s_groups : Stmt := top 32
abbrev s_faults : Stmt := top 33
abbrev s_picks : Stmt := top 34
abbrev s_lots : Stmt := top 35
abbrev s_law : Stmt := top 36
theorem sc_take : FnScope ["_law_box_here", "_law_many", "_law_cells", "_law_digit", "_law_cell"] ["_law_box_here", "_law_many"] (defScope s_take) := ⟨rfl, rfl, rfl, by decide +kernel, rfl, by decide +kernel, by decide +kernel⟩
theorem sc_box : FnScope ["_law_script", "_law_salt", "_law_cell"] ["_law_script", "_law_salt"] (defScope s_box) := ⟨rfl, rfl, rfl, by decide +kernel, rfl, by decide +kernel, by decide +kernel⟩
theorem sc_word : FnScope ["_law_number", "_law_many", "_law_back", "_law_word_here", "_law_turn"] ["_law_number", "_law_many", "_law_back"] (defScope s_word) := ⟨rfl, rfl, rfl, by decide +kernel, rfl, by decide +kernel, by decide +kernel⟩
theorem sc_words : FnScope ["_law_box_here", "_law_many", "_law_words_here", "_law_back", "_law_turn", "_law_wide", "_law_number", "_law_word_here", "_law_again"] ["_law_box_here", "_law_many"] (defScope s_words) := ⟨rfl, rfl, rfl, by decide +kernel, rfl, by decide +kernel, by decide +kernel⟩
theorem sc_m_is_gauge_name : FnScope ["name", "sign"] ["name"] (defScope s_m_is_gauge_name) := ⟨rfl, rfl, rfl, by decide +kernel, rfl, by decide +kernel, by decide +kernel⟩
theorem sc_Gauge_init : FnScope ["self", "name", "radius"] ["self", "name", "radius"] (defScope s_Gauge_init) := ⟨rfl, rfl, rfl, by decide +kernel, rfl, by decide +kernel, by decide +kernel⟩
theorem sc_CoarseGauge_init : FnScope ["self", "name", "radius", "step"] ["self", "name", "radius", "step"] (defScope s_CoarseGauge_init) := ⟨rfl, rfl, rfl, by decide +kernel, rfl, by decide +kernel, by decide +kernel⟩
theorem sc_LateGauge_init : FnScope ["self", "name", "radius", "late", "pace"] ["self", "name", "radius", "late", "pace"] (defScope s_LateGauge_init) := ⟨rfl, rfl, rfl, by decide +kernel, rfl, by decide +kernel, by decide +kernel⟩
theorem sc_LateCoarseGauge_init : FnScope ["self", "name", "radius", "step", "late", "pace"] ["self", "name", "radius", "step", "late", "pace"] (defScope s_LateCoarseGauge_init) := ⟨rfl, rfl, rfl, by decide +kernel, rfl, by decide +kernel, by decide +kernel⟩
theorem sc_specs : FnScope ["_law_box_here", "_law_words_here", "_law_unit", "_law_wide", "_law_specs_here", "_law_word_here", "_law_sort", "_law_grain", "_law_drift"] ["_law_box_here", "_law_words_here"] (defScope s_specs) := ⟨rfl, rfl, rfl, by decide +kernel, rfl, by decide +kernel, by decide +kernel⟩
theorem sc_gauge : FnScope ["_law_spec"] ["_law_spec"] (defScope s_gauge) := ⟨rfl, rfl, rfl, by decide +kernel, rfl, by decide +kernel, by decide +kernel⟩
theorem sc_gauges : FnScope ["_law_specs_here", "_law_spec"] ["_law_specs_here"] (defScope s_gauges) := ⟨rfl, rfl, rfl, by decide +kernel, rfl, by decide +kernel, by decide +kernel⟩
theorem sc_DuplicateGauge_init : FnScope ["self", "name"] ["self", "name"] (defScope s_DuplicateGauge_init) := ⟨rfl, rfl, rfl, by decide +kernel, rfl, by decide +kernel, by decide +kernel⟩
theorem sc_UnknownGauge_init : FnScope ["self", "name"] ["self", "name"] (defScope s_UnknownGauge_init) := ⟨rfl, rfl, rfl, by decide +kernel, rfl, by decide +kernel, by decide +kernel⟩
theorem sc_Rack_names : FnScope ["self", "each"] ["self"] (defScope s_Rack_names) := ⟨rfl, rfl, rfl, by decide +kernel, rfl, by decide +kernel, by decide +kernel⟩
theorem sc_Rack_contains : FnScope ["self", "x"] ["self", "x"] (defScope s_Rack_contains) := ⟨rfl, rfl, rfl, by decide +kernel, rfl, by decide +kernel, by decide +kernel⟩
theorem sc_Rack_faults : FnScope ["self", "fault"] ["self"] (defScope s_Rack_faults) := ⟨rfl, rfl, rfl, by decide +kernel, rfl, by decide +kernel, by decide +kernel⟩
theorem sc_Rack_refuse_unknown : FnScope ["self", "names", "name"] ["self", "names"] (defScope s_Rack_refuse_unknown) := ⟨rfl, rfl, rfl, by decide +kernel, rfl, by decide +kernel, by decide +kernel⟩
theorem sc_m_faults_of : FnScope ["names", "together", "groups", "group", "member", "faults", "name", "fault", "other"] ["names", "together"] (defScope s_m_faults_of) := ⟨rfl, rfl, rfl, by decide +kernel, rfl, by decide +kernel, by decide +kernel⟩
theorem sc_Rack_init : FnScope ["self", "together", "gauges", "each", "grouped", "group", "name"] ["self", "together", "gauges"] (defScope s_Rack_init) := ⟨rfl, rfl, rfl, by decide +kernel, rfl, by decide +kernel, by decide +kernel⟩
theorem sc_Rack_of : FnScope ["cls", "gauges", "together"] ["cls", "gauges", "together"] (defScope s_Rack_of) := ⟨rfl, rfl, rfl, by decide +kernel, rfl, by decide +kernel, by decide +kernel⟩
theorem sc_m_choices : FnScope ["many", "size", "rows", "_", "row", "at"] ["many", "size"] (defScope s_m_choices) := ⟨rfl, rfl, rfl, by decide +kernel, rfl, by decide +kernel, by decide +kernel⟩
theorem sc_m_liar_lots : GScope ["rack", "liars", "names", "faults", "choice", "lying", "at", "name"] ["rack", "liars"] (defScope s_m_liar_lots) := ⟨rfl, rfl, rfl, by decide +kernel, rfl, by decide +kernel, by decide +kernel⟩
theorem sc_groups : FnScope ["_law_box_here", "_law_words_here", "_law_marks", "_law_word_here", "_law_groups_here", "_law_mark", "_law_group", "_law_k"] ["_law_box_here", "_law_words_here"] (defScope s_groups) := ⟨rfl, rfl, rfl, by decide +kernel, rfl, by decide +kernel, by decide +kernel⟩
theorem sc_faults : FnScope ["_law_words_here", "_law_groups_here", "_law_found", "_law_word_here", "_law_mine", "_law_group", "_law_other"] ["_law_words_here", "_law_groups_here"] (defScope s_faults) := ⟨rfl, rfl, rfl, by decide +kernel, rfl, by decide +kernel, by decide +kernel⟩
theorem sc_picks : FnScope ["_law_many", "_law_count", "_law_rows", "_law_turn", "_law_longer", "_law_row", "_law_at"] ["_law_many", "_law_count"] (defScope s_picks) := ⟨rfl, rfl, rfl, by decide +kernel, rfl, by decide +kernel, by decide +kernel⟩
theorem sc_lots : FnScope ["_law_words_here", "_law_faults_here", "_law_count", "_law_lots_here", "_law_row", "_law_chosen", "_law_at", "_law_word_here"] ["_law_words_here", "_law_faults_here", "_law_count"] (defScope s_lots) := ⟨rfl, rfl, rfl, by decide +kernel, rfl, by decide +kernel, by decide +kernel⟩
theorem sc_law : FnScope ["_law_script", "_law_box_here", "_law_words_here", "_law_specs_here", "_law_groups_here", "_law_faults_here", "_law_rack", "_law_count", "_law_due", "_law_told", "_law_lot"] ["_law_script"] (defScope s_law) := ⟨rfl, rfl, rfl, by decide +kernel, rfl, by decide +kernel, by decide +kernel⟩
structure Ad where
  c_GaugeError : Addr
  c_BadGauge : Addr
  c_DuplicateGauge : Addr
  c_UnknownGauge : Addr
  c_Gauge : Addr
  c_CoarseGauge : Addr
  c_LateGauge : Addr
  c_LateCoarseGauge : Addr
  c_Rack : Addr
  f_take : Addr
  f_box : Addr
  f_word : Addr
  f_words : Addr
  f_m_is_gauge_name : Addr
  f_BadGauge_init : Addr
  f_Gauge_init : Addr
  f_CoarseGauge_init : Addr
  f_LateGauge_init : Addr
  f_LateCoarseGauge_init : Addr
  f_specs : Addr
  f_gauge : Addr
  f_gauges : Addr
  f_DuplicateGauge_init : Addr
  f_UnknownGauge_init : Addr
  f_Rack_names : Addr
  f_Rack_contains : Addr
  f_Rack_gauge : Addr
  f_Rack_faults : Addr
  f_Rack_refuse_unknown : Addr
  f_m_faults_of : Addr
  f_Rack_init : Addr
  f_Rack_of : Addr
  f_m_choices : Addr
  f_m_liar_lots : Addr
  f_groups : Addr
  f_faults : Addr
  f_picks : Addr
  f_lots : Addr
  f_law : Addr
  k_BARRED : Addr
  k_em_Rack_init : Addr
  k_em_Rack_of : Addr
def bs (K : PySem.W.Frag) (A : Ad) : Bs := ⟨K, fun
  | .GaugeError => A.c_GaugeError
  | .BadGauge => A.c_BadGauge
  | .DuplicateGauge => A.c_DuplicateGauge
  | .UnknownGauge => A.c_UnknownGauge
  | .Gauge => A.c_Gauge
  | .CoarseGauge => A.c_CoarseGauge
  | .LateGauge => A.c_LateGauge
  | .LateCoarseGauge => A.c_LateCoarseGauge
  | .Rack => A.c_Rack
  | _ => 0⟩
structure Txt (K : PySem.W.Frag) (mg : Str → Option Value) (A : Ad) : Prop where
  g_take : DefAt K mg "_law_take" s_take ["_law_box_here", "_law_many"] A.f_take
  g_box : DefAt K mg "_law_box" s_box ["_law_script", "_law_salt"] A.f_box
  g_word : DefAt K mg "_law_word" s_word ["_law_number", "_law_many", "_law_back"] A.f_word
  g_words : DefAt K mg "_law_words" s_words ["_law_box_here", "_law_many"] A.f_words
  g_m_is_gauge_name : DefAt K mg "is_gauge_name" s_m_is_gauge_name ["name"] A.f_m_is_gauge_name
  d_BadGauge_init : DefM K "__init__" "BadGauge.__init__" s_BadGauge_init ["self", "name"] A.f_BadGauge_init
  xi_BadGauge : PySem.W.findIn K (.ref A.c_BadGauge) "__init__" = some (some (.ref A.f_BadGauge_init))
  xt_BadGauge : PySem.W.typeIn K (.ref A.f_BadGauge_init) = some (.type "function")
  d_Gauge_init : DefM K "__init__" "Gauge.__init__" s_Gauge_init ["self", "name", "radius"] A.f_Gauge_init
  m_Gauge : Mk K A.c_Gauge A.f_Gauge_init
  dk_CoarseGauge_init : DefK K "__init__" "CoarseGauge.__init__" s_CoarseGauge_init ["self", "name", "radius", "step"] 3 ["step"] A.f_CoarseGauge_init
  m_CoarseGauge : Mk K A.c_CoarseGauge A.f_CoarseGauge_init
  dk_LateGauge_init : DefK K "__init__" "LateGauge.__init__" s_LateGauge_init ["self", "name", "radius", "late", "pace"] 3 ["late", "pace"] A.f_LateGauge_init
  m_LateGauge : Mk K A.c_LateGauge A.f_LateGauge_init
  dk_LateCoarseGauge_init : DefKR K "__init__" "LateCoarseGauge.__init__" s_LateCoarseGauge_init ["self", "name", "radius", "step", "late", "pace"] 3 ["step", "late", "pace"] ["pace", "step", "late"] A.f_LateCoarseGauge_init
  m_LateCoarseGauge : Mk K A.c_LateCoarseGauge A.f_LateCoarseGauge_init
  g_specs : DefAt K mg "_law_specs" s_specs ["_law_box_here", "_law_words_here"] A.f_specs
  g_gauge : DefAt K mg "_law_gauge" s_gauge ["_law_spec"] A.f_gauge
  g_gauges : DefAt K mg "_law_gauges" s_gauges ["_law_specs_here"] A.f_gauges
  d_DuplicateGauge_init : DefM K "__init__" "DuplicateGauge.__init__" s_DuplicateGauge_init ["self", "name"] A.f_DuplicateGauge_init
  xi_DuplicateGauge : PySem.W.findIn K (.ref A.c_DuplicateGauge) "__init__" = some (some (.ref A.f_DuplicateGauge_init))
  xt_DuplicateGauge : PySem.W.typeIn K (.ref A.f_DuplicateGauge_init) = some (.type "function")
  d_UnknownGauge_init : DefM K "__init__" "UnknownGauge.__init__" s_UnknownGauge_init ["self", "name"] A.f_UnknownGauge_init
  xi_UnknownGauge : PySem.W.findIn K (.ref A.c_UnknownGauge) "__init__" = some (some (.ref A.f_UnknownGauge_init))
  xt_UnknownGauge : PySem.W.typeIn K (.ref A.f_UnknownGauge_init) = some (.type "function")
  d_Rack_names : DefM K "names" "Rack.names" s_Rack_names ["self"] A.f_Rack_names
  m_Rack_names : Meth K A.c_Rack "names" A.f_Rack_names
  d_Rack_contains : DefM K "__contains__" "Rack.__contains__" s_Rack_contains ["self", "x"] A.f_Rack_contains
  m_Rack_contains : Meth K A.c_Rack "__contains__" A.f_Rack_contains
  d_Rack_gauge : DefM K "gauge" "Rack.gauge" s_Rack_gauge ["self", "name"] A.f_Rack_gauge
  m_Rack_gauge : Meth K A.c_Rack "gauge" A.f_Rack_gauge
  d_Rack_faults : DefM K "faults" "Rack.faults" s_Rack_faults ["self"] A.f_Rack_faults
  m_Rack_faults : Meth K A.c_Rack "faults" A.f_Rack_faults
  d_Rack_refuse_unknown : DefM K "_refuse_unknown" "Rack._refuse_unknown" s_Rack_refuse_unknown ["self", "names"] A.f_Rack_refuse_unknown
  m_Rack_refuse_unknown : Meth K A.c_Rack "_refuse_unknown" A.f_Rack_refuse_unknown
  g_m_faults_of : DefAt K mg "_faults_of" s_m_faults_of ["names", "together"] A.f_m_faults_of
  em_Rack_init : ∀ H, L2.SqT K H A.k_em_Rack_init []
  sk_Rack_init : DefSK K "__init__" "Rack.__init__" s_Rack_init "self" "gauges" "together" (V.ref A.k_em_Rack_init) A.f_Rack_init
  m_Rack : Mk K A.c_Rack A.f_Rack_init
  r_Rack : ClX.CRead K A.c_Rack (.type "type")
  q_Rack_of : ∃ p, ClX.CMet K A.c_Rack (.type "type") "of" p A.f_Rack_of
  em_Rack_of : ∀ H, L2.SqT K H A.k_em_Rack_of []
  dd_Rack_of : DefD K "of" "Rack.of" s_Rack_of ["cls", "gauges", "together"] (V.ref A.k_em_Rack_of) A.f_Rack_of
  g_m_choices : DefAt K mg "_choices" s_m_choices ["many", "size"] A.f_m_choices
  g_m_liar_lots : DefAt K mg "liar_lots" s_m_liar_lots ["rack", "liars"] A.f_m_liar_lots
  g_groups : DefAt K mg "_law_groups" s_groups ["_law_box_here", "_law_words_here"] A.f_groups
  g_faults : DefAt K mg "_law_faults" s_faults ["_law_words_here", "_law_groups_here"] A.f_faults
  g_picks : DefAt K mg "_law_picks" s_picks ["_law_many", "_law_count"] A.f_picks
  g_lots : DefAt K mg "_law_lots" s_lots ["_law_words_here", "_law_faults_here", "_law_count"] A.f_lots
  g_law : DefAt K mg "law" s_law ["_law_script"] A.f_law
  c_GaugeError : mg "GaugeError" = some (.ref A.c_GaugeError)
  ge : GeT K mg A.c_GaugeError
  c_BadGauge : mg "BadGauge" = some (.ref A.c_BadGauge)
  xo_BadGauge : OexC K A.c_BadGauge
  xf_BadGauge : XfC K A.c_BadGauge
  n_BadGauge_name : PySem.W.findIn K (.ref A.c_BadGauge) "name" = some none
  c_DuplicateGauge : mg "DuplicateGauge" = some (.ref A.c_DuplicateGauge)
  xo_DuplicateGauge : OexC K A.c_DuplicateGauge
  xf_DuplicateGauge : XfC K A.c_DuplicateGauge
  n_DuplicateGauge_name : PySem.W.findIn K (.ref A.c_DuplicateGauge) "name" = some none
  c_UnknownGauge : mg "UnknownGauge" = some (.ref A.c_UnknownGauge)
  xo_UnknownGauge : OexC K A.c_UnknownGauge
  xf_UnknownGauge : XfC K A.c_UnknownGauge
  n_UnknownGauge_name : PySem.W.findIn K (.ref A.c_UnknownGauge) "name" = some none
  c_Gauge : mg "Gauge" = some (.ref A.c_Gauge)
  cl_Gauge : Cls K A.c_Gauge
  is_Gauge : IsT K A.c_Gauge
  n_Gauge_name : NoAttr K A.c_Gauge "name"
  n_Gauge_radius : NoAttr K A.c_Gauge "radius"
  n_Gauge_step : NoAttr K A.c_Gauge "step"
  n_Gauge_late : NoAttr K A.c_Gauge "late"
  n_Gauge_pace : NoAttr K A.c_Gauge "pace"
  c_CoarseGauge : mg "CoarseGauge" = some (.ref A.c_CoarseGauge)
  cl_CoarseGauge : Cls K A.c_CoarseGauge
  is_CoarseGauge : IsT K A.c_CoarseGauge
  n_CoarseGauge_name : NoAttr K A.c_CoarseGauge "name"
  n_CoarseGauge_radius : NoAttr K A.c_CoarseGauge "radius"
  n_CoarseGauge_step : NoAttr K A.c_CoarseGauge "step"
  n_CoarseGauge_late : NoAttr K A.c_CoarseGauge "late"
  n_CoarseGauge_pace : NoAttr K A.c_CoarseGauge "pace"
  c_LateGauge : mg "LateGauge" = some (.ref A.c_LateGauge)
  cl_LateGauge : Cls K A.c_LateGauge
  is_LateGauge : IsT K A.c_LateGauge
  n_LateGauge_name : NoAttr K A.c_LateGauge "name"
  n_LateGauge_radius : NoAttr K A.c_LateGauge "radius"
  n_LateGauge_step : NoAttr K A.c_LateGauge "step"
  n_LateGauge_late : NoAttr K A.c_LateGauge "late"
  n_LateGauge_pace : NoAttr K A.c_LateGauge "pace"
  c_LateCoarseGauge : mg "LateCoarseGauge" = some (.ref A.c_LateCoarseGauge)
  cl_LateCoarseGauge : Cls K A.c_LateCoarseGauge
  is_LateCoarseGauge : IsT K A.c_LateCoarseGauge
  n_LateCoarseGauge_name : NoAttr K A.c_LateCoarseGauge "name"
  n_LateCoarseGauge_radius : NoAttr K A.c_LateCoarseGauge "radius"
  n_LateCoarseGauge_step : NoAttr K A.c_LateCoarseGauge "step"
  n_LateCoarseGauge_late : NoAttr K A.c_LateCoarseGauge "late"
  n_LateCoarseGauge_pace : NoAttr K A.c_LateCoarseGauge "pace"
  c_Rack : mg "Rack" = some (.ref A.c_Rack)
  cl_Rack : Cls K A.c_Rack
  is_Rack : IsT K A.c_Rack
  n_Rack__gauges : NoAttr K A.c_Rack "_gauges"
  n_Rack__faults : NoAttr K A.c_Rack "_faults"
  cli_CoarseGauge : CliT K A.c_CoarseGauge A.f_CoarseGauge_init
  cli_Gauge : CliT K A.c_Gauge A.f_Gauge_init
  cli_LateGauge : CliT K A.c_LateGauge A.f_LateGauge_init
  kg_BARRED : ∃ u, mg "BARRED" = some u ∧ L2.RelV (V.ref A.k_BARRED) u
  kt_BARRED : ∀ H, L2.SqT K H A.k_BARRED ([("rank" : Str), ("trim" : Str), ("weigh" : Str), ("together" : Str)].map V.str)
  kg_LETTERS : ∃ u, mg "LETTERS" = some u ∧ L2.RelV (V.str "abcdefghijklmnopqrstuvwxyz") u
  r_Gauge : ClX.CRead K A.c_Gauge (.type "type")
  kc_Gauge_LONGEST : ∃ u, ClX.CVal K A.c_Gauge (.type "type") "LONGEST" (.int 12) u
  gc_Gauge : ∃ u, mg "Gauge" = some u ∧ L2.RelV (V.ref A.c_Gauge) u
  z_all : mg "all" = none
  z_int : mg "int" = none
  z_isinstance : mg "isinstance" = none
  z_len : mg "len" = none
  z_list : mg "list" = none
  z_range : mg "range" = none
  z_str : mg "str" = none
  z_tuple : mg "tuple" = none
theorem rackT {K : PySem.W.Frag} {mg : Str → Option Value} {A : Ad} (tx : Txt K mg A) : RackT (bs K A) := ⟨tx.cl_Rack, tx.n_Rack__gauges, tx.n_Rack__faults⟩
theorem gauT {K : PySem.W.Frag} {mg : Str → Option Value} {A : Ad} (tx : Txt K mg A) : GauT (bs K A) := ⟨fun k => match k with | .pl => tx.cl_Gauge | .co => tx.cl_CoarseGauge | .la => tx.cl_LateGauge | .lc => tx.cl_LateCoarseGauge, fun k => match k with | .pl => tx.n_Gauge_name | .co => tx.n_CoarseGauge_name | .la => tx.n_LateGauge_name | .lc => tx.n_LateCoarseGauge_name, fun k => match k with | .pl => tx.n_Gauge_radius | .co => tx.n_CoarseGauge_radius | .la => tx.n_LateGauge_radius | .lc => tx.n_LateCoarseGauge_radius, fun k => match k with | .pl => tx.n_Gauge_step | .co => tx.n_CoarseGauge_step | .la => tx.n_LateGauge_step | .lc => tx.n_LateCoarseGauge_step, fun k => match k with | .pl => tx.n_Gauge_late | .co => tx.n_CoarseGauge_late | .la => tx.n_LateGauge_late | .lc => tx.n_LateCoarseGauge_late, fun k => match k with | .pl => tx.n_Gauge_pace | .co => tx.n_CoarseGauge_pace | .la => tx.n_LateGauge_pace | .lc => tx.n_LateCoarseGauge_pace⟩
local macro_rules | `(tactic| walk_at "good") => `(tactic| first | exact trivial | exact ⟨trivial, trivial⟩ | exact fun _ _ => trivial | exact fun _ _ => ⟨trivial, trivial⟩ | exact ⟨trivial, trivial, trivial⟩ | exact ⟨⟨trivial, trivial⟩, ⟨trivial, trivial⟩, trivial, trivial⟩ | exact ⟨strOk_of _, trivial⟩ | exact ⟨strOk_of _, trivial, trivial⟩ | assumption | (show PyData.strOk _ = true; walk_at "strok"))
local macro_rules | `(tactic| walk_at "len") => `(tactic| ((try dsimp only); (try simp only [Str.length_append, emp_len]); (try rw [show (Str.ofString "Stretch(").length = 8 by decide]); (try rw [show (Str.ofString ", ").length = 2 by decide]); (try rw [show (Str.ofString ")").length = 1 by decide]); (try rw [show (Str.ofString "..").length = 2 by decide]); (try rw [show (Str.ofString "none").length = 4 by decide]); (try rw [show (Str.ofString "Levels(").length = 7 by decide]); omega))
local macro_rules | `(tactic| walk_at "strok") => `(tactic| repeat (first | exact strOk_of _ | exact strOk_emp | assumption | apply strOk_app))
local macro_rules | `(tactic| walk_at "frz") => `(tactic| repeat (first | exact .nil | apply Frz.own (by simp) | apply Frz.same))
local macro_rules | `(tactic| walk_at "hx") => `(tactic| first | exact hx_of (by assumption) | assumption | exact hx0)
local macro_rules | `(tactic| walk_at "g0") => `(tactic| first
  | ((with_reducible apply gd_s); first
    | ((with_reducible apply sx_set))
    | ((with_reducible apply sx_ret))
    | ((with_reducible apply sx_if))
    | ((with_reducible apply sx_next))
    | ((with_reducible apply sx_retN)))
  | ((with_reducible apply gd_var); first
    | ((with_reducible apply ev_var); (case h => exact rfl)))
  | ((with_reducible apply gd_c); first
    | ((with_reducible apply ev_int))
    | ((with_reducible apply ev_bl))
    | ((with_reducible apply ev_str))
    | ((with_reducible apply ev_non)))
  | ((with_reducible apply gd_op); first
    | ((with_reducible apply ev_opI))
    | ((with_reducible apply ev_opB))
    | ((with_reducible apply ev_eqG); (case hK => assumption))
    | ((with_reducible apply ev_neG); (case hK => assumption))
    | ((with_reducible apply ev_ixSp0); (case hK => assumption); (with_reducible apply ev_var); (case h => exact rfl))
    | ((with_reducible apply ev_ixSp1); (case hK => assumption); (with_reducible apply ev_var); (case h => exact rfl))
    | ((with_reducible apply ev_ixSp2); (case hK => assumption); (with_reducible apply ev_var); (case h => exact rfl))
    | ((with_reducible apply ev_ixSp3); (case hK => assumption); (with_reducible apply ev_var); (case h => exact rfl))
    | ((with_reducible apply ev_ixSp4); (case hK => assumption); (with_reducible apply ev_var); (case h => exact rfl))
    | ((with_reducible apply ev_ixSp5); (case hK => assumption); (with_reducible apply ev_var); (case h => exact rfl))
    | ((with_reducible apply ev_ixT3a); (case hK => assumption); (with_reducible apply ev_var); (case h => exact rfl))
    | ((with_reducible apply ev_ixT3b); (case hK => assumption); (with_reducible apply ev_var); (case h => exact rfl))
    | ((with_reducible apply ev_ixT3c); (case hK => assumption); (with_reducible apply ev_var); (case h => exact rfl))
    | ((with_reducible apply ev_ixT0); (case hK => assumption))
    | ((with_reducible apply ev_ixT1); (case hK => assumption))
    | ((with_reducible apply ev_ixL); (case hK => assumption))
    | ((with_reducible apply ev_pow); (case hc => exact ⟨by decide, by decide, by decide⟩))
    | ((with_reducible apply ev_ltP); (case hK => assumption))
    | ((with_reducible apply ev_ixO); (case hB => assumption))
    | ((with_reducible apply ev_opC))
    | ((with_reducible apply ev_cat))
    | ((with_reducible apply ev_addS))
    | ((with_reducible apply ev_inOwn); (case hB => assumption))
    | ((with_reducible apply ev_inI); (case hK => assumption))
    | ((with_reducible apply ev_inS); (case hK => assumption))
    | ((with_reducible apply ev_ixS))
    | ((with_reducible apply ev_notInI); (case hK => assumption))
    | ((with_reducible apply ev_eqO); (case hB => assumption); (case hK => exact rfl))
    | ((with_reducible apply ev_neO); (case hB => assumption); (case hK => exact rfl)))
  | ((with_reducible apply gd_un); first
    | ((with_reducible apply ev_unI)))
  | ((with_reducible apply gd_cb); first
    | ((with_reducible apply ev_len); (case hK => assumption))
    | ((with_reducible apply ev_intB); (with_reducible apply gd_op); first | (with_reducible apply ev_opB) | ((with_reducible apply ev_eqG); (case hK => assumption)))
    | ((with_reducible apply ev_intB); (with_reducible apply gd_k); (with_reducible apply ev_orV))
    | ((with_reducible apply ev_intI))
    | ((with_reducible apply ev_max2))
    | ((with_reducible apply ev_min2))
    | ((with_reducible apply ev_abs))
    | ((with_reducible apply ev_any); (case hK => assumption))
    | ((with_reducible apply ev_all); (case hK => assumption))
    | ((with_reducible apply ev_sum); (case hK => assumption))
    | ((with_reducible apply ev_minP); (case hK => assumption))
    | ((with_reducible apply ev_boolO); (case hB => assumption))
    | ((with_reducible apply ev_sortedP); (case hK => assumption))
    | ((with_reducible apply ev_sortedI); (case hK => assumption))
    | ((with_reducible apply ev_strO); (case hB => assumption))
    | ((with_reducible apply ev_lenO); (case hB => assumption))
    | ((with_reducible apply ev_strI))
    | ((with_reducible apply ev_isiGv); (case hK => assumption); (with_reducible apply ev_var); (case h => exact rfl))
    | ((with_reducible apply ev_isiO); (case hK => assumption))
    | ((with_reducible apply ev_isF); (case hB => assumption); (case hK => exact rfl)))
  | ((with_reducible apply gd_fld); first
    | ((with_reducible apply ev_low); (case hK => assumption); (case hS => exact stc_of (by assumption) (stcT (by assumption))))
    | ((with_reducible apply ev_high); (case hK => assumption); (case hS => exact stc_of (by assumption) (stcT (by assumption))))
    | ((with_reducible apply ev_gname); (case hK => assumption); (case hG => exact gau_of (by assumption) (gauT (by assumption))))
    | ((with_reducible apply ev_radius); (case hK => assumption); (case hG => exact gau_of (by assumption) (gauT (by assumption))))
    | ((with_reducible apply ev_step); (case hK => assumption); (case hG => exact gau_of (by assumption) (gauT (by assumption))))
    | ((with_reducible apply ev_late); (case hK => assumption); (case hG => exact gau_of (by assumption) (gauT (by assumption))))
    | ((with_reducible apply ev_pace); (case hK => assumption); (case hG => exact gau_of (by assumption) (gauT (by assumption))))
    | ((with_reducible apply ev_pieces); (case hK => assumption); (case hL => exact lvs_of (by assumption) (lvsT (by assumption)))))
  | ((with_reducible apply gd_call); first
    | ((with_reducible apply ev_callR); (case hB => assumption)))
  | ((with_reducible apply gd_tup); first
    | ((with_reducible apply ev_tup2))
    | ((with_reducible apply ev_tup3)))
  | ((with_reducible apply gd_lst); first
    | ((with_reducible apply ev_lst4))
    | ((with_reducible apply ev_lst)))
  | ((with_reducible apply gd_k); first
    | ((with_reducible apply ev_if))
    | ((with_reducible apply ev_andV))
    | ((with_reducible apply ev_orV))
    | ((with_reducible apply ev_notV))
    | ((with_reducible apply ev_chainP))
    | ((with_reducible apply ev_stretch); (case hB => assumption); (case hC => exact rfl))
    | ((with_reducible apply ev_stretchZ); (case hB => assumption); (case hC => exact rfl); (case hx => walk_at "hx"))
    | ((with_reducible apply ev_callZ); (case hB => assumption); (case hx => walk_at "hx"))
    | ((with_reducible apply ev_methZ); (case hB => assumption); (case hx => walk_at "hx"))
    | ((with_reducible apply ev_binI); (case hB => assumption); (case hx => walk_at "hx"))
    | ((with_reducible apply ev_binO); (case hB => assumption); (case hx => walk_at "hx"))
    | ((with_reducible apply ev_negO); (case hB => assumption); (case hx => walk_at "hx"))
    | ((with_reducible apply ev_xfI); (case hC => exact xcl_of (by assumption) rfl))
    | ((with_reducible apply ev_xfP); (case hC => exact xcl_of (by assumption) rfl))
    | ((with_reducible apply ev_makeV); (case hB => assumption); (case hi => exact rfl); (case hC => exact rfl))
    | ((with_reducible apply ev_levels); (case hB => assumption); (case hC => exact rfl))
    | ((with_reducible apply (ev_cmethZ .Stretch)); (case hB => assumption); (case hC => exact rfl); (case hx => walk_at "hx"))
    | ((with_reducible apply (ev_cmethZ .Levels)); (case hB => assumption); (case hC => exact rfl); (case hx => walk_at "hx"))
    | ((with_reducible apply ev_propZ); (case hB => assumption))
    | ((with_reducible apply ev_propX); (case hB => assumption); (case hx => walk_at "hx"))
    | ((with_reducible apply ev_joined))
    | ((with_reducible apply ev_fmtI)))
  | ((with_reducible apply gd_t); first
    | ((with_reducible apply et_test))
    | ((with_reducible apply et_B))
    | ((with_reducible apply et_not))
    | ((with_reducible apply et_and))
    | ((with_reducible apply et_or))
    | ((with_reducible apply et_yes))
    | ((with_reducible apply et_truthL); (case hK => assumption)))
  | ((with_reducible apply gd_a); first
    | ((with_reducible apply ea_nil))
    | ((with_reducible apply ea_cons)))
  | ((with_reducible apply gd_l); first
    | ((with_reducible apply el_nil))
    | ((with_reducible apply el_cons))
    | ((with_reducible apply el_starL); (case hK => assumption))
    | ((with_reducible apply el_starT); (case hK => assumption)))
  | ((with_reducible apply gd_j); first
    | ((with_reducible apply ej_nil))
    | ((with_reducible apply ej_cons)))
  | ((with_reducible apply tg_name))
  | ((with_reducible apply tj_name))
  | ((with_reducible apply tj_tup2); (case hK => assumption))
  | ((with_reducible apply tj_tup3); (case hK => assumption))
  | ((with_reducible apply eqg_in); (case h1 => decide); (case h2 => walk_at "good"); (case h3 => walk_at "good"))
  | ((with_reducible apply neg_in); (case h1 => decide); (case h2 => walk_at "good"); (case h3 => walk_at "good"))
  | ((with_reducible apply ownM_in); (case hC => exact rfl); (case hm => decide))
  | ((with_reducible apply own_in); (case hC => exact rfl))
  | ((with_reducible apply tyG_in); (case hn => exact nf_self))
  | ((with_reducible apply plnG_in))
  | ((with_reducible apply isO_self); (case hT => exact isT_of (by assumption) (by first | exact (by assumption : Txt _ _ _).is_Stretch | exact (by assumption : Txt _ _ _).is_Levels)); (case hC => exact cl_of (by assumption) rfl))
  | ((with_reducible apply chg_in); (case h1 => walk_at "g"; exact rfl))
  | (refine And.intro (by show _ ≤ 100000; first | exact Nat.le_of_ble_eq_true rfl | omega | (dsimp only; omega)) ?_)
  | (refine And.intro (show CMul _ _ from Or.inl ⟨by omega, by omega⟩) ?_)
  | (refine And.intro (show CMul _ _ from Or.inr ⟨by omega, by omega⟩) ?_)
  | (refine And.intro (show CDiv _ _ from ⟨by omega, by omega⟩) ?_)
  | (refine And.intro (show (0 : Int) < _ by omega) ?_)
  | (refine And.intro (by assumption : Small _) ?_)
  | (refine And.intro (show Small _ from Small.of (by omega) (by omega)) ?_)
  | (refine And.intro (by show _ ≤ 1000000; walk_at "len") ?_)
  | fail)
local macro_rules | `(tactic| walk_at "g1") => `(tactic| first | ((with_reducible apply gd_set); (conv => arg 3; dsimp only [List.set])) | (with_reducible apply sx_seq) | walk_at "g0")
local macro_rules | `(tactic| walk_at "s1") => `(tactic| first | ((with_reducible apply gd_set); (conv => arg 3; dsimp only [List.set])) | (with_reducible apply sx_seqA) | (with_reducible apply sx_seqD) | walk_at "g0")
local macro_rules | `(tactic| walk_at "s") => `(tactic| repeat walk_at "s1")
local macro_rules | `(tactic| walk_at "g") => `(tactic| repeat walk_at "g1")
section
variable {P : Program} {w : World} {K : PySem.W.Frag} {mg : Str → Option Value} {base : Heap} {A : Ad} [MainP P]
def P_take : PT := fun rt xx ts => ∃ (m : Int), ts = [T Bx.mk, T m] ∧ (0 < m ∧ m < 1073741824 ∧ ∀ k : Int, 0 ≤ k → k < m → rt (T k))
theorem pc_take {rt : Ty → Prop} {xx : Xn → Prop} {m : Int} (h : 0 < m ∧ m < 1073741824 ∧ ∀ k : Int, 0 ≤ k → k < m → rt (T k)) : P_take rt xx [T Bx.mk, T m] := ⟨_, rfl, h⟩
theorem ok_take (tx : Txt K mg A) : FnR P w K mg base CX0 1 A.f_take (spG (bs K A) P_take) := by
  refine fnR_of tx.g_take.d sc_take (fun vs H Q E h => ?_) (fun cdv Ar outer s H vs Q E hr h => ?_)
  · exact len_ok (n := 2) (fun rt xx ts hp => by obtain ⟨_, rfl, _⟩ := hp; rfl) vs H Q E h
  · refine ⟨_, (pss_cons (ps_set (i := 2) sc_take.nd rfl (Or.inl rfl) (pe_ix (ix_listK K) (pv 0) pe_int (fun _ _ => rfl)))
        (pss_cons (ps_if (PW.pt (pw_and (pt_cmpR (op_eqDK K (huD hr)) (pe_ix (ix_listK K) (pv 0) pe_int (fun _ _ => rfl)) pe_int (nomark _)) (pw_and (pt_cmpR op_lt (pe_ix (ix_listK K) (pv 0) pe_int (fun _ _ => rfl)) (pe_callB (call_lenK K) (by rfl) tx.z_len PySem.boot_len (pa_cons (pv 2) pa_nil)) (nomark _)) (pw_and1 (pt_cmpR op_gt (pe_ix (ix_listK K) (pv 2) (pe_ix (ix_listK K) (pv 0) pe_int (fun _ _ => rfl)) (fun _ _ => rfl)) (pe_op op_pow pe_int pe_int) (nomark _)))))) (pss_cons (ps_asg (pe_op op_sub (pe_ix (ix_listK K) (pv 2) (pe_ix (ix_listK K) (pv 0) pe_int (fun _ _ => rfl)) (fun _ _ => rfl)) (pe_op op_pow pe_int pe_int)) (pg_sub (pv 0) pe_int set_list))
        (pss_one (ps_asg (pe_op op_add (pe_ix (ix_listK K) (pv 0) pe_int (fun _ _ => rfl)) pe_int) (pg_sub (pv 0) pe_int set_list)))) pss_nil)
        (pss_cons (ps_if (pt_cmpR op_gt (pe_ix (ix_listK K) (pv 0) pe_int (fun _ _ => rfl)) pe_int (nomark _)) (pss_cons (ps_set (i := 3) sc_take.nd rfl (Or.inl rfl) (pe_op op_mod (pe_callTy call_int1 (by rfl) tx.z_int (by decide +kernel) (pa_cons (pe_ix (ix_listK K) (pv 0) pe_int (fun _ _ => rfl)) pa_nil)) (pv 1)))
        (pss_cons (ps_asg (pe_op op_fdiv (pe_callTy call_int1 (by rfl) tx.z_int (by decide +kernel) (pa_cons (pe_ix (ix_listK K) (pv 0) pe_int (fun _ _ => rfl)) pa_nil)) (pv 1)) (pg_sub (pv 0) pe_int set_list))
        (pss_one (ps_ret (pv 3))))) pss_nil)
        (pss_cons (ps_set (i := 4) sc_take.nd rfl (Or.inl rfl) pe_int)
        (pss_cons (ps_if (pt_cmpR op_lt (pe_ix (ix_listK K) (pv 0) pe_int (fun _ _ => rfl)) (pe_callB (call_lenK K) (by rfl) tx.z_len PySem.boot_len (pa_cons (pv 2) pa_nil)) (nomark _)) (pss_one (ps_set (i := 4) sc_take.nd rfl (Or.inl rfl) (pe_callTy call_int1 (by rfl) tx.z_int (by decide +kernel) (pa_cons (pe_ix (ix_listK K) (pv 2) (pe_ix (ix_listK K) (pv 0) pe_int (fun _ _ => rfl)) (fun _ _ => rfl)) pa_nil)))) pss_nil)
        (pss_cons (ps_asg (pe_op op_add (pe_ix (ix_listK K) (pv 0) pe_int (fun _ _ => rfl)) pe_int) (pg_sub (pv 0) pe_int set_list))
        (pss_cons (ps_asg (pe_op op_mod (pe_callTy call_int1 (by rfl) tx.z_int (by decide +kernel) (pa_cons (pe_op op_add (pe_op op_add (pe_op op_mul (pe_ix (ix_listK K) (pv 0) pe_int (fun _ _ => rfl)) pe_int) (pe_op op_mul (pv 4) pe_int)) (pe_ix (ix_listK K) (pv 0) pe_int (fun _ _ => rfl))) pa_nil)) pe_int) (pg_sub (pv 0) pe_int set_list))
        (pss_one (ps_ret (pe_op op_mod (pe_op op_mod (pe_callTy call_int1 (by rfl) tx.z_int (by decide +kernel) (pa_cons (pe_op op_add (pe_op op_mul (pe_op op_fdiv (pe_ix (ix_listK K) (pv 0) pe_int (fun _ _ => rfl)) pe_int) pe_int) (pe_op op_mod (pe_callTy call_int1 (by rfl) tx.z_int (by decide +kernel) (pa_cons (pe_ix (ix_listK K) (pv 0) pe_int (fun _ _ => rfl)) pa_nil)) pe_int)) pa_nil)) pe_int) (pv 1))))))))))), ?_⟩
    try dsimp only [cxOf, Cx.nox]
    obtain ⟨W, ts, rt, xx, hB, ho, d, ⟨m, rfl, hm0, hm1, hk⟩, hq, hx⟩ := h
    cases d with
    | cons db d2 =>
    cases d2 with
    | cons dm d3 =>
    cases d3
    obtain ⟨b, rfl, hbx⟩ : ∃ b, _ = V.ref b ∧ W.box b := db
    obtain rfl : _ = V.int m := dm
    obtain ⟨c, ns, i, p, s, hbc, hb0, hc0, hi, hp⟩ := W.hasbox H b ho hbx
    have mb := W.boxmu b hbx
    -- the end: any state of the box will do
    have fin : ∀ (i' p' s' k : Int), 0 ≤ i' → 0 ≤ p' → 0 ≤ k → k < m → Q (.int k) (upd H b (.lst [.ref c, .int i', .int p', .int s'])) := by
      intro i' p' s' k h1 h2 h3 h4
      refine hq (.int k) _ (T k) ⟨fun a o n e => ?_, W.boxset H b c i p s i' p' s' ho hbx hb0 h1 h2⟩ rfl (hk k h3 h4)
      rw [upd_ne (fun z => n (by rw [z]; exact mb))]; exact e
    have hlen : ((ns.map V.int).length : Int) = ns.length := by rw [List.length_map]
    have cell : ∀ j : Int, 0 ≤ j → j < ns.length → ∃ z, atI (ns.map V.int) j = some (V.int z) := by
      intro j h1 h2
      obtain ⟨n, rfl⟩ : ∃ n : Nat, j = (n : Int) := ⟨j.toNat, by omega⟩
      have hn : n < ns.length := by omega
      exact ⟨ns[n], atI_nat (by rw [List.getElem?_map, List.getElem?_eq_getElem hn]; rfl)⟩
    have p18 : ((10 : Int) ^ (18 : Int).toNat) = 1000000000000000000 := by decide
    have c18 : CPow 10 18 := ⟨by decide, by decide, by decide⟩
    have modk : ∀ y : Int, 0 ≤ y % m ∧ y % m < m := fun y => ⟨Int.emod_nonneg _ (by omega), Int.emod_lt_of_pos _ hm0⟩
    refine ⟨_, rfl, b, _, 0, .ref c, rfl, rfl, .inl (.inl hb0), rfl, ?_⟩
    -- if box[2] == 0 and ..
    refine ⟨_, rfl, b, _, 2, .int p, rfl, rfl, .inl (.inl hb0), rfl, .int p, .int 0, .int p, .int 0, rfl, rfl, _, rfl, ?_⟩
    by_cases h0 : p = 0
    · refine itT (by rw [h0]; rfl) ?_
      refine ⟨_, rfl, b, _, 1, .int i, rfl, rfl, .inl (.inl hb0), rfl, _, rfl, c, _, rfl, .inl (.inl (.inl hc0)), i, _, rfl, rfl, _, rfl, ?_⟩
      -- the third test is False, or the place lies beyond: on with the cell
      have rest : ∀ cl : Int, tSeq
          (tAsg (tOp (rI0 fun i j => V.int (i + j)) (tOp (rIxL K) (tVar 0) (tC (V.int 1))) (tC (V.int 1))) (gSub (tVar 0) (tC (V.int 1)) rSetL))
          (tSeq
            (tAsg (tOp (rI (fun x j => 0 < j) fun i j => V.int (i % j)) (tCB (fun xs H Q => (∃ i, xs = [V.int i] ∧ Q (V.int i) H) ∨ ∃ k, xs = [V.bl k] ∧ Q (V.int (if k = true then 1 else 0)) H)
              (tCons (tOp (rI0 fun i j => V.int (i + j)) (tOp (rI0 fun i j => V.int (i + j)) (tOp (rI CMul fun i j => V.int (i * j)) (tOp (rIxL K) (tVar 0) (tC (V.int 3))) (tC (V.int 48271))) (tOp (rI CMul fun i j => V.int (i * j)) (tVar 4) (tC (V.int 7))))
                (tOp (rIxL K) (tVar 0) (tC (V.int 1)))) tNil)) (tC (V.int 2147483647))) (gSub (tVar 0) (tC (V.int 3)) rSetL))
            (tRet (tOp (rI (fun x j => 0 < j) fun i j => V.int (i % j)) (tOp (rI (fun x j => 0 < j) fun i j => V.int (i % j)) (tCB (fun xs H Q => (∃ i, xs = [V.int i] ∧ Q (V.int i) H) ∨ ∃ k, xs = [V.bl k] ∧ Q (V.int (if k = true then 1 else 0)) H)
              (tCons (tOp (rI0 fun i j => V.int (i + j)) (tOp (rI CMul fun i j => V.int (i * j)) (tOp (rI CDiv fun i j => V.int (i / j)) (tOp (rIxL K) (tVar 0) (tC (V.int 3))) (tC (V.int 8))) (tC (V.int 31)))
                (tOp (rI (fun x j => 0 < j) fun i j => V.int (i % j)) (tCB (fun xs H Q => (∃ i, xs = [V.int i] ∧ Q (V.int i) H) ∨ ∃ k, xs = [V.bl k] ∧ Q (V.int (if k = true then 1 else 0)) H) (tCons (tOp (rIxL K) (tVar 0) (tC (V.int 3))) tNil)) (tC (V.int 65537)))) tNil))
              (tC (V.int 1000003))) (tVar 1))))
          { nx := fun _ H' => Q .non H', rt := Q } [some (.ref b), some (.int m), some (.ref c), none, some (.int cl)] H := by
        intro cl
        refine ⟨_, rfl, b, _, 1, .int i, rfl, rfl, .inl (.inl hb0), rfl, i, 1, rfl, rfl, _, rfl, b, _, 1, 1, rfl, rfl, hb0, rfl, ?_⟩
        refine ⟨_, rfl, b, _, 3, .int s, rfl, rfl, .inl (.inl upd_same), rfl, s, 48271, rfl, rfl, .inr ⟨by decide, by decide⟩, ?_⟩
        refine ⟨_, rfl, cl, 7, rfl, rfl, .inr ⟨by decide, by decide⟩, _, _, rfl, rfl, ?_⟩
        refine ⟨_, rfl, b, _, 1, .int (i + 1), rfl, rfl, .inl (.inl upd_same), rfl, _, _, rfl, rfl, .inl ⟨_, rfl, _, 2147483647, rfl, rfl, by show (0 : Int) < 2147483647; decide, ?_⟩⟩
        refine ⟨_, rfl, b, _, 3, 3, rfl, rfl, upd_same, rfl, ?_⟩
        rw [upd_upd]
        refine ⟨_, rfl, b, _, 3, .int _, rfl, rfl, .inl (.inl upd_same), rfl, _, 8, rfl, rfl, ⟨by decide, by decide⟩, _, 31, rfl, rfl, .inr ⟨by decide, by decide⟩, ?_⟩
        refine ⟨_, rfl, b, _, 3, .int _, rfl, rfl, .inl (.inl upd_same), rfl, .inl ⟨_, rfl, _, 65537, rfl, rfl, by show (0 : Int) < 65537; decide, _, _, rfl, rfl, .inl ⟨_, rfl, _, 1000003, rfl, rfl, by show (0 : Int) < 1000003; decide, ?_⟩⟩⟩
        exact ⟨_, rfl, _, m, rfl, rfl, hm0, fin (i + 1) p _ _ (by omega) (by omega) (modk _).1 (modk _).2⟩
      -- behind the two ifs: no pending number
      have cont : ∀ σ2 : L2.St, σ2 = [some (.ref b), some (.int m), some (.ref c), none, none] → ∀ t1 : TS, ∀ t2, t2 = tSeq
          (tIfS (tTest (tOp (rI0 fun i j => V.bl (decide (j < i))) (tOp (rIxL K) (tVar 0) (tC (V.int 2))) (tC (V.int 0)))) t1 tNext)
          (tSeq (tAsg (tC (V.int 0)) (gName 4))
            (tSeq
              (tIfS (tTest (tOp (rI0 fun i j => V.bl (decide (i < j))) (tOp (rIxL K) (tVar 0) (tC (V.int 1))) (tCB (fun xs H Q => ∃ p ys, xs = [V.ref p] ∧ (SqL K H p ys ∨ SqT K H p ys) ∧ Q (V.int ↑ys.length) H) (tCons (tVar 2) tNil))))
                (tAsg (tCB (fun xs H Q => (∃ i, xs = [V.int i] ∧ Q (V.int i) H) ∨ ∃ k, xs = [V.bl k] ∧ Q (V.int (if k = true then 1 else 0)) H) (tCons (tOp (rIxL K) (tVar 2) (tOp (rIxL K) (tVar 0) (tC (V.int 1)))) tNil)) (gName 4)) tNext)
              (tSeq
          (tAsg (tOp (rI0 fun i j => V.int (i + j)) (tOp (rIxL K) (tVar 0) (tC (V.int 1))) (tC (V.int 1))) (gSub (tVar 0) (tC (V.int 1)) rSetL))
          (tSeq
            (tAsg (tOp (rI (fun x j => 0 < j) fun i j => V.int (i % j)) (tCB (fun xs H Q => (∃ i, xs = [V.int i] ∧ Q (V.int i) H) ∨ ∃ k, xs = [V.bl k] ∧ Q (V.int (if k = true then 1 else 0)) H)
              (tCons (tOp (rI0 fun i j => V.int (i + j)) (tOp (rI0 fun i j => V.int (i + j)) (tOp (rI CMul fun i j => V.int (i * j)) (tOp (rIxL K) (tVar 0) (tC (V.int 3))) (tC (V.int 48271))) (tOp (rI CMul fun i j => V.int (i * j)) (tVar 4) (tC (V.int 7))))
                (tOp (rIxL K) (tVar 0) (tC (V.int 1)))) tNil)) (tC (V.int 2147483647))) (gSub (tVar 0) (tC (V.int 3)) rSetL))
            (tRet (tOp (rI (fun x j => 0 < j) fun i j => V.int (i % j)) (tOp (rI (fun x j => 0 < j) fun i j => V.int (i % j)) (tCB (fun xs H Q => (∃ i, xs = [V.int i] ∧ Q (V.int i) H) ∨ ∃ k, xs = [V.bl k] ∧ Q (V.int (if k = true then 1 else 0)) H)
              (tCons (tOp (rI0 fun i j => V.int (i + j)) (tOp (rI CMul fun i j => V.int (i * j)) (tOp (rI CDiv fun i j => V.int (i / j)) (tOp (rIxL K) (tVar 0) (tC (V.int 3))) (tC (V.int 8))) (tC (V.int 31)))
                (tOp (rI (fun x j => 0 < j) fun i j => V.int (i % j)) (tCB (fun xs H Q => (∃ i, xs = [V.int i] ∧ Q (V.int i) H) ∨ ∃ k, xs = [V.bl k] ∧ Q (V.int (if k = true then 1 else 0)) H) (tCons (tOp (rIxL K) (tVar 0) (tC (V.int 3))) tNil)) (tC (V.int 65537)))) tNil))
              (tC (V.int 1000003))) (tVar 1))))))) → t2 { nx := fun _ H' => Q .non H', rt := Q } σ2 H := by
        intro σ2 e t1 t2 e2
        subst e
        subst e2
        refine ⟨_, rfl, b, _, 2, .int p, rfl, rfl, .inl (.inl hb0), rfl, p, 0, rfl, rfl, _, rfl, ?_⟩
        refine itF (decide_eq_false (by omega)) ?_
        refine ⟨_, rfl, b, _, 1, .int i, rfl, rfl, .inl (.inl hb0), rfl, _, rfl, c, _, rfl, .inl (.inl (.inl hc0)), i, _, rfl, rfl, _, rfl, ?_⟩
        by_cases h1 : i < ns.length
        · obtain ⟨z, hz⟩ := cell i hi h1
          refine itT (decide_eq_true (by omega)) ?_
          refine ⟨_, rfl, _, rfl, b, _, 1, .int i, rfl, rfl, .inl (.inl hb0), rfl, c, _, i, .int z, rfl, rfl, .inl (.inl hc0), hz, .inl ⟨z, rfl, ?_⟩⟩
          exact rest z
        · refine itF (decide_eq_false (by omega)) ?_
          exact rest 0
      by_cases h1 : i < ns.length
      · refine itT (decide_eq_true (by omega)) ?_
        obtain ⟨z, hz⟩ := cell i hi h1
        refine ⟨_, rfl, _, rfl, b, _, 1, .int i, rfl, rfl, .inl (.inl hb0), rfl, c, _, i, .int z, rfl, rfl, .inl (.inl hc0), hz, 10, 18, rfl, rfl, c18, z, _, rfl, rfl, _, rfl, ?_⟩
        by_cases h2 : (1000000000000000000 : Int) < z
        · -- the cell is a pending number
          refine itT (decide_eq_true (by rw [p18]; exact h2)) ?_
          refine ⟨_, rfl, _, rfl, b, _, 1, .int i, rfl, rfl, .inl (.inl hb0), rfl, c, _, i, .int z, rfl, rfl, .inl (.inl hc0), hz, 10, 18, rfl, rfl, c18, z, _, rfl, rfl, ?_⟩
          refine ⟨_, rfl, b, _, 2, 2, rfl, rfl, hb0, rfl, ?_⟩
          refine ⟨_, rfl, b, _, 1, .int i, rfl, rfl, .inl (.inl upd_same), rfl, i, 1, rfl, rfl, _, rfl, b, _, 1, 1, rfl, rfl, upd_same, rfl, ?_⟩
          rw [upd_upd]
          refine ⟨_, rfl, b, _, 2, .int _, rfl, rfl, .inl (.inl upd_same), rfl, _, 0, rfl, rfl, _, rfl, ?_⟩
          refine itT (decide_eq_true (by rw [p18]; omega)) ?_
          refine ⟨_, rfl, b, _, 2, .int _, rfl, rfl, .inl (.inl upd_same), rfl, .inl ⟨_, rfl, _, rfl, _, m, rfl, rfl, hm0, ?_⟩⟩
          refine ⟨_, rfl, b, _, 2, .int _, rfl, rfl, .inl (.inl upd_same), rfl, .inl ⟨_, rfl, _, rfl, _, m, rfl, rfl, ⟨hm0, hm1⟩, _, rfl, b, _, 2, 2, rfl, rfl, upd_same, rfl, ?_⟩⟩
          rw [upd_upd]
          refine ⟨_, rfl, fin (i + 1) _ s _ (by omega) (Int.ediv_nonneg (by rw [p18]; omega) (by omega)) (modk _).1 (modk _).2⟩
        · refine itF (decide_eq_false (by rw [p18]; exact h2)) ?_
          exact cont _ rfl _ _ rfl
      · refine itF (decide_eq_false (by omega)) ?_
        exact cont _ rfl _ _ rfl
    · refine itF (by show (p == 0) = false; simp [h0]) ?_
      refine ⟨_, rfl, b, _, 2, .int p, rfl, rfl, .inl (.inl hb0), rfl, p, 0, rfl, rfl, _, rfl, ?_⟩
      refine itT (decide_eq_true (by omega)) ?_
      refine ⟨_, rfl, b, _, 2, .int p, rfl, rfl, .inl (.inl hb0), rfl, .inl ⟨_, rfl, _, rfl, _, m, rfl, rfl, hm0, ?_⟩⟩
      refine ⟨_, rfl, b, _, 2, .int p, rfl, rfl, .inl (.inl hb0), rfl, .inl ⟨_, rfl, _, rfl, _, m, rfl, rfl, ⟨hm0, hm1⟩, _, rfl, b, _, 2, 2, rfl, rfl, hb0, rfl, ?_⟩⟩
      exact ⟨_, rfl, fin i _ s _ hi (Int.ediv_nonneg hp (by omega)) (modk _).1 (modk _).2⟩
def spBox (K : PySem.W.Frag) : Sp := fun vs H Q E => ∃ (a : Addr) (ns : List Int) (s : Int), vs = [.ref a, .int s] ∧ SqL K H a (ns.map V.int) ∧ ns.length ≤ 63 ∧
  ∀ (b c : Addr) (H' : Hp), b ≠ c → H' b = some (.lst [.ref c, .int 0, .int 0, .int s]) → H' c = some (.lst (ns.map V.int)) → Q (.ref b) H'
theorem ok_box (tx : Txt K mg A) : FnR P w K mg base CX0 1 A.f_box (spBox K) := by
  refine fnR_of tx.g_box.d sc_box (fun vs H Q E h => ?_) (fun cdv Ar outer s H vs Q E hr h => ?_)
  · obtain ⟨a, ns, s, rfl, _⟩ := h; rfl
  · refine ⟨_, (pss_one (ps_ret (pe_lst (pa_cons (pe_lc (own := [("_law_cell", 2)]) rfl sc_box.nd (pi_listK K (pe_slice (sl_listK K) (pv 0) po_none (po_some pe_int))) (blkOk_by (N := ["_law_script", "_law_salt", "_law_cell"]) (sc := defScope s_box) (by decide +kernel)) (fun _ _ _ _ _ => (pg_name (i := 2) sc_box.nd rfl (Or.inl rfl))) (fun _ _ _ _ _ => pts_nil) (fun _ _ _ _ _ => (pe_callTy call_int1 (by rfl) tx.z_int (by decide +kernel) (pa_cons (pv 2) pa_nil)))) (pa_cons pe_int (pa_cons pe_int (pa_cons (pv 1) pa_nil))))))), ?_⟩
    try dsimp only [cxOf, Cx.nox]
    obtain ⟨a, ns, s, rfl, hS, hl, k⟩ := h
    refine ⟨_, rfl, _, rfl, a, _, rfl, hS, fun p hp => ⟨p, rfl, ⟨_, .inl (.inl upd_same)⟩, fun D nD => ?_⟩⟩
    have hpD : p ≠ D := ne_of_none upd_same nD
    have hcut : cutV (ns.map V.int) none (some 63) = ns.map V.int := by
      unfold cutV
      show (List.drop 0 (ns.map V.int)).take (HT.sIx (ns.map V.int).length (ns.map V.int).length (some 63) - 0) = _
      rw [List.drop_zero]
      have e : HT.sIx (ns.map V.int).length (ns.map V.int).length (some 63) = (ns.map V.int).length := by
        rw [List.length_map]
        unfold HT.sIx
        simp
        omega
      rw [e, Nat.sub_zero, List.take_length]
    rw [hcut]
    refine lc_list (xs := ns.map V.int) (fun i H' => H' p = some (.lst (ns.map V.int)) ∧ H' D = some (.lst ((ns.take i).map V.int))) ⟨by rw [upd_ne hpD]; exact upd_same, upd_same⟩ (fun i H' _ h => .inl (.inl h.1)) ?_ ?_
    · rintro i x H' hx ⟨h1, h2⟩
      obtain ⟨z, hz, rfl⟩ : ∃ z, ns[i]? = some z ∧ x = V.int z := by
        rw [List.getElem?_map] at hx
        cases e : ns[i]? with
        | none => rw [e] at hx; cases hx
        | some z => rw [e] at hx; exact ⟨z, rfl, (Option.some.inj hx).symm⟩
      have hi := (List.getElem?_eq_some_iff.mp hz).1
      refine ⟨rfl, ?_⟩
      refine yes_then ?_
      refine ⟨_, rfl, .inl ⟨z, rfl, _, h2, ?_, ?_, ?_⟩⟩
      · exact Nat.lt_of_le_of_lt (by rw [List.length_map]; exact List.length_take_le' _ _) (Nat.lt_of_le_of_lt hl (by decide : 63 < sizeLine))
      · rw [upd_ne hpD]; exact h1
      · rw [upd_same, List.take_succ, hz, List.map_append]; rfl
    · rintro H' ⟨h1, h2⟩
      rw [List.length_map, List.take_length] at h2
      refine ⟨_, rfl, by show 4 ≤ sizeLine; decide, fun b hb => ?_⟩
      have hbD : b ≠ D := (ne_of_none h2 hb).symm
      exact k b D _ hbD upd_same (by rw [upd_ne hbD.symm]; exact h2)
def P_word : PT := fun rt xx ts => ∃ (n : Int) (m : Int) (b : Bool), ts = [T n, T m, T b] ∧ (0 ≤ n ∧ n ≤ 1000000000 ∧ 0 ≤ m ∧ m ≤ 12 ∧ rt (T (wordS n m.toNat b)))
theorem pc_word {rt : Ty → Prop} {xx : Xn → Prop} {n : Int} {m : Int} {b : Bool} (h : 0 ≤ n ∧ n ≤ 1000000000 ∧ 0 ≤ m ∧ m ≤ 12 ∧ rt (T (wordS n m.toNat b))) : P_word rt xx [T n, T m, T b] := ⟨_, _, _, rfl, h⟩
theorem ok_word (tx : Txt K mg A) : FnR P w K mg base CX0 1 A.f_word (spG (bs K A) P_word) := by
  refine fnR_of tx.g_word.d sc_word (len_ok (n := 3) fun rt xx ts hp => by obtain ⟨_, _, _, rfl, _⟩ := hp; rfl) (fun cdv Ar outer s H vs Q E hr h => ⟨_, (pss_cons (ps_set (i := 3) sc_word.nd rfl (Or.inl rfl) pe_str)
        (pss_cons (ps_for PassesOwn.never rfl (pi_range1 (by rfl) tx.z_range (pa_cons (pv 1) pa_nil)) (pg_name (i := 4) sc_word.nd rfl (Or.inl rfl)) (pss_cons (ps_set (i := 3) sc_word.nd rfl (Or.inl rfl) (pe_op op_add_str (pv 3) (pe_ix ix_str pe_str (pe_op op_mod (pe_callTy call_int1 (by rfl) tx.z_int (by decide +kernel) (pa_cons (pv 0) pa_nil)) pe_int) (fun _ _ => rfl))))
        (pss_one (ps_set (i := 0) sc_word.nd rfl (Or.inl rfl) (pe_op op_fdiv (pe_callTy call_int1 (by rfl) tx.z_int (by decide +kernel) (pa_cons (pv 0) pa_nil)) pe_int)))))
        (pss_cons (ps_if (pt_val (pv 2)) (pss_one (ps_ret (pe_revS (pv 3)))) pss_nil)
        (pss_one (ps_ret (pv 3)))))),
      body_ok (N := ["_law_number", "_law_many", "_law_back", "_law_word_here", "_law_turn"]) (fun W ts rt xx hB ho hw hp => ?_) h⟩)
  have hK : W.B.K = K := congrArg Bs.K hB
  obtain ⟨n, m, b, rfl, hp⟩ := hp
  show Sx W _ [some (T n), some (T m), some (T b), none, none] _
  obtain ⟨h1, h2, h3, h4, hp⟩ := hp
  walk_at "g"
  apply sx_forR
  walk_at "g"
  refine ⟨by omega, fun i Γ' => ∃ (ni : Int) (z : Str) (o4 : Option Ty), 0 ≤ ni ∧ ni ≤ 1000000000 ∧ z.length = i ∧ z.cps.toList ++ wordL (m.toNat - i) ni = wordL m.toNat n ∧ Γ' = [some (T ni), some (T m), some (T b), some (T z), o4], ⟨n, Str.ofString "", none, h1, h2, by decide +kernel, ?_, rfl⟩, ?_, ?_⟩
  · rw [show (Str.ofString "").cps.toList = [] by decide +kernel]
    rfl
  · rintro i Γ' hi ⟨ni, z, o4, n0, n1, zl, ze, rfl⟩
    have hi' : i < m.toNat := hi
    obtain ⟨r, hr⟩ : ∃ r, m.toNat - i = r + 1 := ⟨m.toNat - i - 1, by omega⟩
    rw [hr] at ze
    have q0 : 0 ≤ ni % 26 := Int.emod_nonneg _ (by decide)
    have q1 : ni % 26 < 26 := Int.emod_lt_of_pos _ (by decide)
    apply tg_of
    walk_at "g"
    refine ⟨_, abc_at q0 q1, by show z.length + 1 ≤ 1000000; omega, ?_⟩
    walk_at "g"
    refine ⟨ni / 26, _, _, by omega, by omega, by rw [snoc_len, zl], ?_, rfl⟩
    rw [snoc_list, List.append_assoc, show m.toNat - (i + 1) = r by omega, ← ze]
    rfl
  · rintro Γ' ⟨ni, z, o4, n0, n1, zl, ze, rfl⟩
    have hz : z.cps.toList = wordL m.toNat n := by
      rw [Nat.sub_self] at ze
      rw [← ze]
      exact (List.append_nil _).symm
    obtain ⟨w1, w2⟩ := wordS_of hz
    walk_at "g"
    refine ⟨fun hb => ?_, fun hb => ?_⟩
    · apply sx_ret
      refine ev_revS ?_
      walk_at "g"
      rw [hb, w2] at hp
      exact hp
    · walk_at "g"
      rw [hb, w1] at hp
      exact hp
def P_words : PT := fun rt xx ts => ∃ (m : Int), ts = [T Bx.mk, T m] ∧ (0 ≤ m ∧ m ≤ 16 ∧ ∀ ws : List Str, (ws.length : Int) = m → ws.Nodup → (∀ w ∈ ws, GoodW w) → rt (T ws))
theorem pc_words {rt : Ty → Prop} {xx : Xn → Prop} {m : Int} (h : 0 ≤ m ∧ m ≤ 16 ∧ ∀ ws : List Str, (ws.length : Int) = m → ws.Nodup → (∀ w ∈ ws, GoodW w) → rt (T ws)) : P_words rt xx [T Bx.mk, T m] := ⟨_, rfl, h⟩
theorem ok_words (tx : Txt K mg A) : FnR P w K mg base CX0 2 A.f_words (spG (bs K A) P_words) := by
  have G_take := ok_take (P := P) (w := w) (base := base) tx
  have G_word := ok_word (P := P) (w := w) (base := base) tx
  refine fnR_of tx.g_words.d sc_words (len_ok (n := 2) fun rt xx ts hp => by obtain ⟨_, rfl, _⟩ := hp; rfl) (fun cdv Ar outer s H vs Q E hr h => ⟨_, (pss_cons (ps_set (i := 2) sc_words.nd rfl (Or.inl rfl) (pe_lst pa_nil))
        (pss_cons (ps_set (i := 3) sc_words.nd rfl (Or.inl rfl) (pe_cmpR (op_eqDK K (huD hr)) (pe_callR G_take (room hr) rfl (tx.g_take).g (tx.g_take).kp pass0 (pa_cons (pv 0) (pa_cons pe_int pa_nil))) pe_int (nomark _)))
        (pss_cons (ps_for PassesOwn.never rfl (pi_range1 (by rfl) tx.z_range (pa_cons (pv 1) pa_nil)) (pg_name (i := 4) sc_words.nd rfl (Or.inl rfl)) (pss_cons (ps_set (i := 5) sc_words.nd rfl (Or.inl rfl) (pe_ix (ix_listK K) (pe_lst (pa_cons pe_int (pa_cons pe_int (pa_cons pe_int (pa_cons pe_int (pa_cons pe_int (pa_cons pe_int pa_nil))))))) (pe_callR G_take (room hr) rfl (tx.g_take).g (tx.g_take).kp pass0 (pa_cons (pv 0) (pa_cons pe_int pa_nil))) (fun _ _ => rfl)))
        (pss_cons (ps_set (i := 6) sc_words.nd rfl (Or.inl rfl) (pe_callR G_take (room hr) rfl (tx.g_take).g (tx.g_take).kp pass0 (pa_cons (pv 0) (pa_cons pe_int pa_nil))))
        (pss_cons (ps_set (i := 7) sc_words.nd rfl (Or.inl rfl) (pe_callR G_word (room hr) rfl (tx.g_word).g (tx.g_word).kp pass0 (pa_cons (pv 6) (pa_cons (pv 5) (pa_cons (pv 3) pa_nil)))))
        (pss_cons (ps_for PassesOwn.never rfl (pi_range1 (by rfl) tx.z_range (pa_cons pe_int pa_nil)) (pg_name (i := 8) sc_words.nd rfl (Or.inl rfl)) (pss_one (ps_if (PW.pt (pw_or (pt_cmpR (op_inSeqK K) (pv 7) (pv 2) rfl) (pw_or1 (pt_cmpR (op_inSeqK K) (pv 7) (pe_lst (pa_cons pe_str (pa_cons pe_str (pa_cons pe_str (pa_cons pe_str pa_nil))))) rfl)))) (pss_cons (ps_set (i := 6) sc_words.nd rfl (Or.inl rfl) (pe_op op_add (pv 6) pe_int))
        (pss_one (ps_set (i := 7) sc_words.nd rfl (Or.inl rfl) (pe_callR G_word (room hr) rfl (tx.g_word).g (tx.g_word).kp pass0 (pa_cons (pv 6) (pa_cons (pv 5) (pa_cons (pv 3) pa_nil))))))) pss_nil)))
        (pss_one (ps_expr (pe_appendK K (pv 2) (pa_cons (pv 7) pa_nil)))))))))
        (pss_one (ps_ret (pv 2)))))),
      body_ok (N := ["_law_box_here", "_law_many", "_law_words_here", "_law_back", "_law_turn", "_law_wide", "_law_number", "_law_word_here", "_law_again"]) (fun W ts rt xx hB ho hw hp => ?_) h⟩)
  have hK : W.B.K = K := congrArg Bs.K hB
  obtain ⟨m, rfl, hp⟩ := hp
  show Sx W _ [some (T Bx.mk), some (T m), none, none, none, none, none, none, none] _
  obtain ⟨h1, h2, hp⟩ := hp
  refine sx_own fun F => ?_
  refine sxm_seq (sxm_new (β := Str) (rβ := inferInstance) fun Wo hW => evF_lst (el_nil (α := Str) (rα := inferInstance) ⟨by decide, fun p vs => ?_⟩))
  show SxM W F _ [(p, vs)] [some (T Bx.mk), some (T m), some (T (Ol.mk p vs ([] : List Str))), none, none, none, none, none, none] _
  refine sxm_seq (sxm_pure fun Wo hW => ?_)
  have hBo : Wo.B = bs K A := hW.B.trans hB
  have hKo : Wo.B.K = K := congrArg Bs.K hBo
  walk_at "g"
  refine pc_take ⟨by decide, by decide, fun bk b0 b1 => ⟨_, rfl, ?_⟩⟩
  walk_at "g"
  generalize decide (bk = 1) = back
  show SxM W F _ [(p, vs)] [some (T Bx.mk), some (T m), some (T (Ol.mk p vs ([] : List Str))), some (T back), none, none, none, none, none] _
  refine sxm_seq (sxm_forR fun Wo2 hW2 => ?_)
  walk_at "g"
  refine ⟨by omega, fun i L' Γ' => ∃ (vs' : List V) (as : List Str) (o4 o5 o6 o7 o8 : Option Ty), L' = [(p, vs')] ∧ as.length = i ∧ as.Nodup ∧ (∀ w ∈ as, GoodW w) ∧ Γ' = [some (T Bx.mk), some (T m), some (T (Ol.mk p vs' as)), some (T back), o4, o5, o6, o7, o8], ⟨vs, [], none, none, none, none, none, rfl, rfl, List.nodup_nil, fun _ h => (nomatch h), rfl⟩, ?_, ?_⟩
  · rintro i L' Γ' hi ⟨vs', as, o4, o5, o6, o7, o8, rfl, al, an, ag, rfl⟩ Wo' hW'
    have hi' : i < m.toNat := hi
    apply tg_of
    walk_at "g"
    show SxM W F _ [(p, vs')] [some (T Bx.mk), some (T m), some (T (Ol.mk p vs' as)), some (T back), some (T (i : Int)), o5, o6, o7, o8] _
    refine sxm_seq (sxm_pure fun Wo3 hW3 => ?_)
    have hB3 : Wo3.B = bs K A := hW3.B.trans hB
    have hK3 : Wo3.B.K = K := congrArg Bs.K hB3
    apply sx_set
    refine ev_ixL (α := Int) (rα := inferInstance) hK3 ?_
    apply ev_lst
    walk_at "g"
    refine pc_take ⟨by decide, by decide, fun z z0 z1 => ⟨_, rfl, ?_⟩⟩
    have hw : ∃ w : Int, atI [1, 1, 2, 3, 5, 12] z = some w ∧ 1 ≤ w ∧ w ≤ 12 := by
      have : z = 0 ∨ z = 1 ∨ z = 2 ∨ z = 3 ∨ z = 4 ∨ z = 5 := by omega
      rcases this with rfl | rfl | rfl | rfl | rfl | rfl
      · exact ⟨1, rfl, by omega, by omega⟩
      · exact ⟨1, rfl, by omega, by omega⟩
      · exact ⟨2, rfl, by omega, by omega⟩
      · exact ⟨3, rfl, by omega, by omega⟩
      · exact ⟨5, rfl, by omega, by omega⟩
      · exact ⟨12, rfl, by omega, by omega⟩
    obtain ⟨wd, hw, w0, w1⟩ := hw
    refine ⟨wd, hw, ?_⟩
    show SxM W F _ [(p, vs')] [some (T Bx.mk), some (T m), some (T (Ol.mk p vs' as)), some (T back), some (T (i : Int)), some (T wd), o6, o7, o8] _
    refine sxm_seq (sxm_pure fun Wo4 hW4 => ?_)
    have hB4 : Wo4.B = bs K A := hW4.B.trans hB
    have hK4 : Wo4.B.K = K := congrArg Bs.K hB4
    walk_at "g"
    refine pc_take ⟨by decide, by decide, fun n n0 n1 => ⟨_, rfl, ?_⟩⟩
    show SxM W F _ [(p, vs')] [some (T Bx.mk), some (T m), some (T (Ol.mk p vs' as)), some (T back), some (T (i : Int)), some (T wd), some (T n), o7, o8] _
    refine sxm_seq (sxm_pure fun Wo5 hW5 => ?_)
    have hB5 : Wo5.B = bs K A := hW5.B.trans hB
    have hK5 : Wo5.B.K = K := congrArg Bs.K hB5
    walk_at "g"
    refine pc_word ⟨by omega, by omega, by omega, by omega, _, rfl, ?_⟩
    obtain ⟨k, rfl⟩ : ∃ k : Nat, wd = k := ⟨wd.toNat, by omega⟩
    rw [Int.toNat_natCast]
    show SxM W F _ [(p, vs')] [some (T Bx.mk), some (T m), some (T (Ol.mk p vs' as)), some (T back), some (T (i : Int)), some (T (k : Int)), some (T n), some (T (wordS n k back)), o8] _
    refine sxm_seq (sxm_forR fun Wo6 hW6 => ?_)
    walk_at "g"
    refine ⟨by omega, fun j L' Γ' => ∃ (q : Nat) (o8 : Option Ty), L' = [(p, vs')] ∧ q ≤ j ∧ ((q = j ∧ ∀ t : Nat, t < q → wordS (n + (t : Int)) k back ∈ as ++ barS) ∨ wordS (n + (q : Int)) k back ∉ as ++ barS) ∧ Γ' = [some (T Bx.mk), some (T m), some (T (Ol.mk p vs' as)), some (T back), some (T (i : Int)), some (T (k : Int)), some (T (n + (q : Int))), some (T (wordS (n + (q : Int)) k back)), o8], ⟨0, o8, rfl, Nat.le_refl _, .inl ⟨rfl, fun t ht => absurd ht (Nat.not_lt_zero _)⟩, ?_⟩, ?_, ?_⟩
    · show _ = [some (T Bx.mk), some (T m), some (T (Ol.mk p vs' as)), some (T back), some (T (i : Int)), some (T (k : Int)), some (T (n + ((0 : Nat) : Int))), some (T (wordS (n + ((0 : Nat) : Int)) k back)), o8]
      rw [show n + ((0 : Nat) : Int) = n by omega]
    · rintro j L'' Γ'' hj ⟨q, o8', rfl, hqj, hq, rfl⟩ Wo7 hW7
      have hj' : j < 20 := hj
      apply tg_of
      walk_at "g"
      show SxM W F _ [(p, vs')] [some (T Bx.mk), some (T m), some (T (Ol.mk p vs' as)), some (T back), some (T (i : Int)), some (T (k : Int)), some (T (n + (q : Int))), some (T (wordS (n + (q : Int)) k back)), some (T (j : Int))] _
      refine sxm_ifB (Γ' := [some (T Bx.mk), some (T m), some (T as), some (T back), some (T (i : Int)), some (T (k : Int)), some (T (n + (q : Int))), some (T (wordS (n + (q : Int)) k back)), some (T (j : Int))]) (by walk_at "frz") ?_
      apply et_or
      apply et_test
      refine ev_inS hK ?_
      walk_at "g"
      refine ⟨fun hi1 => ⟨fun _ => ?_, fun h => (nomatch h)⟩, fun hi1 => ?_⟩
      · have hin : wordS (n + (q : Int)) k back ∈ as ++ barS := List.mem_append_left _ (of_decide_eq_true hi1)
        have hq2 : q = j ∧ ∀ t : Nat, t < q → wordS (n + (t : Int)) k back ∈ as ++ barS := by
          rcases hq with h' | h'
          · exact h'
          · exact absurd hin h'
        obtain ⟨rfl, hall⟩ := hq2
        refine sxm_seq (sxm_pure fun Wo8 hW8 => ?_)
        have hB8 : Wo8.B = bs K A := hW8.B.trans hB
        have hK8 : Wo8.B.K = K := congrArg Bs.K hB8
        walk_at "g"
        show SxM W F _ [(p, vs')] [some (T Bx.mk), some (T m), some (T (Ol.mk p vs' as)), some (T back), some (T (i : Int)), some (T (k : Int)), some (T (n + (q : Int) + 1)), some (T (wordS (n + (q : Int)) k back)), some (T (q : Int))] _
        refine sxm_pure fun Wo9 hW9 => ?_
        have hB9 : Wo9.B = bs K A := hW9.B.trans hB
        have hK9 : Wo9.B.K = K := congrArg Bs.K hB9
        walk_at "g"
        refine pc_word ⟨by omega, by omega, by omega, by omega, _, rfl, ?_⟩
        rw [Int.toNat_natCast]
        refine ⟨q + 1, some (T (q : Int)), rfl, Nat.le_refl _, .inl ⟨rfl, fun t ht => ?_⟩, ?_⟩
        · by_cases e : t < q
          · exact hall t e
          · have e2 : t = q := by omega
            rw [e2]
            exact hin
        · rw [show n + ((q + 1 : Nat) : Int) = n + (q : Int) + 1 by omega]
          rfl
      · apply et_test
        refine ev_inS hK ?_
        walk_at "g0"
        apply ev_lst
        walk_at "g"
        refine ⟨fun hi2 => ?_, fun hi2 => ?_⟩
        · have hin : wordS (n + (q : Int)) k back ∈ as ++ barS := List.mem_append_right _ (of_decide_eq_true hi2)
          have hq2 : q = j ∧ ∀ t : Nat, t < q → wordS (n + (t : Int)) k back ∈ as ++ barS := by
            rcases hq with h' | h'
            · exact h'
            · exact absurd hin h'
          obtain ⟨rfl, hall⟩ := hq2
          refine sxm_seq (sxm_pure fun Wo8 hW8 => ?_)
          have hB8 : Wo8.B = bs K A := hW8.B.trans hB
          have hK8 : Wo8.B.K = K := congrArg Bs.K hB8
          walk_at "g"
          show SxM W F _ [(p, vs')] [some (T Bx.mk), some (T m), some (T (Ol.mk p vs' as)), some (T back), some (T (i : Int)), some (T (k : Int)), some (T (n + (q : Int) + 1)), some (T (wordS (n + (q : Int)) k back)), some (T (q : Int))] _
          refine sxm_pure fun Wo9 hW9 => ?_
          have hB9 : Wo9.B = bs K A := hW9.B.trans hB
          have hK9 : Wo9.B.K = K := congrArg Bs.K hB9
          walk_at "g"
          refine pc_word ⟨by omega, by omega, by omega, by omega, _, rfl, ?_⟩
          rw [Int.toNat_natCast]
          refine ⟨q + 1, some (T (q : Int)), rfl, Nat.le_refl _, .inl ⟨rfl, fun t ht => ?_⟩, ?_⟩
          · by_cases e : t < q
            · exact hall t e
            · have e2 : t = q := by omega
              rw [e2]
              exact hin
          · rw [show n + ((q + 1 : Nat) : Int) = n + (q : Int) + 1 by omega]
            rfl
        · refine sxm_next ⟨q, _, rfl, by omega, .inr fun hm => ?_, rfl⟩
          rcases List.mem_append.mp hm with hm | hm
          · exact (of_decide_eq_false hi1) hm
          · exact (of_decide_eq_false hi2) hm
    · rintro L'' Γ'' ⟨q, o8', rfl, hqj, hq, rfl⟩
      have hno : wordS (n + (q : Int)) k back ∉ as ++ barS := by
        rcases hq with ⟨hq, hall⟩ | hq
        · have hq : q = 20 := hq
          subst hq
          exact (words_free (by omega) (by rw [List.length_append]; show as.length + 4 < 20; omega) hall).elim
        · exact hq
      have hna : wordS (n + (q : Int)) k back ∉ as := fun h => hno (List.mem_append_left _ h)
      have hnb : wordS (n + (q : Int)) k back ∉ barS := fun h => hno (List.mem_append_right _ h)
      refine sxm_append (α := Str) (rα := inferInstance) 0 rfl rfl fun Wo8 hW8 => ?_
      walk_at "g"
      refine fun v => ⟨_, _, _, _, _, _, _, rfl, ?_, ?_, ?_, rfl⟩
      · rw [List.length_append, al]
        rfl
      · refine List.nodup_append.mpr ⟨an, by simp, fun a ha b hb e => ?_⟩
        rw [List.mem_singleton.mp hb] at e
        exact hna (e ▸ ha)
      · intro w hw
        rcases List.mem_append.mp hw with hw | hw
        · exact ag w hw
        · rw [List.mem_singleton.mp hw]
          exact ⟨by rw [wordS_len]; omega, by rw [wordS_len]; omega, wordS_az, hnb⟩
  · rintro L' Γ' ⟨vs', as, o4, o5, o6, o7, o8, rfl, al, an, ag, rfl⟩
    refine sxm_freeze (Γ' := [some (T Bx.mk), some (T m), some (T as), some (T back), o4, o5, o6, o7, o8]) (by walk_at "frz") ?_
    refine sxm_pure fun Wf hWf => ?_
    walk_at "g"
    exact hp as (by omega) an ag
def P_m_is_gauge_name : PT := fun rt xx ts => ∃ (w : Str), ts = [T w] ∧ (w.length ≤ 100000 ∧ rt (T (gnB w)))
theorem pc_m_is_gauge_name {rt : Ty → Prop} {xx : Xn → Prop} {w : Str} (h : w.length ≤ 100000 ∧ rt (T (gnB w))) : P_m_is_gauge_name rt xx [T w] := ⟨_, rfl, h⟩
theorem ok_m_is_gauge_name (tx : Txt K mg A) : FnR P w K mg base CX0 1 A.f_m_is_gauge_name (spG (bs K A) P_m_is_gauge_name) := by
  refine fnR_of tx.g_m_is_gauge_name.d sc_m_is_gauge_name (len_ok (n := 1) fun rt xx ts hp => by obtain ⟨_, rfl, _⟩ := hp; rfl) (fun cdv Ar outer s H vs Q E hr h => ⟨_, (pss_cons (ps_if (PW.pt (pw_or (pt_not (pt_val (pe_callB (call_isiKK K) (by rfl) tx.z_isinstance (by decide +kernel) (pa_cons (pv 0) (pa_cons (pe_bltn (by rfl) tx.z_str (by decide +kernel) (show RelV (.ty "str") _ from rfl)) pa_nil))))) (pw_or1 (pt_cmpR (op_inSeqK K) (pv 0) (pe_globE tx.kg_BARRED) rfl)))) (pss_one (ps_ret pe_bl)) pss_nil)
        (pss_one (ps_ret (pe_and (pe_chain op_le op_le pe_int (pe_callB call_len_str (by rfl) tx.z_len PySem.boot_len (pa_cons (pv 0) pa_nil)) (pe_cvalK K (pe_globE tx.gc_Gauge))) (pe_one (pe_callB (cr_all rfl) (by rfl) tx.z_all (by decide +kernel) (pa_cons (pe_lc (own := [("sign", 1)]) rfl sc_m_is_gauge_name.nd (pi_str (pv 0)) (blkOk_by (N := ["name", "sign"]) (sc := defScope s_m_is_gauge_name) (by decide +kernel)) (fun _ _ _ _ _ => (pg_name (i := 1) sc_m_is_gauge_name.nd rfl (Or.inl rfl))) (fun _ _ _ _ _ => pts_nil) (fun _ _ _ _ _ => (pe_cmpR op_in_sign (pv 1) (pe_globE tx.kg_LETTERS) rfl))) pa_nil))))))),
      body_ok (N := ["name", "sign"]) (fun W ts rt xx hB ho hw hp => ?_) h⟩)
  have hK : W.B.K = K := congrArg Bs.K hB
  obtain ⟨w, rfl, hp⟩ := hp
  show Sx W _ [some (T w), none] _
  obtain ⟨hl, hp⟩ := hp
  walk_at "g"
  refine ev_isi (b := true) hK (inferInstance : PyTy Str "str") (kit_ty (by decide +kernel)) ?_
  walk_at "g"
  refine ⟨fun h => (nomatch h), fun _ => ?_⟩
  apply et_test
  refine ev_inCst tx.kt_BARRED ?_
  walk_at "g"
  unfold gnB at hp
  rw [show decide (w ∈ barS) = decide (w ∈ [Str.ofString "rank", Str.ofString "trim", Str.ofString "weigh", Str.ofString "together"]) from rfl] at hp
  refine ⟨fun hb => ?_, fun hb => ?_⟩
  · rw [hb] at hp
    walk_at "g"
    exact hp
  · rw [hb] at hp
    refine sx_next ?_
    apply sx_ret
    apply ev_andV
    apply ev_chainP
    walk_at "g0"
    refine ev_lenS ?_
    walk_at "g0"
    refine ⟨hl, ?_⟩
    obtain ⟨u, hcv⟩ := tx.kc_Gauge_LONGEST
    refine chg_in (l := 12) (ev_cvalI tx.r_Gauge hcv rfl) ?_
    refine ⟨fun h1 => ?_, fun h1 => ?_⟩
    · rw [h1] at hp
      apply ev_all hK
      refine ev_lcSF (fun c => decide (c ∈ (Str.ofString "abcdefghijklmnopqrstuvwxyz").cps.toList)) ?_
      walk_at "g0"
      refine ⟨hl, fun W' sb c hc => ⟨[1], rfl, ?_⟩, hp⟩
      apply tj_name
      walk_at "g"
      refine ⟨fun _ => ?_, fun h => (nomatch h)⟩
      refine ev_inSign ?_
      walk_at "g"
      refine ⟨c, rfl, ?_⟩
      walk_at "g"
      rfl
    · rw [h1] at hp
      exact hp
theorem ok_Gauge_init (tx : Txt K mg A) : FnR P w K mg base CX0 2 A.f_Gauge_init (spGI (bs K A)) := by
  have G_m_is_gauge_name := ok_m_is_gauge_name (P := P) (w := w) (base := base) tx
  refine fnR_of tx.d_Gauge_init sc_Gauge_init (fun vs H Q E h => ?_) (fun cdv Ar outer s H vs Q E hr h => ?_)
  · obtain ⟨W, p, dx, fs, kd, nm, rd, rfl, _⟩ := h; rfl
  · refine ⟨_, (pss_cons (ps_if (PW.pt (pw_or (pt_not (pt_val (pe_callR G_m_is_gauge_name (room hr) rfl (tx.g_m_is_gauge_name).g (tx.g_m_is_gauge_name).kp pass0 (pa_cons (pv 1) pa_nil)))) (pw_or1 (pt_cmpR op_lt (pv 2) pe_int (nomark _))))) (pss_one ps_never) pss_nil)
        (pss_cons (ps_fld (pv 0) (pv 1) rfl)
        (pss_one (ps_fld (pv 0) (pv 2) rfl)))), ?_⟩
    try dsimp only [cxOf, Cx.nox]
    obtain ⟨W, p, dx, fs, kd, nm, rd, rfl, hp, hB, ho, hm, hl, hg, hn, hr0, hT, k⟩ := h
    refine ⟨_, rfl, W, [T nm], fun t => t = T true, fun _ => False, hB, ho, .cons (t := T nm) rfl .nil, pc_m_is_gauge_name ⟨hn, by rw [hg]⟩, fun v H' t e dt et => ?_, fun n d2 H2 _ _ z => z.elim⟩
    subst et
    have dt' : v = V.bl true := dt
    subst dt'
    refine ⟨true, rfl, ?_⟩
    refine itF rfl ?_
    refine ⟨_, rfl, rd, 0, rfl, rfl, _, rfl, ?_⟩
    refine itF (decide_eq_false (by omega)) ?_
    refine ⟨_, rfl, _, rfl, p, (bs K A).cl kd.cn, dx, fs, rfl, e.keep _ _ hm hp, hT.cl kd, hT.nname kd, by omega, ?_⟩
    refine ⟨_, rfl, _, rfl, p, (bs K A).cl kd.cn, dx, _, rfl, upd_same, hT.cl kd, hT.nradius kd, by have := putF_le "name" (V.str nm) fs; omega, ?_⟩
    exact k H' e
theorem ok_CoarseGauge_init (tx : Txt K mg A) : ∃ fd, FnOk P w K mg base CX0 4 A.f_CoarseGauge_init fd ["self", "name", "radius", "step"] (spCI (bs K A)) ∧ KBn K fd ["self", "name", "radius", "step"] 3 ["step"] (fun us ws => us ++ ws) (fun vs zs => vs ++ zs) := by
  have G_Gauge_init := ok_Gauge_init (P := P) (w := w) (base := base) tx
  obtain ⟨fd, F, kb⟩ := tx.dk_CoarseGauge_init.ex
  refine ⟨fd, F.ok sc_CoarseGauge_init (fun vs H Q E h => ?_) (fun cdv Ar outer s H vs Q E hr h => ?_), kb⟩
  · obtain ⟨W, p, dx, fs, kd, nm, rd, st, rfl, _⟩ := h; rfl
  · refine ⟨_, (pss_cons (ps_expr (pe_cinit (E := fun _ => E0) tx.cli_Gauge G_Gauge_init (room hr) passS0 tx.c_Gauge (pa_cons (pv 0) (pa_cons (pv 1) (pa_cons (pv 2) pa_nil)))))
        (pss_cons (ps_if (pt_cmpR op_lt (pv 3) pe_int (nomark _)) (pss_one ps_never) pss_nil)
        (pss_one (ps_fld (pv 0) (pv 3) rfl)))), ?_⟩
    try dsimp only [cxOf, Cx.nox]
    obtain ⟨W, p, dx, fs, kd, nm, rd, st, rfl, hp, hB, ho, hm, hl, hg, hn, hr0, hs0, hT, k⟩ := h
    refine ⟨_, rfl, _, rfl, _, rfl, W, p, dx, fs, kd, nm, rd, rfl, hp, hB, ho, hm, by omega, hg, hn, hr0, hT, fun H' e => ?_⟩
    refine ⟨_, rfl, st, 1, rfl, rfl, _, rfl, ?_⟩
    refine itF (decide_eq_false (by omega)) ?_
    refine ⟨_, rfl, _, rfl, p, (bs K A).cl kd.cn, dx, _, rfl, upd_same, hT.cl kd, hT.nstep kd, by have h1 := putF_le "name" (V.str nm) fs; have h2 := putF_le "radius" (V.int rd) (putF "name" (V.str nm) fs); omega, ?_⟩
    exact k H' e
theorem ok_LateGauge_init (tx : Txt K mg A) : ∃ fd, FnOk P w K mg base CX0 4 A.f_LateGauge_init fd ["self", "name", "radius", "late", "pace"] (spTI (bs K A)) ∧ KBn K fd ["self", "name", "radius", "late", "pace"] 3 ["late", "pace"] (fun us ws => us ++ ws) (fun vs zs => vs ++ zs) := by
  have G_Gauge_init := ok_Gauge_init (P := P) (w := w) (base := base) tx
  obtain ⟨fd, F, kb⟩ := tx.dk_LateGauge_init.ex
  refine ⟨fd, F.ok sc_LateGauge_init (fun vs H Q E h => ?_) (fun cdv Ar outer s H vs Q E hr h => ?_), kb⟩
  · obtain ⟨W, p, dx, fs, kd, nm, rd, lt, pc, rfl, _⟩ := h; rfl
  · refine ⟨_, (pss_cons (ps_expr (pe_cinit (E := fun _ => E0) tx.cli_Gauge G_Gauge_init (room hr) passS0 tx.c_Gauge (pa_cons (pv 0) (pa_cons (pv 1) (pa_cons (pv 2) pa_nil)))))
        (pss_cons (ps_if (PW.pt (pw_or (pt_cmpR op_lt (pv 3) pe_int (nomark _)) (pw_or1 (pt_cmpR op_lt (pv 4) pe_int (nomark _))))) (pss_one ps_never) pss_nil)
        (pss_cons (ps_fld (pv 0) (pv 3) rfl)
        (pss_one (ps_fld (pv 0) (pv 4) rfl))))), ?_⟩
    try dsimp only [cxOf, Cx.nox]
    obtain ⟨W, p, dx, fs, kd, nm, rd, lt, pc, rfl, hp, hB, ho, hm, hl, hg, hn, hr0, hs0, hs1, hT, k⟩ := h
    refine ⟨_, rfl, _, rfl, _, rfl, W, p, dx, fs, kd, nm, rd, rfl, hp, hB, ho, hm, by omega, hg, hn, hr0, hT, fun H' e => ?_⟩
    refine ⟨_, rfl, lt, 0, rfl, rfl, _, rfl, ?_⟩
    refine itF (decide_eq_false (by omega)) ?_
    refine ⟨_, rfl, pc, 0, rfl, rfl, _, rfl, ?_⟩
    refine itF (decide_eq_false (by omega)) ?_
    have h1 := putF_le "name" (V.str nm) fs
    have h2 := putF_le "radius" (V.int rd) (putF "name" (V.str nm) fs)
    have h3 := putF_le "late" (V.int lt) (putF "radius" (V.int rd) (putF "name" (V.str nm) fs))
    refine ⟨_, rfl, _, rfl, p, (bs K A).cl kd.cn, dx, _, rfl, upd_same, hT.cl kd, hT.nlate kd, by omega, ?_⟩
    refine ⟨_, rfl, _, rfl, p, (bs K A).cl kd.cn, dx, _, rfl, upd_same, hT.cl kd, hT.npace kd, by omega, ?_⟩
    exact k H' e
theorem ok_LateCoarseGauge_init (tx : Txt K mg A) : ∃ fd, FnOk P w K mg base CX0 6 A.f_LateCoarseGauge_init fd ["self", "name", "radius", "step", "late", "pace"] (spQI (bs K A)) ∧ KBn K fd ["self", "name", "radius", "step", "late", "pace"] 3 ["step", "late", "pace"] (fun us ws => us ++ ws) (fun vs zs => vs ++ zs) ∧ KBn K fd ["self", "name", "radius", "step", "late", "pace"] 3 ["pace", "step", "late"] (fun us ws => us ++ rot3 ws) (fun vs zs => vs ++ rot3 zs) := by
  obtain ⟨fd_LateGauge_init, G_LateGauge_init, kb_LateGauge_init⟩ := ok_LateGauge_init (P := P) (w := w) (base := base) tx
  obtain ⟨fd_CoarseGauge_init, G_CoarseGauge_init, kb_CoarseGauge_init⟩ := ok_CoarseGauge_init (P := P) (w := w) (base := base) tx
  obtain ⟨fd, F, kb, kbr⟩ := tx.dk_LateCoarseGauge_init.ex
  refine ⟨fd, F.ok sc_LateCoarseGauge_init (fun vs H Q E h => ?_) (fun cdv Ar outer s H vs Q E hr h => ?_), kb, kbr⟩
  · obtain ⟨W, p, dx, nm, rd, st, lt, pc, rfl, _⟩ := h; rfl
  · refine ⟨_, (pss_cons (ps_expr (pe_cinitK tx.cli_LateGauge G_LateGauge_init (room hr) kb_LateGauge_init pass0 tx.c_LateGauge (pa_cons (pv 0) (pa_cons (pv 1) (pa_cons (pv 2) pa_nil))) (pk_cons (pv 4) (pk_cons (pv 5) pk_nil))))
        (pss_one (ps_expr (pe_cinitK tx.cli_CoarseGauge G_CoarseGauge_init (room hr) kb_CoarseGauge_init pass0 tx.c_CoarseGauge (pa_cons (pv 0) (pa_cons (pv 1) (pa_cons (pv 2) pa_nil))) (pk_cons (pv 3) pk_nil))))), ?_⟩
    try dsimp only [cxOf, Cx.nox]
    obtain ⟨W, p, dx, nm, rd, st, lt, pc, rfl, hp, hB, ho, hm, hg, hn, hr0, hs, hl0, hp0, hT, k⟩ := h
    refine ⟨_, rfl, _, rfl, _, rfl, _, rfl, _, rfl, rfl, rfl, W, p, dx, [], .lc, nm, rd, lt, pc, rfl, hp, hB, ho, hm, by decide, hg, hn, hr0, hl0, hp0, hT, fun H' e => ?_⟩
    refine ⟨_, rfl, _, rfl, _, rfl, _, rfl, rfl, rfl, W, p, dx, _, .lc, nm, rd, st, rfl, upd_same, hB, W.st _ _ _ (W.st _ _ _ (W.st _ _ _ (W.st _ _ _ e.ok hm) hm) hm) hm, hm, ?_, hg, hn, hr0, hs, hT, fun H2 e2 => ?_⟩
    · have h1 := putF_le "name" (V.str nm) []
      have h2 := putF_le "radius" (V.int rd) (putF "name" (V.str nm) [])
      have h3 := putF_le "late" (V.int lt) (putF "radius" (V.int rd) (putF "name" (V.str nm) []))
      have h4 := putF_le "pace" (V.int pc) (putF "late" (V.int lt) (putF "radius" (V.int rd) (putF "name" (V.str nm) [])))
      have h0 : ([] : List (Str × V)).length = 0 := rfl
      omega
    refine k _ (fun a o mb hne h => ?_) (W.st _ _ _ (W.st _ _ _ (W.st _ _ _ e2.ok hm) hm) hm) (by rw [upd_same, gauF_lc]; rfl)
    rw [upd_ne hne, upd_ne hne, upd_ne hne]
    refine e2.keep a o mb ?_
    rw [upd_ne hne, upd_ne hne, upd_ne hne, upd_ne hne]
    exact e.keep a o mb h
def P_specs : PT := fun rt xx ts => ∃ (ws : List Str), ts = [T Bx.mk, T ws] ∧ (ws.length ≤ 100 ∧ (∀ w ∈ ws, GoodW w) ∧ ∀ ss : List Spc, ss.map (·.nm) = ws → (∀ s ∈ ss, SpcOk s) → rt (T ss))
theorem pc_specs {rt : Ty → Prop} {xx : Xn → Prop} {ws : List Str} (h : ws.length ≤ 100 ∧ (∀ w ∈ ws, GoodW w) ∧ ∀ ss : List Spc, ss.map (·.nm) = ws → (∀ s ∈ ss, SpcOk s) → rt (T ss)) : P_specs rt xx [T Bx.mk, T ws] := ⟨_, rfl, h⟩
theorem ok_specs (tx : Txt K mg A) : FnR P w K mg base CX0 2 A.f_specs (spG (bs K A) P_specs) := by
  have G_take := ok_take (P := P) (w := w) (base := base) tx
  refine fnR_of tx.g_specs.d sc_specs (len_ok (n := 2) fun rt xx ts hp => by obtain ⟨_, rfl, _⟩ := hp; rfl) (fun cdv Ar outer s H vs Q E hr h => ⟨_, (pss_cons (ps_set (i := 2) sc_specs.nd rfl (Or.inl rfl) (pe_ix (ix_listK K) (pe_lst (pa_cons pe_int (pa_cons pe_int (pa_cons pe_int (pa_cons (pe_op op_pow pe_int pe_int) pa_nil))))) (pe_callR G_take (room hr) rfl (tx.g_take).g (tx.g_take).kp pass0 (pa_cons (pv 0) (pa_cons pe_int pa_nil))) (fun _ _ => rfl)))
        (pss_cons (ps_set (i := 3) sc_specs.nd rfl (Or.inl rfl) (pe_ix (ix_listK K) (pe_lst (pa_cons pe_int (pa_cons pe_int (pa_cons pe_int pa_nil)))) (pe_callR G_take (room hr) rfl (tx.g_take).g (tx.g_take).kp pass0 (pa_cons (pv 0) (pa_cons pe_int pa_nil))) (fun _ _ => rfl)))
        (pss_cons (ps_set (i := 4) sc_specs.nd rfl (Or.inl rfl) (pe_lst pa_nil))
        (pss_cons (ps_for PassesOwn.never rfl (pi_listK K (pv 1)) (pg_name (i := 5) sc_specs.nd rfl (Or.inl rfl)) (pss_cons (ps_set (i := 6) sc_specs.nd rfl (Or.inl rfl) (pe_ix (ix_listK K) (pe_lst (pa_cons pe_int (pa_cons pe_int (pa_cons pe_int (pa_cons pe_int (pa_cons pe_int pa_nil)))))) (pe_callR G_take (room hr) rfl (tx.g_take).g (tx.g_take).kp pass0 (pa_cons (pv 0) (pa_cons pe_int pa_nil))) (fun _ _ => rfl)))
        (pss_cons (ps_set (i := 7) sc_specs.nd rfl (Or.inl rfl) (pe_op op_add pe_int (pe_op op_mul (pv 2) (pe_callR G_take (room hr) rfl (tx.g_take).g (tx.g_take).kp pass0 (pa_cons (pv 0) (pa_cons (pv 3) pa_nil))))))
        (pss_cons (ps_set (i := 8) sc_specs.nd rfl (Or.inl rfl) (pe_op op_mul (pv 2) (pe_callR G_take (room hr) rfl (tx.g_take).g (tx.g_take).kp pass0 (pa_cons (pv 0) (pa_cons (pv 3) pa_nil)))))
        (pss_one (ps_expr (pe_appendK K (pv 4) (pa_cons (pe_tup (pa_cons (pv 5) (pa_cons (pv 6) (pa_cons (pe_op op_mul (pv 2) (pe_callR G_take (room hr) rfl (tx.g_take).g (tx.g_take).kp pass0 (pa_cons (pv 0) (pa_cons (pv 3) pa_nil)))) (pa_cons (pv 7) (pa_cons (pe_callR G_take (room hr) rfl (tx.g_take).g (tx.g_take).kp pass0 (pa_cons (pv 0) (pa_cons pe_int pa_nil))) (pa_cons (pv 8) pa_nil))))))) pa_nil))))))))
        (pss_one (ps_ret (pv 4))))))),
      body_ok (N := ["_law_box_here", "_law_words_here", "_law_unit", "_law_wide", "_law_specs_here", "_law_word_here", "_law_sort", "_law_grain", "_law_drift"]) (fun W ts rt xx hB ho hw hp => ?_) h⟩)
  have hK : W.B.K = K := congrArg Bs.K hB
  obtain ⟨ws, rfl, hp⟩ := hp
  show Sx W _ [some (T Bx.mk), some (T ws), none, none, none, none, none, none, none] _
  obtain ⟨hl, hg, hp⟩ := hp
  walk_at "g"
  refine pc_take ⟨by decide, by decide, fun k h0 h1 => ⟨_, rfl, ?_⟩⟩
  have hw : ∃ w : Int, atI [1, 1, 1, 1000000] k = some w ∧ 1 ≤ w ∧ w ≤ 1000000 := by
    have : k = 0 ∨ k = 1 ∨ k = 2 ∨ k = 3 := by omega
    rcases this with rfl | rfl | rfl | rfl
    · exact ⟨1, rfl, by omega, by omega⟩
    · exact ⟨1, rfl, by omega, by omega⟩
    · exact ⟨1, rfl, by omega, by omega⟩
    · exact ⟨1000000, rfl, by omega, by omega⟩
  obtain ⟨u, hw, u0, u1⟩ := hw
  refine ⟨u, hw, ?_⟩
  walk_at "g"
  refine pc_take ⟨by decide, by decide, fun k2 h2 h3 => ⟨_, rfl, ?_⟩⟩
  have hw2 : ∃ w : Int, atI [1, 4, 30] k2 = some w ∧ 1 ≤ w ∧ w ≤ 30 := by
    have : k2 = 0 ∨ k2 = 1 ∨ k2 = 2 := by omega
    rcases this with rfl | rfl | rfl
    · exact ⟨1, rfl, by omega, by omega⟩
    · exact ⟨4, rfl, by omega, by omega⟩
    · exact ⟨30, rfl, by omega, by omega⟩
  obtain ⟨wd, hw2, w0, w1⟩ := hw2
  refine ⟨wd, hw2, ?_⟩
  show Sx W _ [some (T Bx.mk), some (T ws), some (T u), some (T wd), none, none, none, none, none] _
  refine sx_own fun F => ?_
  refine sxm_seq (sxm_new (β := Spc) (rβ := inferInstance) fun Wo hW => evF_lst (el_nil (α := Spc) (rα := inferInstance) ⟨by decide, fun p vs => ?_⟩))
  show SxM W F _ [(p, vs)] [some (T Bx.mk), some (T ws), some (T u), some (T wd), some (T (Ol.mk p vs ([] : List Spc))), none, none, none, none] _
  refine sxm_seq (sxm_forL (α := Str) (rα := inferInstance) hK fun Wo hW => ?_)
  walk_at "g"
  refine ⟨fun i L' Γ' => ∃ (vs' : List V) (as : List Spc) (o5 o6 o7 o8 : Option Ty), L' = [(p, vs')] ∧ as.map (·.nm) = ws.take i ∧ (∀ s ∈ as, SpcOk s) ∧ Γ' = [some (T Bx.mk), some (T ws), some (T u), some (T wd), some (T (Ol.mk p vs' as)), o5, o6, o7, o8], ⟨vs, [], none, none, none, none, rfl, rfl, fun _ h => (nomatch h), rfl⟩, fun i L' Γ' ⟨_, _, _, _, _, _, h, _⟩ => by rw [h]; rfl, ?_, ?_⟩
  · rintro i a L' Γ' ha ⟨vs', as, o5, o6, o7, o8, rfl, am, ao, rfl⟩ Wo' hW'
    have hgw := hg a (List.mem_of_getElem? ha)
    have hal : as.length ≤ 100 := by
      have := congrArg List.length am
      rw [List.length_map, List.length_take] at this
      omega
    apply tg_of
    walk_at "g"
    show SxM W F _ [(p, vs')] [some (T Bx.mk), some (T ws), some (T u), some (T wd), some (T (Ol.mk p vs' as)), some (T a), o6, o7, o8] _
    refine sxm_seq (sxm_pure fun Wo1 hW1 => ?_)
    have hB1 : Wo1.B = bs K A := hW1.B.trans hB
    have hK1 : Wo1.B.K = K := congrArg Bs.K hB1
    apply sx_set
    refine ev_ixL (α := Int) (rα := inferInstance) hK1 ?_
    apply ev_lst
    walk_at "g"
    refine pc_take ⟨by decide, by decide, fun z z0 z1 => ⟨_, rfl, ?_⟩⟩
    have hso : ∃ w : Int, atI [0, 0, 1, 2, 3] z = some w ∧ (w = 0 ∨ w = 1 ∨ w = 2 ∨ w = 3) := by
      have : z = 0 ∨ z = 1 ∨ z = 2 ∨ z = 3 ∨ z = 4 := by omega
      rcases this with rfl | rfl | rfl | rfl | rfl
      · exact ⟨0, rfl, by omega⟩
      · exact ⟨0, rfl, by omega⟩
      · exact ⟨1, rfl, by omega⟩
      · exact ⟨2, rfl, by omega⟩
      · exact ⟨3, rfl, by omega⟩
    obtain ⟨so, hso, hso'⟩ := hso
    refine ⟨so, hso, ?_⟩
    show SxM W F _ [(p, vs')] [some (T Bx.mk), some (T ws), some (T u), some (T wd), some (T (Ol.mk p vs' as)), some (T a), some (T so), o7, o8] _
    refine sxm_seq (sxm_pure fun Wo2 hW2 => ?_)
    have hB2 : Wo2.B = bs K A := hW2.B.trans hB
    have hK2 : Wo2.B.K = K := congrArg Bs.K hB2
    walk_at "g"
    refine pc_take ⟨by omega, by omega, fun g1 g2 g3 => ⟨_, rfl, ?_⟩⟩
    walk_at "g"
    show SxM W F _ [(p, vs')] [some (T Bx.mk), some (T ws), some (T u), some (T wd), some (T (Ol.mk p vs' as)), some (T a), some (T so), some (T (1 + u * g1)), o8] _
    refine sxm_seq (sxm_pure fun Wo3 hW3 => ?_)
    have hB3 : Wo3.B = bs K A := hW3.B.trans hB
    have hK3 : Wo3.B.K = K := congrArg Bs.K hB3
    walk_at "g"
    refine pc_take ⟨by omega, by omega, fun d1 d2 d3 => ⟨_, rfl, ?_⟩⟩
    walk_at "g"
    show SxM W F _ [(p, vs')] [some (T Bx.mk), some (T ws), some (T u), some (T wd), some (T (Ol.mk p vs' as)), some (T a), some (T so), some (T (1 + u * g1)), some (T (u * d1))] _
    refine sxm_append (α := Spc) (rα := inferInstance) 0 rfl rfl fun Wo8 hW8 => ?_
    have hB8 : Wo8.B = bs K A := hW8.B.trans hB
    have hK8 : Wo8.B.K = K := congrArg Bs.K hB8
    apply ev_tupSp
    walk_at "g"
    refine pc_take ⟨by omega, by omega, fun r1 r2 r3 => ⟨_, rfl, ?_⟩⟩
    walk_at "g"
    refine pc_take ⟨by decide, by decide, fun l1 l2 l3 => ⟨_, rfl, ?_⟩⟩
    walk_at "g"
    have b1 := mul_le2 (A := 1000000) (B := 30) (show 0 ≤ u by omega) g2 u1 (by omega)
    have b2 := mul_le2 (A := 1000000) (B := 30) (show 0 ≤ u by omega) d2 u1 (by omega)
    have b3 := mul_le2 (A := 1000000) (B := 30) (show 0 ≤ u by omega) r2 u1 (by omega)
    have c1 := mul_ge0 (show 0 ≤ u by omega) g2
    have c2 := mul_ge0 (show 0 ≤ u by omega) d2
    have c3 := mul_ge0 (show 0 ≤ u by omega) r2
    refine fun v => ⟨_, _, _, _, _, _, rfl, ?_, ?_, rfl⟩
    · rw [List.map_append, am, List.take_succ, ha]
      rfl
    · intro s hs
      rcases List.mem_append.mp hs with hs | hs
      · exact ao s hs
      · rw [List.mem_singleton.mp hs]
        exact ⟨hgw, hso', ⟨c3, by show u * r1 ≤ _; omega⟩, ⟨by show 1 ≤ 1 + u * g1; omega, by show 1 + u * g1 ≤ _; omega⟩, ⟨l2, by show l1 ≤ 1000; omega⟩, ⟨c2, by show u * d1 ≤ _; omega⟩⟩
  · rintro L' Γ' ⟨vs', as, o5, o6, o7, o8, rfl, am, ao, rfl⟩
    rw [List.take_length] at am
    refine sxm_freeze (Γ' := [some (T Bx.mk), some (T ws), some (T u), some (T wd), some (T as), o5, o6, o7, o8]) (by walk_at "frz") ?_
    refine sxm_pure fun Wf hWf => ?_
    walk_at "g"
    exact hp as am ao
def P_gauge : PT := fun rt xx ts => ∃ (s : Spc), ts = [T s] ∧ (SpcOk s ∧ rt (T (gauS s)))
theorem pc_gauge {rt : Ty → Prop} {xx : Xn → Prop} {s : Spc} (h : SpcOk s ∧ rt (T (gauS s))) : P_gauge rt xx [T s] := ⟨_, rfl, h⟩
theorem ok_gauge (tx : Txt K mg A) : FnR P w K mg base CX0 8 A.f_gauge (spG (bs K A) P_gauge) := by
  obtain ⟨fd_CoarseGauge_init, G_CoarseGauge_init, kb_CoarseGauge_init⟩ := ok_CoarseGauge_init (P := P) (w := w) (base := base) tx
  obtain ⟨fd_LateGauge_init, G_LateGauge_init, kb_LateGauge_init⟩ := ok_LateGauge_init (P := P) (w := w) (base := base) tx
  obtain ⟨fd_LateCoarseGauge_init, G_LateCoarseGauge_init, kb_LateCoarseGauge_init, kbr_LateCoarseGauge_init⟩ := ok_LateCoarseGauge_init (P := P) (w := w) (base := base) tx
  have G_Gauge_init := ok_Gauge_init (P := P) (w := w) (base := base) tx
  refine fnR_of tx.g_gauge.d sc_gauge (len_ok (n := 1) fun rt xx ts hp => by obtain ⟨_, rfl, _⟩ := hp; rfl) (fun cdv Ar outer s H vs Q E hr h => ⟨_, (pss_cons (ps_if (pt_cmpR (op_eqDK K (huD hr)) (pe_ix (ix_tupK K) (pv 0) pe_int (fun _ _ => rfl)) pe_int (nomark _)) (pss_one (ps_ret (pe_makeK (tx.m_CoarseGauge) G_CoarseGauge_init (room hr) rfl tx.c_CoarseGauge kb_CoarseGauge_init pass0 (pa_cons (pe_ix (ix_tupK K) (pv 0) pe_int (fun _ _ => rfl)) (pa_cons (pe_ix (ix_tupK K) (pv 0) pe_int (fun _ _ => rfl)) pa_nil)) (pk_cons (pe_ix (ix_tupK K) (pv 0) pe_int (fun _ _ => rfl)) pk_nil)))) pss_nil)
        (pss_cons (ps_if (pt_cmpR (op_eqDK K (huD hr)) (pe_ix (ix_tupK K) (pv 0) pe_int (fun _ _ => rfl)) pe_int (nomark _)) (pss_one (ps_ret (pe_makeK (tx.m_LateGauge) G_LateGauge_init (room hr) rfl tx.c_LateGauge kb_LateGauge_init pass0 (pa_cons (pe_ix (ix_tupK K) (pv 0) pe_int (fun _ _ => rfl)) (pa_cons (pe_ix (ix_tupK K) (pv 0) pe_int (fun _ _ => rfl)) pa_nil)) (pk_cons (pe_ix (ix_tupK K) (pv 0) pe_int (fun _ _ => rfl)) (pk_cons (pe_ix (ix_tupK K) (pv 0) pe_int (fun _ _ => rfl)) pk_nil))))) pss_nil)
        (pss_cons (ps_if (pt_cmpR (op_eqDK K (huD hr)) (pe_ix (ix_tupK K) (pv 0) pe_int (fun _ _ => rfl)) pe_int (nomark _)) (pss_one (ps_ret (pe_makeK (tx.m_LateCoarseGauge) G_LateCoarseGauge_init (room hr) rfl tx.c_LateCoarseGauge kbr_LateCoarseGauge_init pass0 (pa_cons (pe_ix (ix_tupK K) (pv 0) pe_int (fun _ _ => rfl)) (pa_cons (pe_ix (ix_tupK K) (pv 0) pe_int (fun _ _ => rfl)) pa_nil)) (pk_cons (pe_ix (ix_tupK K) (pv 0) pe_int (fun _ _ => rfl)) (pk_cons (pe_ix (ix_tupK K) (pv 0) pe_int (fun _ _ => rfl)) (pk_cons (pe_ix (ix_tupK K) (pv 0) pe_int (fun _ _ => rfl)) pk_nil)))))) pss_nil)
        (pss_one (ps_ret (pe_makeR (tx.m_Gauge) G_Gauge_init (room hr) rfl tx.c_Gauge pass0 (pa_cons (pe_ix (ix_tupK K) (pv 0) pe_int (fun _ _ => rfl)) (pa_cons (pe_ix (ix_tupK K) (pv 0) pe_int (fun _ _ => rfl)) pa_nil)))))))),
      body_ok (N := ["_law_spec"]) (fun W ts rt xx hB ho hw hp => ?_) h⟩)
  have hK : W.B.K = K := congrArg Bs.K hB
  obtain ⟨s, rfl, hp⟩ := hp
  show Sx W _ [some (T s)] _
  obtain ⟨ok, hp⟩ := hp
  have hgn := gnB_good ok.nm
  have hl : s.nm.length ≤ 100000 := by have := ok.nm.2.1; omega
  have hG := gauT tx
  have kd : gauS s = ⟨kdS s.so, s.nm, s.rd, s.gr, s.la, s.dr⟩ := rfl
  unfold kdS at kd
  walk_at "g"
  refine ⟨fun h => ?_, fun h => ?_⟩
  · rw [kd, if_pos (of_decide_eq_true h)] at hp
    apply sx_ret
    refine ev_coarseG s.la s.dr hB rfl hG ?_
    walk_at "g"
    exact ⟨⟨hgn, hl, ok.rd.1, ok.gr.1⟩, hp⟩
  · rw [if_neg (of_decide_eq_false h)] at kd
    walk_at "g"
    refine ⟨fun h => ?_, fun h => ?_⟩
    · rw [kd, if_pos (of_decide_eq_true h)] at hp
      apply sx_ret
      refine ev_lateG s.gr hB rfl hG ?_
      walk_at "g"
      exact ⟨⟨hgn, hl, ok.rd.1, ok.la.1, ok.dr.1⟩, hp⟩
    · rw [if_neg (of_decide_eq_false h)] at kd
      walk_at "g"
      refine ⟨fun h => ?_, fun h => ?_⟩
      · rw [kd, if_pos (of_decide_eq_true h)] at hp
        apply sx_ret
        refine ev_lcG hB rfl hG ?_
        walk_at "g"
        refine ⟨_, _, rfl, ?_⟩
        walk_at "g"
        exact ⟨_, _, _, _, _, _, rfl, fun x y q => rfl, ⟨hgn, hl, ok.rd.1, ok.gr.1, ok.la.1, ok.dr.1⟩, hp⟩
      · rw [kd, if_neg (of_decide_eq_false h)] at hp
        refine sx_next ?_
        apply sx_ret
        refine ev_gauge s.gr s.la s.dr hB rfl hG ?_
        walk_at "g"
        exact ⟨⟨hgn, hl, ok.rd.1⟩, hp⟩
def P_gauges : PT := fun rt xx ts => ∃ (ss : List Spc), ts = [T ss] ∧ (ss.length ≤ 1000 ∧ (∀ s ∈ ss, SpcOk s) ∧ rt (T (ss.map gauS)))
theorem pc_gauges {rt : Ty → Prop} {xx : Xn → Prop} {ss : List Spc} (h : ss.length ≤ 1000 ∧ (∀ s ∈ ss, SpcOk s) ∧ rt (T (ss.map gauS))) : P_gauges rt xx [T ss] := ⟨_, rfl, h⟩
theorem ok_gauges (tx : Txt K mg A) : FnR P w K mg base CX0 9 A.f_gauges (spG (bs K A) P_gauges) := by
  have G_gauge := ok_gauge (P := P) (w := w) (base := base) tx
  refine fnR_of tx.g_gauges.d sc_gauges (len_ok (n := 1) fun rt xx ts hp => by obtain ⟨_, rfl, _⟩ := hp; rfl) (fun cdv Ar outer s H vs Q E hr h => ⟨_, (pss_one (ps_ret (pe_lc (own := [("_law_spec", 1)]) rfl sc_gauges.nd (pi_listK K (pv 0)) (blkOk_by (N := ["_law_specs_here", "_law_spec"]) (sc := defScope s_gauges) (by decide +kernel)) (fun _ _ _ _ _ => (pg_name (i := 1) sc_gauges.nd rfl (Or.inl rfl))) (fun _ _ _ _ _ => pts_nil) (fun _ _ _ _ _ => (pe_callR G_gauge (room hr) rfl (tx.g_gauge).g (tx.g_gauge).kp pass0 (pa_cons (pv 1) pa_nil)))))),
      body_ok (N := ["_law_specs_here", "_law_spec"]) (fun W ts rt xx hB ho hw hp => ?_) h⟩)
  have hK : W.B.K = K := congrArg Bs.K hB
  obtain ⟨ss, rfl, hp⟩ := hp
  show Sx W _ [some (T ss), none] _
  obtain ⟨hl, ho, hp⟩ := hp
  walk_at "g"
  refine ev_lcF (fun _ => true) gauS hK ?_
  walk_at "g"
  refine ⟨fun W' sb p hpm => ⟨[1], rfl, ?_⟩, ?_⟩
  · have hB' : W'.B = bs K A := sb.B.trans hB
    have hK' : W'.B.K = K := congrArg Bs.K hB'
    walk_at "g"
    refine ⟨fun _ => ?_, fun h => nomatch h⟩
    walk_at "g"
    exact pc_gauge ⟨ho p hpm, _, rfl, rfl, rfl⟩
  · rw [List.filter_eq_self.mpr fun _ _ => rfl]
    exact hp
theorem ok_DuplicateGauge_init (tx : Txt K mg A) : FnR P w K mg base CX0 1 A.f_DuplicateGauge_init (spEr A.c_DuplicateGauge (shStr "name")) := by
  refine fnR_of tx.d_DuplicateGauge_init sc_DuplicateGauge_init (fun vs H Q E h => ?_) (fun cdv Ar outer s H vs Q E hr h => ?_)
  · obtain ⟨a, as, fs, rfl, ⟨i, rfl, _⟩, _⟩ := h; rfl
  · refine ⟨_, (pss_cons (ps_expr (pe_geinitK K tx.ge (pa_cons (pv 0) (pa_cons (pe_joined (PJ.cons pe_str (PJ.cons (pe_fmtR (pv 1)) (PJ.cons pe_str PJ.nil)))) pa_nil))))
        (pss_one (ps_ostK K (pv 0) (pv 1)))), ?_⟩
    try dsimp only [cxOf, Cx.nox]
    obtain ⟨a, as, fs, rfl, ⟨i, rfl, s1, s2, rfl⟩, ha, k⟩ := h
    exact err_one tx.xo_DuplicateGauge tx.n_DuplicateGauge_name rfl rfl (first_ge tx.xo_DuplicateGauge rfl ha fun Q q => js_ok q (.cons c_is (by decide) (.cons (fmt_rep (var_is rfl) s1) s1 (.cons c_is (by decide) .nil))) (by decide)) ha k
theorem ok_UnknownGauge_init (tx : Txt K mg A) : FnR P w K mg base CX0 1 A.f_UnknownGauge_init (spEr A.c_UnknownGauge (shStr "name")) := by
  refine fnR_of tx.d_UnknownGauge_init sc_UnknownGauge_init (fun vs H Q E h => ?_) (fun cdv Ar outer s H vs Q E hr h => ?_)
  · obtain ⟨a, as, fs, rfl, ⟨i, rfl, _⟩, _⟩ := h; rfl
  · refine ⟨_, (pss_cons (ps_expr (pe_geinitK K tx.ge (pa_cons (pv 0) (pa_cons (pe_joined (PJ.cons pe_str (PJ.cons (pe_fmtR (pv 1)) PJ.nil))) pa_nil))))
        (pss_one (ps_ostK K (pv 0) (pv 1)))), ?_⟩
    try dsimp only [cxOf, Cx.nox]
    obtain ⟨a, as, fs, rfl, ⟨i, rfl, s1, s2, rfl⟩, ha, k⟩ := h
    exact err_one tx.xo_UnknownGauge tx.n_UnknownGauge_name rfl rfl (first_ge tx.xo_UnknownGauge rfl ha fun Q q => js_ok q (.cons c_is (by decide) (.cons (fmt_rep (var_is rfl) s1) s1 .nil)) (by decide)) ha k
def P_Rack_names : PF Str := fun k ts => ∃ (gs : List Gau), (ts = [T (Rp.mk gs)] ∨ ∃ fl, ts = [T (Rk.mk gs fl)]) ∧ gs.length ≤ 100 ∧ k (gs.map Gau.nm)
theorem ok_Rack_names (tx : Txt K mg A) : FnR P w K mg base CX0 1 A.f_Rack_names (spFr (bs K A) P_Rack_names) := by
  refine fnR_of tx.d_Rack_names sc_Rack_names (fun vs H Q E h => ?_) (fun cdv Ar outer s H vs Q E hr h => ?_)
  · obtain ⟨W, ts, k, _, _, _, d, ⟨gs, hts, _⟩, _⟩ := h
    rcases hts with rfl | ⟨fl, rfl⟩ <;> exact d.length
  · refine ⟨_, (pss_one (ps_ret (pe_lc (own := [("each", 1)]) rfl sc_Rack_names.nd (pi_listK K (pe_fldK K (pv 0) rfl)) (blkOk_by (N := ["self", "each"]) (sc := defScope s_Rack_names) (by decide +kernel)) (fun _ _ _ _ _ => (pg_name (i := 1) sc_Rack_names.nd rfl (Or.inl rfl))) (fun _ _ _ _ _ => pts_nil) (fun _ _ _ _ _ => (pe_fldK K (pv 1) rfl))))), ?_⟩
    try dsimp only [cxOf, Cx.nox]
    obtain ⟨W, ts, k, hB, ho, hw, d, ⟨gs, hts, hl, kk⟩, hq⟩ := h
    have hK : W.B.K = K := congrArg Bs.K hB
    have lc : ∀ (o : Ty) (te : TE), EvK W te [some o, none] (fun as : List Gau => as = gs) → EvF W (tLc (iList K te) (gName 1) tYes (tFld K (tVar 1) "name") [1]) [some o, none] fun bs => bs = gs.map Gau.nm := fun o te h =>
      evF_lcF (fun _ => true) Gau.nm hK (h.imp fun as e => ⟨by rw [e]; omega, fun W' sb g hg => ⟨[1], rfl, tj_name (et_yes ⟨fun _ => ev_gname (congrArg Bs.K (sb.B.trans hB)) ((sb.B.trans hB) ▸ gauT tx) (ev_var rfl ⟨rfl, rfl⟩), fun h => (nomatch h)⟩)⟩, by rw [filtT, e]⟩)
    rcases hts with rfl | ⟨fl, rfl⟩
    · have G0 : GOk W H (L2.start ["self", "each"] vs) [some (T (Rp.mk gs)), none] := start_ok ho hw d
      exact lc _ _ (ev_pgauges hK (ev_var rfl rfl)) _ H _ G0 fun p H' ws bs n e hp hd q => hq p H' ws bs n e hp hd (q ▸ kk)
    · have G0 : GOk W H (L2.start ["self", "each"] vs) [some (T (Rk.mk gs fl)), none] := start_ok ho hw d
      exact lc _ _ (ev_kgauges hK (ev_var rfl rfl)) _ H _ G0 fun p H' ws bs n e hp hd q => hq p H' ws bs n e hp hd (q ▸ kk)
def P_Rack_contains : PT := fun rt xx ts => ∃ (o : G.Ty) (gs : List Gau) (x : Str), ts = [o, T x] ∧ (o = T (Rp.mk gs) ∨ ∃ fl, o = T (Rk.mk gs fl)) ∧ gs.length ≤ 100 ∧ rt (T (decide (x ∈ gs.map Gau.nm)))
theorem ok_Rack_contains (tx : Txt K mg A) : FnR P w K mg base CX0 2 A.f_Rack_contains (spG (bs K A) P_Rack_contains) := by
  have G_Rack_names := ok_Rack_names (P := P) (w := w) (base := base) tx
  refine fnR_of tx.d_Rack_contains sc_Rack_contains (len_ok (n := 2) fun rt xx ts hp => by obtain ⟨_, _, _, rfl, _⟩ := hp; rfl) (fun cdv Ar outer s H vs Q E hr h => ⟨_, (pss_one (ps_ret (pe_cmpR (op_inSeqK K) (pv 1) (pe_methZ0 (E := fun _ => E0) (pv 0) (tx.cl_Rack) (tx.m_Rack_names) G_Rack_names (room hr) passS0) rfl))),
      body_ok (N := ["self", "x"]) (fun W ts rt xx hB ho hw hp => ?_) h⟩)
  have hK : W.B.K = K := congrArg Bs.K hB
  obtain ⟨o, gs, x, rfl, hts, hl, hp⟩ := hp
  rcases hts with rfl | ⟨fl, rfl⟩
  · show Sx W _ [some (T (Rp.mk gs)), some (T x)] _
    exact sx_ret (ev_inS hK (ev_var rfl (evF_methFr (α := Rp) (rα := inferInstance) hB (ev_var rfl (ownM_in rfl (by decide +kernel) (ea_nil ⟨gs, .inl rfl, hl, hp⟩)))).k))
  · show Sx W _ [some (T (Rk.mk gs fl)), some (T x)] _
    exact sx_ret (ev_inS hK (ev_var rfl (evF_methFr (α := Rk) (rα := inferInstance) hB (ev_var rfl (ownM_in rfl (by decide +kernel) (ea_nil ⟨gs, .inr ⟨fl, rfl⟩, hl, hp⟩)))).k))
def P_Rack_faults : PT := fun rt xx ts => ∃ (gs : List Gau) (fl : List (List Str)), ts = [T (Rk.mk gs fl)] ∧ (fl.length ≤ 100 ∧ rt (T fl))
theorem pc_Rack_faults {rt : Ty → Prop} {xx : Xn → Prop} {gs : List Gau} {fl : List (List Str)} (h : fl.length ≤ 100 ∧ rt (T fl)) : P_Rack_faults rt xx [T (Rk.mk gs fl)] := ⟨_, _, rfl, h⟩
theorem ok_Rack_faults (tx : Txt K mg A) : FnR P w K mg base CX0 1 A.f_Rack_faults (spG (bs K A) P_Rack_faults) := by
  refine fnR_of tx.d_Rack_faults sc_Rack_faults (len_ok (n := 1) fun rt xx ts hp => by obtain ⟨_, _, rfl, _⟩ := hp; rfl) (fun cdv Ar outer s H vs Q E hr h => ⟨_, (pss_one (ps_ret (pe_lc (own := [("fault", 1)]) rfl sc_Rack_faults.nd (pi_listK K (pe_fldK K (pv 0) rfl)) (blkOk_by (N := ["self", "fault"]) (sc := defScope s_Rack_faults) (by decide +kernel)) (fun _ _ _ _ _ => (pg_name (i := 1) sc_Rack_faults.nd rfl (Or.inl rfl))) (fun _ _ _ _ _ => pts_nil) (fun _ _ _ _ _ => (pe_callTy (call_list_ofK K) (by rfl) tx.z_list (by decide +kernel) (pa_cons (pv 1) pa_nil)))))),
      body_ok (N := ["self", "fault"]) (fun W ts rt xx hB ho hw hp => ?_) h⟩)
  have hK : W.B.K = K := congrArg Bs.K hB
  obtain ⟨gs, fl, rfl, hp⟩ := hp
  show Sx W _ [some (T (Rk.mk gs fl)), none] _
  obtain ⟨hl, hp⟩ := hp
  refine sx_ret (α := List (List Str)) (rα := inferInstance) ?_
  refine ev_lcF (fun _ => true) (fun f : List Str => f) hK (ev_kfaults hK (ev_var rfl ⟨by show fl.length ≤ 100000; omega, fun W' sb f hf => ⟨[1], rfl, ?_⟩, ?_⟩))
  · have hB' : W'.B = bs K A := sb.B.trans hB
    have hK' : W'.B.K = K := congrArg Bs.K hB'
    apply tj_name
    exact et_yes ⟨fun _ => (evF_listOf (α := Str) (rα := inferInstance) hK' (ev_var rfl ⟨rfl, rfl⟩)).k, fun h => (nomatch h)⟩
  rw [filtT, show (fl.map fun f : List Str => f) = fl from List.map_id fl]
  exact hp
def P_Rack_refuse_unknown : PT := fun rt xx ts => ∃ (o : G.Ty) (gs : List Gau) (ws : List Str), ts = [o, T ws] ∧ (o = T (Rp.mk gs) ∨ ∃ fl, o = T (Rk.mk gs fl)) ∧ gs.length ≤ 100 ∧ ws.length ≤ 1000 ∧ (∀ w ∈ ws, (reprText w).length ≤ 3000 ∧ w.length ≤ 3000) ∧
  ((∀ w ∈ ws, w ∈ gs.map Gau.nm) → rt (T ())) ∧ (∀ (i : Nat) (w : Str), ws[i]? = some w → (∀ (j : Nat) (u : Str), j < i → ws[j]? = some u → u ∈ gs.map Gau.nm) → w ∉ gs.map Gau.nm → xx ⟨.UnknownGauge, [("name", .s w)]⟩)
theorem ok_Rack_refuse_unknown (tx : Txt K mg A) : FnR P w K mg base (L2.CX P w) 3 A.f_Rack_refuse_unknown (spG (bs K A) P_Rack_refuse_unknown) := by
  have G_Rack_contains := ok_Rack_contains (P := P) (w := w) (base := base) tx
  have G_UnknownGauge_init := ok_UnknownGauge_init (P := P) (w := w) (base := base) tx
  refine fnRX_of tx.d_Rack_refuse_unknown sc_Rack_refuse_unknown (len_ok (n := 2) fun rt xx ts hp => by obtain ⟨_, _, _, rfl, _⟩ := hp; rfl) (fun cdv Ar outer s H vs Q E hr h => ⟨_, (pss_one (ps_for PassesOwn.leaving rfl (pi_listK K (pv 1)) (pg_name (i := 2) sc_Rack_refuse_unknown.nd rfl (Or.inl rfl)) (pss_one (ps_if (pt_cmpR (op_notInOwn (tx.m_Rack_contains) G_Rack_contains (room hr) pass0) (pv 2) (pv 0) rfl) (pss_one (ps_raise rfl (takes_of rfl rfl rfl rfl) (pmk_oexR tx.xo_UnknownGauge tx.xi_UnknownGauge tx.xt_UnknownGauge G_UnknownGauge_init (room hr) pass0 rfl tx.c_UnknownGauge (pa_cons (pv 2) pa_nil)))) pss_nil)))),
      body_ok (N := ["self", "names", "name"]) (fun W ts rt xx hB ho hw hp => ?_) h⟩)
  have hK : W.B.K = K := congrArg Bs.K hB
  obtain ⟨o, gs, ws, rfl, hts, hl, hwl, hsz, hall, hbad⟩ := hp
  show Sx W _ [some o, some (T ws), none] _
  refine sx_forL (α := Str) (rα := inferInstance) hK (ev_var rfl ⟨fun i Γ' => (∀ j u, j < i → ws[j]? = some u → u ∈ gs.map Gau.nm) ∧ ∃ o2, Γ' = [some o, some (T ws), o2], ⟨fun j u hj => absurd hj (Nat.not_lt_zero _), none, rfl⟩, ?_, ?_⟩)
  · rintro i w Γ' hw2 ⟨hf, o2, rfl⟩
    refine ⟨[2], tj_name ?_⟩
    show Sx W _ [some o, some (T ws), some (T w)] _
    have fin : ∀ k : Bool → Prop, k (!decide (w ∈ gs.map Gau.nm)) → EvK W (tOp (rNotInOwn A.c_Rack (spG (bs K A) P_Rack_contains) E0) (tVar 2) (tVar 0)) [some o, some (T ws), some (T w)] k := fun k q => by
      rcases hts with rfl | ⟨fl, rfl⟩
      · exact ev_notInOwn (β := Rp) (rβ := inferInstance) hB (ev_var rfl (ev_var rfl (own_in rfl ⟨_, gs, w, rfl, .inl rfl, hl, ⟨_, rfl, q⟩⟩)))
      · exact ev_notInOwn (β := Rk) (rβ := inferInstance) hB (ev_var rfl (ev_var rfl (own_in rfl ⟨_, gs, w, rfl, .inr ⟨fl, rfl⟩, hl, ⟨_, rfl, q⟩⟩)))
    refine sx_if (et_test (fin _ ⟨fun h => ?_, fun h => ?_⟩))
    · have hn : w ∉ gs.map Gau.nm := by simpa using h
      obtain ⟨s1, s2⟩ := hsz w (List.mem_of_getElem? hw2)
      refine sx_raise (c := .UnknownGauge) (Wx := fun cls d _ H => E cls d H) hB rfl (hx_of hw) ?_
      exact ea_cons (ev_var rfl (ea_nil ⟨_, shStr_ok s1 s2, hbad i w hw2 hf hn⟩))
    · have hy : w ∈ gs.map Gau.nm := by simpa using h
      refine sx_next ⟨fun j u hj hu => ?_, _, rfl⟩
      rcases Nat.eq_or_lt_of_le (Nat.le_of_lt_succ hj) with rfl | hlt
      · rw [hw2] at hu
        cases hu
        exact hy
      · exact hf j u hlt hu
  · rintro Γ' ⟨hf, o2, rfl⟩
    refine hall fun w hw2 => ?_
    obtain ⟨j, hj, rfl⟩ := List.getElem_of_mem hw2
    exact hf j _ hj (List.getElem?_eq_getElem hj)
def P_m_faults_of : PT := fun rt xx ts => ∃ (o : G.Ty) (ns : List Str) (gs : List Grp), ts = [T ns, o] ∧ (o = T (Tl.mk gs) ∨ (gs = [] ∧ o = T Em.mk)) ∧ ns.length ≤ 100 ∧ (gs.flatMap Tl.xs).length ≤ 1000 ∧ (∀ n ∈ ns, PyData.strOk n = true) ∧ rt (T (flF ns gs))
theorem ok_m_faults_of (tx : Txt K mg A) : FnR P w K mg base CX0 1 A.f_m_faults_of (spG (bs K A) P_m_faults_of) := by
  refine fnR_of tx.g_m_faults_of.d sc_m_faults_of (len_ok (n := 2) fun rt xx ts hp => by obtain ⟨_, _, _, rfl, _⟩ := hp; rfl) (fun cdv Ar outer s H vs Q E hr h => ⟨_, (pss_cons (ps_set (i := 2) sc_m_faults_of.nd rfl (Or.inr rfl) (pe_dc2 (own := [("group", 3), ("member", 4)]) (vs1 := [4]) rfl sc_m_faults_of.nd (pi_tupK K (pv 1)) (blkOk_by (N := ["names", "together", "groups", "group", "member", "faults", "name", "fault", "other"]) (sc := defScope s_m_faults_of) (by decide +kernel)) (by decide) (fun _ _ _ _ _ => (pg_name (i := 3) sc_m_faults_of.nd rfl (Or.inl rfl))) (fun _ _ _ _ _ => (pi_tupK K (pv 3))) (fun _ _ _ _ _ => (pg_name (i := 4) sc_m_faults_of.nd rfl (Or.inl rfl))) (fun _ _ _ _ _ => (pv 4)) (fun _ _ _ _ _ => (pv 3))))
        (pss_cons (ps_set (i := 5) sc_m_faults_of.nd rfl (Or.inl rfl) (pe_lst pa_nil))
        (pss_cons (ps_for PassesOwn.never rfl (pi_listK K (pv 0)) (pg_name (i := 6) sc_m_faults_of.nd rfl (Or.inr rfl)) (pss_cons (ps_setLc (i := 7) (own := [("other", 8)]) rfl sc_m_faults_of.nd rfl rfl (sw_true rfl rfl rfl (by decide +kernel)) (pi_listK K (pv 0)) (blkOk_by (N := ["names", "together", "groups", "group", "member", "faults", "name", "fault", "other"]) (sc := defScope s_m_faults_of) (by decide +kernel)) (fun _ _ _ _ _ => (pg_name (i := 8) sc_m_faults_of.nd rfl (Or.inl rfl))) (fun _ _ _ _ _ => (pts_one (PW.pt (pw_or (pt_cmpR (op_eqDK K (huD hr)) (pv 8) (pv 6) (nomark _)) (pw_or1 (pt_cmpR (op_inSeqK K) (pv 8) (pe_dget2 (huX hr) (pv 2) (pv 6) (pe_tup pa_nil) ⟨rfl, rfl, rfl, rfl⟩) rfl)))))) (fun _ _ _ _ _ => (pv 8)))
        (pss_one (ps_if (pt_cmpR (op_eqDK K (huD hr)) (pe_ix (ix_listK K) (pv 7) pe_int (fun _ _ => rfl)) (pv 6) (nomark _)) (pss_one (ps_expr (pe_appendK K (pv 5) (pa_cons (pv 7) pa_nil)))) pss_nil))))
        (pss_one (ps_ret (pv 5)))))),
      body_ok (N := ["names", "together", "groups", "group", "member", "faults", "name", "fault", "other"]) (fun W ts rt xx hB ho hw hp => ?_) h⟩)
  have hK : W.B.K = K := congrArg Bs.K hB
  obtain ⟨o, ns, gs, rfl, hts, hl, hg, hok, hp⟩ := hp
  show Sx W _ [some (T ns), some o, none, none, none, none, none, none, none] _
  have hit : ∀ k : List Grp → Prop, k gs → EvI W (iTup K (tVar 1)) [some (T ns), some o, none, none, none, none, none, none, none] k := fun k q => by
    rcases hts with rfl | ⟨rfl, rfl⟩
    · exact ei_tup hK (ev_var rfl q)
    · exact ei_em hK (ev_var rfl q)
  refine sx_seq (sx_set (α := Dc Grp) (rα := inferInstance) (ev_dc2 (α := Grp) (β := Str) (γ := Grp) (rα := inferInstance) (rβ := inferInstance) (rγ := inferInstance) (fun g => g.xs.map fun m => (m, g)) (hit _ ⟨?_, fun W' sb g hgm => ⟨[3], rfl, ?_⟩, ?_⟩)))
  · have e : (gs.flatMap fun g : Grp => g.xs.map fun m => (m, g)).length = (gs.flatMap Tl.xs).length := by
      rw [List.length_flatMap, List.length_flatMap]
      congr 1
      exact List.map_congr_left fun g _ => List.length_map _
    exact Nat.le_trans (Nat.le_of_eq e) (by omega)
  · have hB' : W'.B = bs K A := sb.B.trans hB
    have hK' : W'.B.K = K := congrArg Bs.K hB'
    apply tj_name
    refine ei_tup hK' (ev_var rfl ⟨fun m => (m, g), rfl, fun W2 sb2 m hm => ⟨[4], rfl, ?_⟩⟩)
    apply tj_name
    exact ev_var rfl ⟨rfl, ev_var rfl rfl⟩
  show Sx W _ [some (T ns), some o, some (T (Dc.mk (grpD gs))), none, none, none, none, none, none] _
  unfold flF flD at hp
  generalize grpD gs = ds at hp ⊢
  clear hit hts hg
  refine sx_own fun F => ?_
  refine sxm_seq (sxm_new (β := List Str) (rβ := inferInstance) fun Wo hW => evF_lst (el_nil (α := List Str) (rα := inferInstance) ⟨by decide, fun p vs => ?_⟩))
  show SxM W F _ [(p, vs)] [some (T ns), some o, some (T (Dc.mk ds)), none, none, some (T (Ol.mk p vs ([] : List (List Str)))), none, none, none] _
  refine sxm_seq (sxm_forL (α := Str) (rα := inferInstance) hK fun Wo hW => ev_var rfl ⟨fun i L' Γ' => ∃ (vs' : List V) (o6 o7 o8 : Option G.Ty), L' = [(p, vs')] ∧ Γ' = [some (T ns), some o, some (T (Dc.mk ds)), none, none, some (T (Ol.mk p vs' (((ns.take i).filter (keepD ds ns)).map (fltD ds ns)))), o6, o7, o8], ⟨vs, none, none, none, rfl, rfl⟩, ?_, ?_, ?_⟩)
  · rintro i L' Γ' ⟨vs', o6, o7, o8, rfl, rfl⟩
    rfl
  · rintro i nm L' Γ' hnm ⟨vs', o6, o7, o8, rfl, rfl⟩ Wo' hW'
    have hm : nm ∈ ns := List.mem_of_getElem? hnm
    have hstep := flD_take (ds := ds) hnm
    obtain ⟨hd0, tl0, hcons, hd0m⟩ := fltD_head (ds := ds) hm
    have hilt : i < ns.length := (List.getElem?_eq_some_iff.mp hnm).1
    refine ⟨[6], tj_name ?_⟩
    show SxM W F _ [(p, vs')] [some (T ns), some o, some (T (Dc.mk ds)), none, none, some (T (Ol.mk p vs' (((ns.take i).filter (keepD ds ns)).map (fltD ds ns)))), some (T nm), o7, o8] _
    refine sxm_seq (sxm_pure fun Wo3 hW3 => ?_)
    have hB3 : Wo3.B = bs K A := hW3.B.trans hB
    have hK3 : Wo3.B.K = K := congrArg Bs.K hB3
    refine sx_set (α := List Str) (rα := inferInstance) (ev_lcF (α := Str) (β := Str) (rα := inferInstance) (rβ := inferInstance) (fun x => decide (x = nm) || decide (x ∈ ((getDc ds nm).getD ⟨[]⟩).xs)) (fun x => x) hK3 (ev_var rfl ⟨by omega, fun W' sb x hx => ⟨[8], rfl, ?_⟩, ?_⟩))
    · have hB' : W'.B = bs K A := sb.B.trans hB3
      have hK' : W'.B.K = K := congrArg Bs.K hB'
      apply tj_name
      refine et_or (et_test ?_)
      refine ev_eqG hK' (ev_var rfl (ev_var rfl (eqg_in (by decide) (hok x hx) (hok nm hm) ⟨fun h => ⟨fun _ => ev_var rfl ⟨by rw [h]; rfl, rfl⟩, fun h => (nomatch h)⟩, fun h1 => ?_⟩)))
      refine et_test (ev_inST hK' (ev_var rfl (ev_dget2 (β := Grp) (rβ := inferInstance) (ev_var rfl (ev_var rfl (ev_tupT0 ?_))))))
      exact ⟨fun h => ev_var rfl ⟨by rw [h, Bool.or_true], rfl⟩, fun h => by rw [h1, h]; rfl⟩
    rw [List.map_id']
    show SxM W F _ [(p, vs')] [some (T ns), some o, some (T (Dc.mk ds)), none, none, some (T (Ol.mk p vs' (((ns.take i).filter (keepD ds ns)).map (fltD ds ns)))), some (T nm), some (T (fltD ds ns nm)), o8] _
    refine sxm_if fun Wo4 hW4 => ?_
    have hB4 : Wo4.B = bs K A := hW4.B.trans hB
    have hK4 : Wo4.B.K = K := congrArg Bs.K hB4
    refine et_test (ev_eqG hK4 (ev_ixL (α := Str) (rα := inferInstance) hK4 (ev_var rfl (ev_int ⟨hd0, by rw [hcons]; exact atI_nat (j := 0) rfl, ev_var rfl (eqg_in (by decide) (hok hd0 hd0m) (hok nm hm) ?_)⟩))))
    have hkd : keepD ds ns nm = decide (hd0 = nm) := by unfold keepD; rw [hcons]; rfl
    refine ⟨fun h => ?_, fun h => ?_⟩
    · rw [hkd, if_pos h] at hstep
      refine sxm_append (α := List Str) (rα := inferInstance) 0 rfl rfl fun Wo5 hW5 => ev_var rfl ⟨?_, fun v => ⟨vs' ++ [v], some (T nm), some (T (fltD ds ns nm)), o8, rfl, ?_⟩⟩
      · rw [List.length_map]
        have := List.length_filter_le (keepD ds ns) (ns.take i)
        rw [List.length_take] at this
        omega
      · rw [hstep]
        rfl
    · rw [hkd, if_neg (by rw [h]; exact Bool.false_ne_true), List.append_nil] at hstep
      refine sxm_pure fun Wo5 hW5 => sx_next ⟨vs', some (T nm), some (T (fltD ds ns nm)), o8, rfl, ?_⟩
      rw [hstep]
  · rintro L' Γ' ⟨vs', o6, o7, o8, rfl, rfl⟩
    refine sxm_freeze (Γ' := [some (T ns), some o, some (T (Dc.mk ds)), none, none, some (T (((ns.take ns.length).filter (keepD ds ns)).map (fltD ds ns))), o6, o7, o8]) (by walk_at "frz") (sxm_pure fun Wo5 hW5 => ?_)
    rw [List.take_length]
    exact sx_ret (ev_var rfl hp)
def P_Rack_init (K : PySem.W.Frag) (A : Ad) : PI RkB := fun c k x ts => ∃ (o : G.Ty) (gs : List Gau) (grs : List Grp), c = .Rack ∧ ts = [o, T (Tl.mk gs)] ∧ (o = T (Tl.mk grs) ∨ (grs = [] ∧ o = T Em.mk)) ∧ RackT (bs K A) ∧ gs.length ≤ 100 ∧ (grs.flatMap Tl.xs).length ≤ 1000 ∧ (∀ g ∈ gs, NmOk g.nm) ∧ (∀ w ∈ grs.flatMap Tl.xs, NmOk w) ∧
  (match dupF (gs.map Gau.nm) with | some n => x ⟨.DuplicateGauge, [("name", .s n)]⟩ | none => match badG (gs.map Gau.nm) [] (grs.flatMap Tl.xs) with | some (true, n) => x ⟨.UnknownGauge, [("name", .s n)]⟩ | some (false, n) => x ⟨.DuplicateGauge, [("name", .s n)]⟩ | none => k (rkB gs (flF (gs.map Gau.nm) grs)))
theorem ok_Rack_init (tx : Txt K mg A) : FnSK P w K mg base (L2.CX P w) 4 A.f_Rack_init "together" (V.ref A.k_em_Rack_init) (spIn (bs K A) (P_Rack_init K A)) := by
  have G_Rack_contains := ok_Rack_contains (P := P) (w := w) (base := base) tx
  have G_DuplicateGauge_init := ok_DuplicateGauge_init (P := P) (w := w) (base := base) tx
  have G_Rack_refuse_unknown := ok_Rack_refuse_unknown (P := P) (w := w) (base := base) tx
  have G_m_faults_of := ok_m_faults_of (P := P) (w := w) (base := base) tx
  have G_Rack_names := ok_Rack_names (P := P) (w := w) (base := base) tx
  refine fnSK_of cxUp tx.sk_Rack_init sc_Rack_init (fun cdv Ar outer s H vs Q E hr h => ?_)
  · refine ⟨_, (pss_cons (ps_fldK K (pv 0) (pe_lst pa_nil) rfl)
        (pss_cons (ps_for PassesOwn.leaving rfl (pi_tupK K (pv 2)) (pg_name (i := 3) sc_Rack_init.nd rfl (Or.inl rfl)) (pss_cons (ps_if (pt_cmpR (op_inOwn (tx.m_Rack_contains) G_Rack_contains (room hr) pass0) (pe_fldK K (pv 3) rfl) (pv 0) rfl) (pss_one (ps_raise rfl (takes_of rfl rfl rfl rfl) (pmk_oexR tx.xo_DuplicateGauge tx.xi_DuplicateGauge tx.xt_DuplicateGauge G_DuplicateGauge_init (room hr) pass0 rfl tx.c_DuplicateGauge (pa_cons (pe_fldK K (pv 3) rfl) pa_nil)))) pss_nil)
        (pss_one (ps_expr (pe_bm PySem.F.plainAttrs_list PySem.F.slot_list_append PySem.F.type_list_append mt_append (pe_fldK K (pv 0) rfl) (pa_cons (pv 3) pa_nil))))))
        (pss_cons (ps_set (i := 4) sc_Rack_init.nd rfl (Or.inl rfl) (pe_lst pa_nil))
        (pss_cons (ps_for PassesOwn.leaving rfl (pi_tupK K (pv 1)) (pg_name (i := 5) sc_Rack_init.nd rfl (Or.inl rfl)) (pss_one (ps_for PassesOwn.leaving rfl (pi_tupK K (pv 5)) (pg_name (i := 6) sc_Rack_init.nd rfl (Or.inl rfl)) (pss_cons (ps_expr (pe_methZ (E := WE (fun cls d _ H => E cls d H)) (pv 0) (tx.cl_Rack) (tx.m_Rack_refuse_unknown) G_Rack_refuse_unknown (room hr) (passAt (takes_of rfl rfl rfl rfl)) (pa_cons (pe_lst (pa_cons (pv 6) pa_nil)) pa_nil)))
        (pss_cons (ps_if (pt_cmpR (op_inSeqK K) (pv 6) (pv 4) rfl) (pss_one (ps_raise rfl (takes_of rfl rfl rfl rfl) (pmk_oexR tx.xo_DuplicateGauge tx.xi_DuplicateGauge tx.xt_DuplicateGauge G_DuplicateGauge_init (room hr) pass0 rfl tx.c_DuplicateGauge (pa_cons (pv 6) pa_nil)))) pss_nil)
        (pss_one (ps_expr (pe_bm PySem.F.plainAttrs_list PySem.F.slot_list_append PySem.F.type_list_append mt_append (pv 4) (pa_cons (pv 6) pa_nil)))))))))
        (pss_one (ps_fldK K (pv 0) (pe_callR G_m_faults_of (room hr) rfl (tx.g_m_faults_of).g (tx.g_m_faults_of).kp pass0 (pa_cons (pe_methZ0 (E := fun _ => E0) (pv 0) (tx.cl_Rack) (tx.m_Rack_names) G_Rack_names (room hr) passS0) (pa_cons (pv 1) pa_nil))) rfl)))))), ?_⟩
    refine init_ok (N := ["self", "together", "gauges", "each", "grouped", "group", "name"]) (fun W F p dx c ts k x hB hw hp => ?_) h
    have hK : W.B.K = K := congrArg Bs.K hB
    obtain ⟨o, gs, grs, rfl, rfl, hts, hT, hl, hgl, hgo, hwo, hend⟩ := hp
    have hT' : RackT W.B := by rw [hB]; exact hT
    have hcl : L2.Cls K (W.B.cl .Rack) := hK ▸ hT'.cl
    have n1 : NoAttr K (W.B.cl .Rack) "_gauges" := hK ▸ hT'.ng
    have n2 : NoAttr K (W.B.cl .Rack) "_faults" := hK ▸ hT'.nf
    show SxH W F _ [(p, .ins (W.B.cl .Rack) dx [])] [some (T (Oi.mk p .Rack dx [] ())), some o, some (T (Tl.mk gs)), none, none, none, none] _
    refine sxh_seq (sxh_setOl (α := Gau) (rα := inferInstance) (f := "_gauges") hK hcl n1 rfl (by show 0 < 1000; decide) (fun z => (nomatch z)) fun Wo hW => evF_lst (el_nil (α := Gau) (rα := inferInstance) ⟨by decide, fun q vs fs1 => ?_⟩))
    show SxH W F _ [(q, .lst vs), (p, .ins (W.B.cl .Rack) dx fs1)] [some (T (Oi.mk p .Rack dx fs1 ((⟨"_gauges", ⟨q, vs, ([] : List Gau)⟩⟩, ()) : Fd (Ol Gau) × Unit))), some o, some (T (Tl.mk gs)), none, none, none, none] _
    refine sxh_seq (sxh_forI (α := Gau) (rα := inferInstance) fun Wo hW => ?_)
    have hKo : Wo.B.K = K := congrArg Bs.K (hW.B.trans hB)
    refine ei_tup hKo (ev_var rfl ⟨fun i L' Γ' => ∃ (vs' : List V) (o3 : Option G.Ty), dupG ((gs.map Gau.nm).take i) ((gs.map Gau.nm).drop i) = dupF (gs.map Gau.nm) ∧ L' = [(q, .lst vs'), (p, .ins (W.B.cl .Rack) dx fs1)] ∧ Γ' = [some (T (Oi.mk p .Rack dx fs1 ((⟨"_gauges", ⟨q, vs', gs.take i⟩⟩, ()) : Fd (Ol Gau) × Unit))), some o, some (T (Tl.mk gs)), o3, none, none, none], ⟨vs, none, rfl, rfl, rfl⟩, ?_, ?_, ?_⟩)
    · rintro i L' Γ' ⟨vs', o3, _, rfl, rfl⟩
      rfl
    · rintro i g L' Γ' hg ⟨vs', o3, hd, rfl, rfl⟩ Wo' hW'
      have hgm := List.mem_of_getElem? hg
      have hil : i < gs.length := (List.getElem?_eq_some_iff.mp hg).1
      have hgi : (gs.map Gau.nm)[i]? = some g.nm := by rw [List.getElem?_map, hg]; rfl
      have hstep := dupG_step hgi rfl
      rw [hd] at hstep
      refine ⟨[3], tj_name ?_⟩
      show SxH W F _ [(q, .lst vs'), (p, .ins (W.B.cl .Rack) dx fs1)] [some (T (Oi.mk p .Rack dx fs1 ((⟨"_gauges", ⟨q, vs', gs.take i⟩⟩, ()) : Fd (Ol Gau) × Unit))), some o, some (T (Tl.mk gs)), some (T g), none, none, none] _
      refine sxh_seq (sxh_lookIf (Γ' := [some (T (Rp.mk (gs.take i))), some o, some (T (Tl.mk gs)), some (T g), none, none, none]) (.ownJ (fun W' H' e pin hf => rp_look hT' (List.mem_cons_of_mem _ List.mem_cons_self) List.mem_cons_self W' H' e pin hf) (.same (.same (.same (.same (.same (.same .nil))))))) ?_)
      refine et_test (ev_inOwn (β := Rp) (rβ := inferInstance) hB (ev_gname hK (hB ▸ gauT tx) (ev_var rfl (ev_var rfl (own_in rfl ⟨_, gs.take i, g.nm, rfl, .inl rfl, by rw [List.length_take]; omega, ⟨_, rfl, ?_⟩⟩)))))
      rw [List.map_take]
      refine ⟨fun h1 => ?_, fun h1 => ?_⟩
      · rw [if_pos (of_decide_eq_true h1)] at hstep
        rw [hstep] at hend
        refine sxh_pure fun Wo2 hW2 => ?_
        have hB2 : Wo2.B = bs K A := hW2.B.trans hB
        have hK2 : Wo2.B.K = K := congrArg Bs.K hB2
        refine sx_raise (c := .DuplicateGauge) (Wx := fun cls d _ H => E cls d H) hB2 rfl (hx_of (hW2.err E x hw)) ?_
        exact ea_cons (ev_gname hK2 (hB2 ▸ gauT tx) (ev_var rfl (ea_nil ⟨_, shStr_ok (hgo g hgm).rep (hgo g hgm).len, hend⟩)))
      · rw [if_neg (of_decide_eq_false h1)] at hstep
        refine sxh_next ?_
        refine sxh_appendF (α := Gau) (rα := inferInstance) 1 0 hK hcl n1 rfl rfl rfl fun Wo2 hW2 => ev_var rfl ⟨by rw [List.length_take]; omega, fun v => ⟨vs' ++ [v], some (T g), hstep.symm, rfl, ?_⟩⟩
        rw [List.take_succ, hg]
        rfl
    rintro L' Γ' ⟨vs', o3, hd, rfl, rfl⟩
    rw [show (Tl.mk gs).xs.length = gs.length from rfl] at hd ⊢
    rw [show gs.length = (gs.map Gau.nm).length from (List.length_map _).symm, List.drop_length] at hd
    rw [← hd] at hend
    have hend : (match badG (gs.map Gau.nm) [] (grs.flatMap Tl.xs) with | some (true, n) => x ⟨.UnknownGauge, [("name", .s n)]⟩ | some (false, n) => x ⟨.DuplicateGauge, [("name", .s n)]⟩ | none => k (rkB gs (flF (gs.map Gau.nm) grs))) := hend
    rw [List.take_length]
    clear hd
    refine sxh_rest (Γ' := [some (T (Oi.mk p .Rack dx fs1 ((⟨"_gauges", gs⟩, ()) : Fd (List Gau) × Unit))), some o, some (T (Tl.mk gs)), o3, none, none, none]) (.conv (fun W' H' v e nm hq d => rest_fd W' H' v nm hq d) (.same (.same (.same (.same (.same (.same .nil))))))) ?_
    refine sxh_seq (sxh_newL (β := Str) (rβ := inferInstance) fun Wo hW => evF_lst (el_nil (α := Str) (rα := inferInstance) ⟨by decide, fun q vs => ?_⟩))
    show SxH W F _ [(q, .lst vs), (p, .ins (W.B.cl .Rack) dx fs1)] [some (T (Oi.mk p .Rack dx fs1 ((⟨"_gauges", gs⟩, ()) : Fd (List Gau) × Unit))), some o, some (T (Tl.mk gs)), o3, some (T (Ol.mk q vs ([] : List Str))), none, none] _
    have hit : ∀ (Wo : Wd) (Γ : Gam) (k : List Grp → Prop), Wo.B.K = K → Γ[1]? = some (some o) → k grs → EvI Wo (iTup K (tVar 1)) Γ k := fun Wo Γ k hKo hi q => by
      rcases hts with rfl | ⟨rfl, rfl⟩
      · exact ei_tup hKo (ev_var hi q)
      · exact ei_em hKo (ev_var hi q)
    refine sxh_seq (sxh_forI (α := Grp) (rα := inferInstance) fun Wo hW => hit Wo _ _ (congrArg Bs.K (hW.B.trans hB)) rfl ?_)
    refine ⟨fun i L' Γ' => ∃ (vs' : List V) (o5 o6 : Option G.Ty), badG (gs.map Gau.nm) ((grs.take i).flatMap Tl.xs) ((grs.drop i).flatMap Tl.xs) = badG (gs.map Gau.nm) [] (grs.flatMap Tl.xs) ∧ L' = [(q, .lst vs'), (p, .ins (W.B.cl .Rack) dx fs1)] ∧ Γ' = [some (T (Oi.mk p .Rack dx fs1 ((⟨"_gauges", gs⟩, ()) : Fd (List Gau) × Unit))), some o, some (T (Tl.mk gs)), o3, some (T (Ol.mk q vs' ((grs.take i).flatMap Tl.xs))), o5, o6], ⟨vs, none, none, rfl, rfl, rfl⟩, ?_, ?_, ?_⟩
    · rintro i L' Γ' ⟨vs', o5, o6, _, rfl, rfl⟩
      rfl
    · rintro i gr L' Γ' hgr ⟨vs', o5, o6, hb, rfl, rfl⟩ Wo' hW'
      have hi := (List.getElem?_eq_some_iff.mp hgr).1
      have he := (List.getElem?_eq_some_iff.mp hgr).2
      have hdr : (grs.drop i).flatMap Tl.xs = gr.xs ++ (grs.drop (i + 1)).flatMap Tl.xs := by rw [List.drop_eq_getElem_cons hi, he]; rfl
      have htk : (grs.take (i + 1)).flatMap Tl.xs = (grs.take i).flatMap Tl.xs ++ gr.xs := by
        rw [List.take_succ, hgr, List.flatMap_append]
        simp
      have hall : grs.flatMap Tl.xs = (grs.take i).flatMap Tl.xs ++ (gr.xs ++ (grs.drop (i + 1)).flatMap Tl.xs) := by
        rw [← hdr, ← List.flatMap_append, List.take_append_drop]
      have hlen1 : ((grs.take i).flatMap Tl.xs).length + gr.xs.length ≤ 1000 := by
        rw [hall, List.length_append, List.length_append] at hgl
        omega
      have hw1 : ∀ w ∈ gr.xs, NmOk w := fun w hw => hwo w (by rw [hall]; exact List.mem_append_right _ (List.mem_append_left _ hw))
      rw [hdr] at hb
      clear hdr hall
      obtain ⟨pre, hpre⟩ : ∃ pre, (grs.take i).flatMap Tl.xs = pre := ⟨_, rfl⟩
      obtain ⟨post, hpost⟩ : ∃ post, (grs.drop (i + 1)).flatMap Tl.xs = post := ⟨_, rfl⟩
      rw [hpre, hpost] at hb
      rw [hpre] at hlen1 htk ⊢
      refine ⟨[5], tj_name ?_⟩
      show SxH W F _ [(q, .lst vs'), (p, .ins (W.B.cl .Rack) dx fs1)] [some (T (Oi.mk p .Rack dx fs1 ((⟨"_gauges", gs⟩, ()) : Fd (List Gau) × Unit))), some o, some (T (Tl.mk gs)), o3, some (T (Ol.mk q vs' pre)), some (T gr), o6] _
      refine sxh_forI (α := Str) (rα := inferInstance) fun Wo2 hW2 => ?_
      have hKo2 : Wo2.B.K = K := congrArg Bs.K (hW2.B.trans hB)
      refine ei_tup hKo2 (ev_var rfl ⟨fun j L' Γ' => ∃ (vs' : List V) (o6 : Option G.Ty), badG (gs.map Gau.nm) (pre ++ gr.xs.take j) (gr.xs.drop j ++ post) = badG (gs.map Gau.nm) [] (grs.flatMap Tl.xs) ∧ L' = [(q, .lst vs'), (p, .ins (W.B.cl .Rack) dx fs1)] ∧ Γ' = [some (T (Oi.mk p .Rack dx fs1 ((⟨"_gauges", gs⟩, ()) : Fd (List Gau) × Unit))), some o, some (T (Tl.mk gs)), o3, some (T (Ol.mk q vs' (pre ++ gr.xs.take j))), some (T gr), o6], ⟨vs', o6, by rw [List.take_zero, List.append_nil]; exact hb, rfl, by rw [List.take_zero, List.append_nil]⟩, ?_, ?_, ?_⟩)
      · rintro j L' Γ' ⟨vs', o6, _, rfl, rfl⟩
        rfl
      · rintro j w L' Γ' hwj ⟨vs2, o62, hb2, rfl, rfl⟩ Wo3 hW3
        have hwm := List.mem_of_getElem? hwj
        have hj := (List.getElem?_eq_some_iff.mp hwj).1
        have hn := hw1 w hwm
        have hstep := badG_step (names := gs.map Gau.nm) hwj rfl post pre
        rw [hb2] at hstep
        refine ⟨[6], tj_name ?_⟩
        show SxH W F _ [(q, .lst vs2), (p, .ins (W.B.cl .Rack) dx fs1)] [some (T (Oi.mk p .Rack dx fs1 ((⟨"_gauges", gs⟩, ()) : Fd (List Gau) × Unit))), some o, some (T (Tl.mk gs)), o3, some (T (Ol.mk q vs2 (pre ++ gr.xs.take j))), some (T gr), some (T w)] _
        refine sxh_seq (sxh_lookD (α := Unit) (rα := inferInstance) (Γ' := [some (T (Rp.mk gs)), some o, some (T (Tl.mk gs)), o3, some (T (Ol.mk q vs2 (pre ++ gr.xs.take j))), some (T gr), some (T w)]) (.ownI (List.mem_cons_of_mem _ List.mem_cons_self) (fun W' H' e m hH hf => rp_hden hT' W' H' e m hH hf) (.same (.same (.same (.same (.same (.same .nil))))))) ?_)
        refine ev_methZ (α := Unit) (β := Rp) (rα := inferInstance) (rβ := inferInstance) hB (hx_of (x := x) hw) (ev_var rfl (ownM_in rfl (by decide +kernel) (ea_cons (ev_lst (α := Str) (rα := inferInstance) (el_cons (ev_var rfl (el_nil ⟨by show 1 ≤ 100000; decide, ea_nil ⟨_, gs, [w], rfl, .inl rfl, hl, by show 1 ≤ 1000; decide, ?_, fun hin => ⟨(), rfl, ?_⟩, ?_⟩⟩)))))))
        · intro u hu
          rw [List.mem_singleton.mp hu]
          exact ⟨hn.rep, hn.len⟩
        · have hin : w ∈ gs.map Gau.nm := hin w (List.mem_singleton.mpr rfl)
          rw [if_neg (not_not_intro hin)] at hstep
          refine sxh_seq (sxh_lookIf (Γ' := [some (T (Oi.mk p .Rack dx fs1 ((⟨"_gauges", gs⟩, ()) : Fd (List Gau) × Unit))), some o, some (T (Tl.mk gs)), o3, some (T (pre ++ gr.xs.take j)), some (T gr), some (T w)]) (.same (.same (.same (.same (.ownL List.mem_cons_self (.same (.same .nil))))))) ?_)
          refine et_test (ev_inS hK (ev_var rfl (ev_var rfl ⟨fun h1 => ?_, fun h1 => ?_⟩)))
          · rw [if_pos (of_decide_eq_true h1)] at hstep
            rw [hstep] at hend
            refine sxh_pure fun Wo4 hW4 => ?_
            refine sx_raise (c := .DuplicateGauge) (Wx := fun cls d _ H => E cls d H) (hW4.B.trans hB) rfl (hx_of (hW4.err E x hw)) ?_
            exact ea_cons (ev_var rfl (ea_nil ⟨_, shStr_ok hn.rep hn.len, hend⟩))
          · rw [if_neg (of_decide_eq_false h1)] at hstep
            refine sxh_next ?_
            refine sxh_append (α := Str) (rα := inferInstance) 0 rfl rfl fun Wo4 hW4 => ev_var rfl ⟨?_, fun v => ⟨vs2 ++ [v], some (T w), hstep.symm, rfl, ?_⟩⟩
            · rw [List.length_append, List.length_take]
              omega
            · rw [List.take_succ, hwj, List.append_assoc]
              rfl
        · intro i2 u hu2 _ hnot
          cases i2 with
          | succ i2 => simp at hu2
          | zero =>
            have hu2 : w = u := by simpa using hu2
            subst hu2
            rw [if_pos hnot] at hstep
            rw [hstep] at hend
            exact hend
      · rintro L' Γ' ⟨vs2, o62, hb2, rfl, rfl⟩
        refine ⟨vs2, some (T gr), o62, ?_, rfl, ?_⟩
        · rw [List.take_length, List.drop_length, List.nil_append] at hb2
          rw [htk, hpost]
          exact hb2
        · rw [List.take_length, htk]
    rintro L' Γ' ⟨vs', o5, o6, hb, rfl, rfl⟩
    rw [List.drop_length] at hb
    rw [← hb] at hend
    have hend : k (rkB gs (flF (gs.map Gau.nm) grs)) := hend
    refine sxh_rest (Γ' := [some (T (Oi.mk p .Rack dx fs1 ((⟨"_gauges", gs⟩, ()) : Fd (List Gau) × Unit))), some o, some (T (Tl.mk gs)), o3, none, o5, o6]) (.same (.same (.same (.same (.drop (.same (.same .nil))))))) ?_
    refine sxh_setnW (α := List (List Str)) (rα := inferInstance) (β := Fd (List Gau) × Unit) (fβ := inferInstance) (f := "_faults") (p := p) (dx := dx) (c := .Rack) (fs := fs1) (b := ((⟨"_gauges", gs⟩, ()) : Fd (List Gau) × Unit)) 0 hK hcl n2 rfl rfl (by show 1 < 1000; decide) (by show ("_faults" : Str) ∉ [("_gauges" : Str)]; decide +kernel) fun oF nF wF => ?_
    have hBo : (W.ownH F [(p, .ins (W.B.cl .Rack) dx fs1)] oF nF).B = bs K A := plusL_B.trans hB
    refine ev_callR hBo (ea_cons (α := List Str) (rα := inferInstance) (EvF.k (lookH_F wF (Γ' := [some (T (Rp.mk gs)), some o, some (T (Tl.mk gs)), o3, none, o5, o6]) (.ownI List.mem_cons_self (fun W' H' e m hH hf => rp_hden hT' W' H' e m hH hf) (.same (.same (.same (.same (.same (.same .nil))))))) (evF_methFr (α := Rp) (rα := inferInstance) hB (ev_var rfl (ownM_in rfl (by decide +kernel) (ea_nil ⟨gs, .inl rfl, hl, ?_⟩)))))))
    refine ea_varO rfl (ea_nil ⟨o, gs.map Gau.nm, grs, rfl, hts, by rw [List.length_map]; exact hl, hgl, ?_, ⟨_, rfl, fun fs2 => ⟨_, _, rfl, rfl, hend⟩⟩⟩)
    intro n hn
    obtain ⟨g, hg, rfl⟩ := List.mem_map.mp hn
    exact (hgo g hg).ok
def P_Rack_of : PT := fun rt xx ts => ∃ (o : G.Ty) (gs : List Gau) (grs : List Grp), ts = [T (Cv.mk .Rack), T gs, o] ∧ (o = T (Tl.mk grs) ∨ (grs = [] ∧ o = T Em.mk)) ∧ gs.length ≤ 100 ∧ (grs.flatMap Tl.xs).length ≤ 1000 ∧ (∀ g ∈ gs, NmOk g.nm) ∧ (∀ w ∈ grs.flatMap Tl.xs, NmOk w) ∧
  (match dupF (gs.map Gau.nm) with | some n => xx ⟨.DuplicateGauge, [("name", .s n)]⟩ | none => match badG (gs.map Gau.nm) [] (grs.flatMap Tl.xs) with | some (true, n) => xx ⟨.UnknownGauge, [("name", .s n)]⟩ | some (false, n) => xx ⟨.DuplicateGauge, [("name", .s n)]⟩ | none => rt (T (Rk.mk gs (flF (gs.map Gau.nm) grs))))
theorem ok_Rack_of (tx : Txt K mg A) : FnR P w K mg base (L2.CX P w) 6 A.f_Rack_of (spG (bs K A) P_Rack_of) ∧ FnR P w K mg base (L2.CX P w) 6 A.f_Rack_of (spDf (V.ref A.k_em_Rack_of) (spG (bs K A) P_Rack_of)) := by
  have G_Rack_init := ok_Rack_init (P := P) (w := w) (base := base) tx
  refine fnR_ofD tx.dd_Rack_of sc_Rack_of (len_ok (n := 3) fun rt xx ts hp => by obtain ⟨_, _, _, rfl, _⟩ := hp; rfl) (fun cdv Ar outer s H vs Q E hr h => ⟨_, (pss_one (ps_ret (pe_makeVSK K (i := 0) (E := WE (fun cls d _ H => E cls d H)) tx.m_Rack G_Rack_init (room hr) (passAt (takes_of rfl rfl rfl rfl)) rfl (Or.inl rfl) (pv 1) (pv 2)))),
      body_ok (N := ["cls", "gauges", "together"]) (fun W ts rt xx hB ho hw hp => ?_) h⟩)
  have hK : W.B.K = K := congrArg Bs.K hB
  obtain ⟨o, gs, grs, rfl, hts, hl, hgl, hgo, hwo, hend⟩ := hp
  show Sx W _ [some (T (Cv.mk .Rack)), some (T gs), some o] _
  refine sx_ret (α := Rk) (rα := inferInstance) (ev_makeVSK (α := Rk) (β := RkB) (γ := Gau) (rα := inferInstance) (rγ := inferInstance) (fun b : RkB => Rk.mk b.2.1.a b.1.a) (fun b => b = rkB b.2.1.a b.1.a) hB hK rfl rfl (hx_of hw) (fun W' H p dx fs b hB' m hH hf hg => rk_hden (rackT tx) W' H p dx fs b hB' m hH hf hg) (ev_var rfl (eo_var rfl ⟨by omega, o, gs, grs, rfl, rfl, hts, rackT tx, hl, hgl, hgo, hwo, ?_⟩)))
  cases h1 : dupF (gs.map Gau.nm) with
  | some n => rw [h1] at hend; exact hend
  | none =>
    rw [h1] at hend
    show (match badG (gs.map Gau.nm) [] (grs.flatMap Tl.xs) with | some (true, n) => _ | some (false, n) => _ | none => _)
    have hend : (match badG (gs.map Gau.nm) [] (grs.flatMap Tl.xs) with | some (true, n) => xx ⟨.UnknownGauge, [("name", .s n)]⟩ | some (false, n) => xx ⟨.DuplicateGauge, [("name", .s n)]⟩ | none => rt (T (Rk.mk gs (flF (gs.map Gau.nm) grs)))) := hend
    cases h2 : badG (gs.map Gau.nm) [] (grs.flatMap Tl.xs) with
    | none => rw [h2] at hend; exact ⟨rfl, hend⟩
    | some bn =>
      obtain ⟨b, n⟩ := bn
      rw [h2] at hend
      cases b with
      | true => exact hend
      | false => exact hend
def P_m_choices : PT := fun rt xx ts => ∃ (n : Int) (k : Int), ts = [T n, T k] ∧ ((0 ≤ n ∧ n ≤ 16) ∧ (0 ≤ k ∧ k ≤ 100) ∧ rt (T (chF n k.toNat)))
theorem pc_m_choices {rt : Ty → Prop} {xx : Xn → Prop} {n : Int} {k : Int} (h : (0 ≤ n ∧ n ≤ 16) ∧ (0 ≤ k ∧ k ≤ 100) ∧ rt (T (chF n k.toNat))) : P_m_choices rt xx [T n, T k] := ⟨_, _, rfl, h⟩
theorem ok_m_choices (tx : Txt K mg A) : FnR P w K mg base CX0 1 A.f_m_choices (spG (bs K A) P_m_choices) := by
  refine fnR_of tx.g_m_choices.d sc_m_choices (len_ok (n := 2) fun rt xx ts hp => by obtain ⟨_, _, rfl, _⟩ := hp; rfl) (fun cdv Ar outer s H vs Q E hr h => ⟨_, (pss_cons (ps_set (i := 2) sc_m_choices.nd rfl (Or.inl rfl) (pe_lst (pa_cons (pe_lst pa_nil) pa_nil)))
        (pss_cons (ps_for PassesOwn.never rfl (pi_range1 (by rfl) tx.z_range (pa_cons (pv 1) pa_nil)) (pg_name (i := 3) sc_m_choices.nd rfl (Or.inl rfl)) (pss_one (ps_setLc2 (i := 2) (own := [("row", 4), ("at", 5)]) (vs1 := [5]) rfl sc_m_choices.nd rfl rfl (sw_true rfl rfl rfl (by decide +kernel)) (pi_listK K (pv 2)) (blkOk_by (N := ["many", "size", "rows", "_", "row", "at"]) (sc := defScope s_m_choices) (by decide +kernel)) (by decide) (fun _ _ _ _ _ => (pg_name (i := 4) sc_m_choices.nd rfl (Or.inl rfl))) (fun _ _ _ _ _ => pts_nil) (fun _ _ _ _ _ => (pi_range2 (by rfl) tx.z_range (pa_cons (pe_ifExp (pt_truthK K (pv 4) (fun _ => rfl)) (pe_op op_add (pe_ix (ix_listK K) (pv 4) (pe_un un_neg pe_int) (fun _ _ => rfl)) pe_int) pe_int) (pa_cons (pv 0) pa_nil)))) (fun _ _ _ _ _ => (pg_name (i := 5) sc_m_choices.nd rfl (Or.inl rfl))) (fun _ _ _ _ _ => pts_nil) (fun _ _ _ _ _ => (pe_lst (pa_starK K (pv 4) (pa_cons (pv 5) pa_nil)))))))
        (pss_one (ps_ret (pv 2))))),
      body_ok (N := ["many", "size", "rows", "_", "row", "at"]) (fun W ts rt xx hB ho hw hp => ?_) h⟩)
  have hK : W.B.K = K := congrArg Bs.K hB
  obtain ⟨n, k, rfl, hp⟩ := hp
  show Sx W _ [some (T n), some (T k), none, none, none, none] _
  obtain ⟨⟨n0, n1⟩, ⟨k0, k1⟩, hp⟩ := hp
  have h16 : ∀ j, (chF n j).length ≤ 100000 := fun j => Nat.le_trans (ch_len n j) (Nat.le_trans (Nat.pow_le_pow_right (by decide) (show n.toNat ≤ 16 by omega)) (by decide))
  refine sx_seq (sx_set (α := List (List Int)) (rα := inferInstance) (ev_lst (el_cons (ev_lst (α := Int) (rα := inferInstance) (el_nil ⟨by decide, el_nil ⟨by show 1 ≤ 100000; decide, ?_⟩⟩)))))
  show Sx W _ [some (T n), some (T k), some (T (chF n 0)), none, none, none] _
  refine sx_seq (sx_forR (ev_var rfl ⟨⟨by omega, by omega⟩, fun i Γ' => ∃ o3 o4 o5 : Option G.Ty, Γ' = [some (T n), some (T k), some (T (chF n i)), o3, o4, o5], ⟨_, _, _, rfl⟩, ?_, ?_⟩))
  · rintro i Γ' hi ⟨o3, o4, o5, rfl⟩
    refine tg_name ?_
    refine sx_set (α := List (List Int)) (rα := inferInstance) (evF_lc2G (α := List Int) (β := Int) (γ := List Int) (rα := inferInstance) (rβ := inferInstance) (rγ := inferInstance) (fun row => (List.range (n - chS row).toNat).map fun j : Nat => row ++ [chS row + (j : Int)]) (ei_list hK (ev_var rfl ⟨h16 (i + 1), fun W' sb row hrow => ?_, ⟨_, _, _, rfl⟩⟩))).k
    have q := ch_row hrow
    have q5 := q.st
    have hK' : W'.B.K = K := (congrArg Bs.K sb.B).trans hK
    have hs : chS row ≤ n := by
      unfold chS
      cases e : row.getLast? with
      | none => exact n0
      | some x =>
        have := q.hi x (List.mem_of_getLast? e)
        show x + 1 ≤ n
        omega
    have lb : ∀ Γ1 : Gam, Γ1[4]? = some (some (T row)) → EvK W' (tIf (fun σ H Q => tVar 4 σ H fun x H' => ∃ k, TruV K x H' k ∧ Q k H') (tOp (rI0 fun i j => V.int (i + j)) (tOp (rIxL K) (tVar 4) (tUn (rU fun i => V.int (-i)) (tC (V.int 1)))) (tC (V.int 1))) (tC (V.int 0))) Γ1 fun a : Int => a = chS row := fun Γ1 h4 => by
      refine ev_if (et_truthL (α := Int) (rα := inferInstance) hK' (ev_var h4 ⟨fun h => ?_, fun h => ?_⟩))
      · obtain ⟨x, hx⟩ : ∃ x, row.getLast? = some x := by
          cases e : row.getLast? with
          | none => rw [List.getLast?_eq_none_iff.mp e] at h; cases h
          | some x => exact ⟨x, rfl⟩
        refine ev_opI (ev_ixL (α := Int) (rα := inferInstance) hK' (ev_var h4 (ev_unI (ev_int ⟨x, atI_last1 hx, ev_int ?_⟩))))
        unfold chS
        rw [hx]
      · have e : row = [] := by simpa using h
        refine ev_int ?_
        rw [e]
        rfl
    refine ⟨[4], rfl, tj_name (et_yes ⟨fun h => (nomatch h), fun _ => ei_rng2 ((lb _ rfl).imp fun a e => ?_)⟩)⟩
    subst e
    refine ev_var rfl ⟨⟨⟨by omega, by omega⟩, by omega, by omega⟩, fun _ => true, fun x => row ++ [x], ?_, fun W2 sb2 x hx => ⟨[5], rfl, tj_name (et_yes ⟨rfl, fun _ => ?_⟩)⟩⟩
    · rw [List.filter_eq_self.mpr fun _ _ => rfl, List.map_map]
      rfl
    · have hK2 : W2.B.K = K := (congrArg Bs.K sb2.B).trans hK
      have hrl := q.len
      refine ev_lst (el_star hK2 (ev_var rfl (el_cons (ev_var rfl (el_nil ⟨?_, rfl⟩)))))
      rw [List.length_append, hrl]
      show i + 1 ≤ 100000
      omega
  · rintro Γ' ⟨o3, o4, o5, rfl⟩
    exact sx_ret (α := List (List Int)) (rα := inferInstance) (ev_var rfl hp)
/-- the names of the faults at these positions -/
def pkF (fl : List (List Str)) (row : List Int) : List Str := row.flatMap fun x => (atI fl x).getD []
def lotF (ws : List Str) (fl : List (List Str)) (row : List Int) : List Str := ws.filter fun w => decide (w ∈ pkF fl row)
theorem atI_mem {α : Type} {xs : List α} {i : Int} {a : α} (h : atI xs i = some a) : a ∈ xs := by
  unfold atI at h
  obtain ⟨j, _, hj⟩ := Option.bind_eq_some_iff.mp h
  exact List.mem_of_getElem? hj
theorem pk_len {fl : List (List Str)} (h : ∀ f ∈ fl, f.length ≤ 1000) : ∀ row : List Int, (pkF fl row).length ≤ 1000 * row.length
  | [] => Nat.le_refl _
  | x :: r => by
    have e : pkF fl (x :: r) = (atI fl x).getD [] ++ pkF fl r := rfl
    rw [e, List.length_append, List.length_cons]
    have := pk_len h r
    have h2 : ((atI fl x).getD []).length ≤ 1000 := by
      cases q : atI fl x with
      | none => exact Nat.zero_le _
      | some f => exact h f (atI_mem q)
    omega
def P_m_liar_lots : GN.PGT := fun ts ls => ∃ (gs : List Gau) (fl : List (List Str)) (k : Int), ts = [T (Rk.mk gs fl), T k] ∧ ((gs.length ≤ 100 ∧ fl.length ≤ 16 ∧ (0 ≤ k ∧ k ≤ 100) ∧ (∀ f ∈ fl, f.length ≤ 1000)) ∧ ls = (chF (fl.length : Int) k.toNat).map (lotF (gs.map Gau.nm) fl))
theorem pc_m_liar_lots {ls : List (List Str)} {gs : List Gau} {fl : List (List Str)} {k : Int} (h : (gs.length ≤ 100 ∧ fl.length ≤ 16 ∧ (0 ≤ k ∧ k ≤ 100) ∧ (∀ f ∈ fl, f.length ≤ 1000)) ∧ ls = (chF (fl.length : Int) k.toNat).map (lotF (gs.map Gau.nm) fl)) : P_m_liar_lots [T (Rk.mk gs fl), T k] ls := ⟨_, _, _, rfl, h⟩
theorem ok_m_liar_lots (tx : Txt K mg A) : ∃ fd, GN.GFnX P w K mg base 2 A.f_m_liar_lots fd ["rack", "liars"] (GN.spGX (bs K A) P_m_liar_lots) ∧ Binds K fd ["rack", "liars"] [] := by
  have G_Rack_names := ok_Rack_names (P := P) (w := w) (base := base) tx
  have G_Rack_faults := ok_Rack_faults (P := P) (w := w) (base := base) tx
  have G_m_choices := ok_m_choices (P := P) (w := w) (base := base) tx
  refine GN.gfnx_at tx.g_m_liar_lots.d sc_m_liar_lots (GN.glen_ok (n := 2) fun ts ls hp => by obtain ⟨_, _, _, rfl, _⟩ := hp; rfl) (fun cdv Ar outer s H vs N Item Q pn hr h => ?_)
  obtain ⟨ts, ls, dt, hp, rfl, rfl, rfl⟩ := h
  refine ⟨_, (GN.gssx_cons (GN.gsx_ps (fun _ _ => (ps_set (i := 2) sc_m_liar_lots.nd rfl (Or.inl rfl) (pe_methZ0 (E := fun _ => E0) (pv 0) (tx.cl_Rack) (tx.m_Rack_names) G_Rack_names (room hr) passS0))))
        (GN.gssx_cons (GN.gsx_ps (fun _ _ => (ps_set (i := 3) sc_m_liar_lots.nd rfl (Or.inr rfl) (pe_methZ0 (E := fun _ => E0) (pv 0) (tx.cl_Rack) (tx.m_Rack_faults) G_Rack_faults (room hr) passS0))))
        (GN.gssx_cons (GN.gsx_for PassesOwn.never rfl (fun _ _ => (pi_listK K (pe_callR G_m_choices (room hr) rfl (tx.g_m_choices).g (tx.g_m_choices).kp pass0 (pa_cons (pe_callB (call_lenK K) (by rfl) tx.z_len PySem.boot_len (pa_cons (pv 3) pa_nil)) (pa_cons (pv 1) pa_nil))))) (fun _ _ => (pg_name (i := 4) sc_m_liar_lots.nd rfl (Or.inl rfl))) (GN.gssx_cons (GN.gsx_ps (fun _ _ => (ps_set (i := 5) sc_m_liar_lots.nd rfl (Or.inr rfl) (pe_lc2 (own := [("at", 6), ("name", 7)]) (vs1 := [7]) rfl sc_m_liar_lots.nd (pi_listK K (pv 4)) (blkOk_by (N := ["rack", "liars", "names", "faults", "choice", "lying", "at", "name"]) (sc := defScope s_m_liar_lots) (by decide +kernel)) (by decide) (fun _ _ _ _ _ => (pg_name (i := 6) sc_m_liar_lots.nd rfl (Or.inl rfl))) (fun _ _ _ _ _ => pts_nil) (fun _ _ _ _ _ => (pi_listK K (pe_ix (ix_listK K) (pv 3) (pv 6) (fun _ _ => rfl)))) (fun _ _ _ _ _ => (pg_name (i := 7) sc_m_liar_lots.nd rfl (Or.inl rfl))) (fun _ _ _ _ _ => pts_nil) (fun _ _ _ _ _ => (pv 7))))))
        (GN.gssx_cons (GN.gsx_yield (fun _ _ => (pe_lc (own := [("name", 7)]) rfl sc_m_liar_lots.nd (pi_listK K (pv 2)) (blkOk_by (N := ["rack", "liars", "names", "faults", "choice", "lying", "at", "name"]) (sc := defScope s_m_liar_lots) (by decide +kernel)) (fun _ _ _ _ _ => (pg_name (i := 7) sc_m_liar_lots.nd rfl (Or.inl rfl))) (fun _ _ _ _ _ => (pts_one (pt_cmpR (op_inSeqK K) (pv 7) (pv 5) rfl))) (fun _ _ _ _ _ => (pv 7)))))
        GN.gssx_nil)))
        GN.gssx_nil))),
      GN.gbody_ok (Ns := ["rack", "liars", "names", "faults", "choice", "lying", "at", "name"]) dt fun W hB fr => ?_⟩
  have hK : W.B.K = K := congrArg Bs.K hB
  obtain ⟨gs, fl, k, rfl, hp⟩ := hp
  show GN.SxG W H _ 0 [some (T (Rk.mk gs fl)), some (T k), none, none, none, none, none, none] _
  obtain ⟨⟨hgs, hfl, ⟨k0, k1⟩, hf1⟩, rfl⟩ := hp
  have h16 : (chF (fl.length : Int) k.toNat).length ≤ 65536 := Nat.le_trans (ch_len _ _) (Nat.le_trans (Nat.pow_le_pow_right (by decide) (show (fl.length : Int).toNat ≤ 16 by omega)) (by decide))
  refine GN.sxg_then (GN.sxg_plain fr (sx_set (α := List Str) (rα := inferInstance) (EvF.k (evF_methFr (α := Rk) hB (ev_var rfl (ownM_in rfl (by decide +kernel) (ea_nil ⟨gs, .inr ⟨fl, rfl⟩, hgs, ?_⟩)))))))
  show GN.SxG W H _ 0 [some (T (Rk.mk gs fl)), some (T k), some (T (gs.map Gau.nm)), none, none, none, none, none] _
  refine GN.sxg_then (GN.sxg_plain fr (sx_set (α := List (List Str)) (rα := inferInstance) (ev_methZ (α := List (List Str)) (β := Rk) (rα := inferInstance) (rβ := inferInstance) hB hx0 (ev_var rfl (ownM_in rfl (by decide +kernel) (ea_nil (pc_Rack_faults ⟨by omega, _, rfl, ?_⟩)))))))
  show GN.SxG W H _ 0 [some (T (Rk.mk gs fl)), some (T k), some (T (gs.map Gau.nm)), some (T fl), none, none, none, none] _
  refine GN.sxg_then (GN.sxg_forL (α := List Int) (rα := inferInstance) fr hK (ev_callR hB (ea_cons (ev_len (α := List Str) (rα := inferInstance) hK (ev_var rfl (ea_cons (ev_var rfl (ea_nil (pc_m_choices ⟨⟨by omega, by omega⟩, ⟨k0, k1⟩, _, rfl, ?_⟩)))))))))
  refine ⟨fun i m Γ' => m = i ∧ ∃ o4 o5 o6 o7 : Option G.Ty, Γ' = [some (T (Rk.mk gs fl)), some (T k), some (T (gs.map Gau.nm)), some (T fl), o4, o5, o6, o7], ⟨rfl, _, _, _, _, rfl⟩, ?_, ?_⟩
  · rintro i row m Γ' hrow ⟨rfl, o4, o5, o6, o7, rfl⟩
    have hmem := List.mem_of_getElem? hrow
    have q := ch_row hmem
    have hrl := q.len
    have hil : m < (chF (fl.length : Int) k.toNat).length := (List.getElem?_eq_some_iff.mp hrow).1
    have hpl := pk_len hf1 row
    have hbig : (pkF fl row).length ≤ 100000 := by omega
    refine tg_name ?_
    refine GN.sxg_then (GN.sxg_plain fr (sx_set (α := List Str) (rα := inferInstance) (evF_lc2G (α := Int) (β := Str) (γ := Str) (rα := inferInstance) (rβ := inferInstance) (rγ := inferInstance) (fun x => (atI fl x).getD []) (ei_list hK (ev_var rfl ⟨hbig, fun W' sb x hx => ?_, ?_⟩))).k))
    · have hK' : W'.B.K = K := (congrArg Bs.K sb.B).trans hK
      have hx0 := q.lo x hx
      have hx1 := q.hi x hx
      obtain ⟨f, hf⟩ : ∃ f, atI fl x = some f := by
        obtain ⟨m', rfl⟩ : ∃ m' : Nat, x = (m' : Int) := ⟨x.toNat, by omega⟩
        have hm : m' < fl.length := by omega
        exact ⟨fl[m'], atI_nat (List.getElem?_eq_getElem hm)⟩
      refine ⟨[6], rfl, tj_name (et_yes ⟨fun h => (nomatch h), fun _ => ei_list hK' (ev_ixL (α := List Str) (rα := inferInstance) hK' (ev_var rfl (ev_var rfl ⟨f, hf, fun _ => true, fun w => w, ?_, fun W2 sb2 w hw => ⟨[7], rfl, tj_name (et_yes ⟨rfl, fun _ => ev_var rfl rfl⟩)⟩⟩)))⟩)⟩
      rw [List.filter_eq_self.mpr fun _ _ => rfl, List.map_id', hf]
      rfl
    show GN.SxG W H _ m [some (T (Rk.mk gs fl)), some (T k), some (T (gs.map Gau.nm)), some (T fl), some (T row), some (T (pkF fl row)), o6, o7] _
    refine GN.sxg_then (GN.sxg_yield fr (by rw [List.length_map]; exact hil) (evF_lcF (α := Str) (β := Str) (fun w => decide (w ∈ pkF fl row)) (fun w => w) hK (ev_var rfl ⟨by rw [List.length_map]; omega, fun W' sb w hw => ⟨[7], rfl, tj_name (et_test (ev_inS (congrArg Bs.K (sb.B.trans hB)) (ev_var rfl (ev_var rfl ⟨fun h => ev_var rfl ⟨h, rfl⟩, fun h => h⟩))))⟩, ?_, ?_⟩)))
    · rw [List.getElem?_map, hrow, List.map_id']
      rfl
    exact GN.sxg_nil ⟨rfl, _, _, _, _, rfl⟩
  · rintro m Γ' ⟨rfl, o4, o5, o6, o7, rfl⟩
    refine GN.sxg_nil ?_
    rw [List.length_map]
def P_groups : PT := fun rt xx ts => ∃ (ws : List Str), ts = [T Bx.mk, T ws] ∧ (ws.length ≤ 100 ∧ ws.Nodup ∧ ∀ gs : List Grp, GrOk ws gs → gs.length = 2 → rt (T (Tl.mk gs)))
theorem pc_groups {rt : Ty → Prop} {xx : Xn → Prop} {ws : List Str} (h : ws.length ≤ 100 ∧ ws.Nodup ∧ ∀ gs : List Grp, GrOk ws gs → gs.length = 2 → rt (T (Tl.mk gs))) : P_groups rt xx [T Bx.mk, T ws] := ⟨_, rfl, h⟩
theorem ok_groups (tx : Txt K mg A) : FnR P w K mg base CX0 2 A.f_groups (spG (bs K A) P_groups) := by
  have G_take := ok_take (P := P) (w := w) (base := base) tx
  refine fnR_of tx.g_groups.d sc_groups (len_ok (n := 2) fun rt xx ts hp => by obtain ⟨_, rfl, _⟩ := hp; rfl) (fun cdv Ar outer s H vs Q E hr h => ⟨_, (pss_cons (ps_set (i := 2) sc_groups.nd rfl (Or.inr rfl) (pe_lc (own := [("_law_word_here", 3)]) rfl sc_groups.nd (pi_listK K (pv 1)) (blkOk_by (N := ["_law_box_here", "_law_words_here", "_law_marks", "_law_word_here", "_law_groups_here", "_law_mark", "_law_group", "_law_k"]) (sc := defScope s_groups) (by decide +kernel)) (fun _ _ _ _ _ => (pg_name (i := 3) sc_groups.nd rfl (Or.inl rfl))) (fun _ _ _ _ _ => pts_nil) (fun _ _ _ _ _ => (pe_callR G_take (room hr) rfl (tx.g_take).g (tx.g_take).kp pass0 (pa_cons (pv 0) (pa_cons pe_int pa_nil))))))
        (pss_cons (ps_set (i := 4) sc_groups.nd rfl (Or.inl rfl) (pe_lst pa_nil))
        (pss_cons (ps_for PassesOwn.never rfl (pi_range1 (by rfl) tx.z_range (pa_cons pe_int pa_nil)) (pg_name (i := 5) sc_groups.nd rfl (Or.inr rfl)) (pss_cons (ps_setLc (i := 6) (own := [("_law_k", 7)]) rfl sc_groups.nd rfl rfl (sw_true rfl rfl rfl (by decide +kernel)) (pi_range1 (by rfl) tx.z_range (pa_cons (pe_callB (call_lenK K) (by rfl) tx.z_len PySem.boot_len (pa_cons (pv 1) pa_nil)) pa_nil)) (blkOk_by (N := ["_law_box_here", "_law_words_here", "_law_marks", "_law_word_here", "_law_groups_here", "_law_mark", "_law_group", "_law_k"]) (sc := defScope s_groups) (by decide +kernel)) (fun _ _ _ _ _ => (pg_name (i := 7) sc_groups.nd rfl (Or.inl rfl))) (fun _ _ _ _ _ => (pts_one (pt_cmpR (op_eqDK K (huD hr)) (pe_ix (ix_listK K) (pv 2) (pv 7) (fun _ _ => rfl)) (pv 5) (nomark _)))) (fun _ _ _ _ _ => (pe_ix (ix_listK K) (pv 1) (pv 7) (fun _ _ => rfl))))
        (pss_cons (ps_if (pt_cmpR (op_eqDK K (huD hr)) (pe_callR G_take (room hr) rfl (tx.g_take).g (tx.g_take).kp pass0 (pa_cons (pv 0) (pa_cons pe_int pa_nil))) pe_int (nomark _)) (pss_one (ps_set (i := 6) sc_groups.nd rfl (Or.inl rfl) (pe_revLK K (pv 6)))) pss_nil)
        (pss_one (ps_expr (pe_appendK K (pv 4) (pa_cons (pe_tupleOfK K (by rfl) tx.z_tuple (pv 6)) pa_nil)))))))
        (pss_one (ps_ret (pe_tupleOfK K (by rfl) tx.z_tuple (pv 4))))))),
      body_ok (N := ["_law_box_here", "_law_words_here", "_law_marks", "_law_word_here", "_law_groups_here", "_law_mark", "_law_group", "_law_k"]) (fun W ts rt xx hB ho hw hp => ?_) h⟩)
  have hK : W.B.K = K := congrArg Bs.K hB
  obtain ⟨ws, rfl, hp⟩ := hp
  show Sx W _ [some (T Bx.mk), some (T ws), none, none, none, none, none, none] _
  obtain ⟨hl, nd, hp⟩ := hp
  refine sx_seq (sx_set (α := List Int) (rα := inferInstance) (ev_lc (α := Str) (β := Int) (rα := inferInstance) (rβ := inferInstance) hK (ev_var rfl ⟨by omega, fun i zs => zs.length = i, rfl, fun W' sb i w zs hw hb => ⟨[3], rfl, ?_⟩, fun ms hms => ?_⟩)))
  · apply tj_name
    refine et_yes ⟨fun _ => ?_, fun h => (nomatch h)⟩
    refine ev_callR (sb.B.trans hB) (ea_cons (ev_var rfl (ea_cons (ev_int (ea_nil (pc_take ⟨by decide, by decide, fun z z0 z1 => ⟨_, rfl, ?_⟩⟩))))))
    have hb : zs.length = i := hb
    show (zs ++ [z]).length = i + 1
    rw [List.length_append, hb]
    rfl
  show Sx W _ [some (T Bx.mk), some (T ws), some (T ms), none, none, none, none, none] _
  refine sx_own fun F => ?_
  refine sxm_seq (sxm_new (β := Grp) (rβ := inferInstance) fun Wo hW => evF_lst (el_nil (α := Grp) (rα := inferInstance) ⟨by decide, fun p vs => ?_⟩))
  show SxM W F _ [(p, vs)] [some (T Bx.mk), some (T ws), some (T ms), none, some (T (Ol.mk p vs ([] : List Grp))), none, none, none] _
  refine sxm_seq (sxm_forR fun Wo hW => ev_int ⟨by decide, fun i L' Γ' => ∃ (vs' : List V) (as : List Grp) (o5 o6 o7 : Option G.Ty), L' = [(p, vs')] ∧ as.length = i ∧ (∀ (j : Nat) (g : Grp), as[j]? = some g → g.xs.Perm (grpM ws ms (j : Int))) ∧ Γ' = [some (T Bx.mk), some (T ws), some (T ms), none, some (T (Ol.mk p vs' as)), o5, o6, o7], ⟨vs, [], none, none, none, rfl, rfl, fun j g h => by simp at h, rfl⟩, ?_, ?_⟩)
  · rintro i L' Γ' hi ⟨vs', as, o5, o6, o7, rfl, al, ap, rfl⟩ Wo' hW'
    have hi' : i < 2 := hi
    refine ⟨[5], tj_name ?_⟩
    show SxM W F _ [(p, vs')] [some (T Bx.mk), some (T ws), some (T ms), none, some (T (Ol.mk p vs' as)), some (T (i : Int)), o6, o7] _
    refine sxm_seq (sxm_pure fun Wo3 hW3 => ?_)
    have hB3 : Wo3.B = bs K A := hW3.B.trans hB
    have hK3 : Wo3.B.K = K := congrArg Bs.K hB3
    refine sx_set (α := List Str) (rα := inferInstance) (EvF.k (evF_lcR (ev_len hK3 (ev_var rfl ⟨by omega, by omega, fun k (ys : List Str) => ys = (((ws.zip ms).take k).filter fun q => decide (q.2 = (i : Int))).map (·.1), rfl, fun W' sb k ys hk hb => ⟨[7], rfl, ?_⟩, fun ys hb => ?_⟩))))
    · have hB' : W'.B = bs K A := sb.B.trans hB3
      have hK' : W'.B.K = K := congrArg Bs.K hB'
      have hk' : k < ws.length := by omega
      obtain ⟨w, h1⟩ : ∃ w, ws[k]? = some w := ⟨ws[k], List.getElem?_eq_getElem hk'⟩
      obtain ⟨m, h2⟩ : ∃ m, ms[k]? = some m := ⟨ms[k]'(by omega), List.getElem?_eq_getElem (by omega)⟩
      have hz := zip_take_filt h1 h2 (i : Int)
      apply tj_name
      apply et_test
      refine ev_eqG hK' (ev_ixL (α := Int) (rα := inferInstance) hK' (ev_var rfl (ev_var rfl ⟨m, atI_nat h2, ev_var rfl (eqg_in (by decide) trivial trivial ⟨fun h => ?_, fun h => ?_⟩)⟩)))
      · refine ev_ixL (α := Str) (rα := inferInstance) hK' (ev_var rfl (ev_var rfl ⟨w, atI_nat h1, ?_⟩))
        show ys ++ [w] = _
        rw [hz, if_pos (of_decide_eq_true h), hb]
      · show ys = _
        rw [hz, if_neg (of_decide_eq_false h), hb, List.append_nil]
    have hys : ys = grpM ws ms (i : Int) := by
      rw [hb]
      unfold grpM
      rw [List.take_of_length_le (by rw [List.length_zip]; omega)]
    subst hys
    show SxM W F _ [(p, vs')] [some (T Bx.mk), some (T ws), some (T ms), none, some (T (Ol.mk p vs' as)), some (T (i : Int)), some (T (grpM ws ms (i : Int))), o7] _
    refine sxm_seqI (fun L Γ => ∃ ys : List Str, ys.Perm (grpM ws ms (i : Int)) ∧ L = [(p, vs')] ∧ Γ = [some (T Bx.mk), some (T ws), some (T ms), none, some (T (Ol.mk p vs' as)), some (T (i : Int)), some (T ys), o7]) (sxm_pure fun Wo4 hW4 => ?_) ?_
    · have hB4 : Wo4.B = bs K A := hW4.B.trans hB
      have hK4 : Wo4.B.K = K := congrArg Bs.K hB4
      refine sx_if (et_test (ev_eqG hK4 (ev_callR hB4 (ea_cons (ev_var rfl (ea_cons (ev_int (ea_nil (pc_take ⟨by decide, by decide, fun z z0 z1 => ⟨_, rfl, ev_int (eqg_in (by decide) trivial trivial ⟨fun h => ?_, fun h => ?_⟩)⟩⟩)))))))))
      · refine sx_set (α := List Str) (rα := inferInstance) (ev_revL hK4 (ev_var rfl ⟨_, List.reverse_perm _, rfl, rfl⟩))
      · exact sx_next ⟨_, List.Perm.refl _, rfl, rfl⟩
    rintro L Γ ⟨ys, hperm, rfl, rfl⟩
    refine sxm_append (α := Grp) (rα := inferInstance) 0 rfl rfl fun Wo5 hW5 => ev_tupL (congrArg Bs.K (hW5.B.trans hB)) (ev_var rfl ⟨by omega, fun v => ⟨vs' ++ [v], as ++ [⟨ys⟩], some (T (i : Int)), some (T ys), o7, rfl, by rw [List.length_append, al]; rfl, fun j g hj => ?_, rfl⟩⟩)
    rcases Nat.lt_trichotomy j as.length with h | h | h
    · rw [List.getElem?_append_left h] at hj
      exact ap j g hj
    · subst h
      rw [List.getElem?_append_right (Nat.le_refl _), Nat.sub_self] at hj
      cases hj
      rw [al]
      exact hperm
    · rw [List.getElem?_eq_none (by rw [List.length_append, List.length_singleton]; omega)] at hj
      cases hj
  · rintro L' Γ' ⟨vs', as, o5, o6, o7, rfl, al, ap, rfl⟩
    have al : as.length = 2 := al
    obtain ⟨g0, g1, rfl⟩ := len2 al
    refine sxm_freeze (Γ' := [some (T Bx.mk), some (T ws), some (T ms), none, some (T [g0, g1]), o5, o6, o7]) (by walk_at "frz") (sxm_pure fun Wo5 hW5 => ?_)
    exact sx_ret (α := Tl Grp) (rα := inferInstance) (ev_tupL (congrArg Bs.K (hW5.B.trans hB)) (ev_var rfl (hp _ (grok_of nd (ap 0 g0 rfl) (ap 1 g1 rfl)) rfl)))
def P_faults : PT := fun rt xx ts => ∃ (ws : List Str) (gs : List Grp), ts = [T ws, T (Tl.mk gs)] ∧ (ws.length ≤ 100 ∧ ws.Nodup ∧ GrOk ws gs ∧ (∀ w ∈ ws, PyData.strOk w = true) ∧ rt (T (flF ws gs)))
theorem pc_faults {rt : Ty → Prop} {xx : Xn → Prop} {ws : List Str} {gs : List Grp} (h : ws.length ≤ 100 ∧ ws.Nodup ∧ GrOk ws gs ∧ (∀ w ∈ ws, PyData.strOk w = true) ∧ rt (T (flF ws gs))) : P_faults rt xx [T ws, T (Tl.mk gs)] := ⟨_, _, rfl, h⟩
theorem ok_faults (tx : Txt K mg A) : FnR P w K mg base CX0 1 A.f_faults (spG (bs K A) P_faults) := by
  refine fnR_of tx.g_faults.d sc_faults (len_ok (n := 2) fun rt xx ts hp => by obtain ⟨_, _, rfl, _⟩ := hp; rfl) (fun cdv Ar outer s H vs Q E hr h => ⟨_, (pss_cons (ps_set (i := 2) sc_faults.nd rfl (Or.inl rfl) (pe_lst pa_nil))
        (pss_cons (ps_for PassesOwn.never rfl (pi_listK K (pv 0)) (pg_name (i := 3) sc_faults.nd rfl (Or.inl rfl)) (pss_cons (ps_set (i := 4) sc_faults.nd rfl (Or.inl rfl) (pe_lst (pa_cons (pv 3) pa_nil)))
        (pss_cons (ps_for PassesOwn.never rfl (pi_tupK K (pv 1)) (pg_name (i := 5) sc_faults.nd rfl (Or.inr rfl)) (pss_one (ps_if (pt_cmpR (op_inSeqK K) (pv 3) (pv 5) rfl) (pss_one (ps_setLc (i := 4) (own := [("_law_other", 6)]) rfl sc_faults.nd rfl rfl (sw_true rfl rfl rfl (by decide +kernel)) (pi_listK K (pv 0)) (blkOk_by (N := ["_law_words_here", "_law_groups_here", "_law_found", "_law_word_here", "_law_mine", "_law_group", "_law_other"]) (sc := defScope s_faults) (by decide +kernel)) (fun _ _ _ _ _ => (pg_name (i := 6) sc_faults.nd rfl (Or.inl rfl))) (fun _ _ _ _ _ => (pts_one (pt_cmpR (op_inSeqK K) (pv 6) (pv 5) rfl))) (fun _ _ _ _ _ => (pv 6)))) pss_nil)))
        (pss_one (ps_if (pt_cmpR (op_notInDK K (huE hr)) (pv 4) (pv 2) rfl) (pss_one (ps_expr (pe_appendK K (pv 2) (pa_cons (pv 4) pa_nil)))) pss_nil)))))
        (pss_one (ps_ret (pv 2))))),
      body_ok (N := ["_law_words_here", "_law_groups_here", "_law_found", "_law_word_here", "_law_mine", "_law_group", "_law_other"]) (fun W ts rt xx hB ho hw hp => ?_) h⟩)
  have hK : W.B.K = K := congrArg Bs.K hB
  obtain ⟨ws, gs, rfl, hp⟩ := hp
  show Sx W _ [some (T ws), some (T (Tl.mk gs)), none, none, none, none, none] _
  obtain ⟨hl, nd, go, hok, hp⟩ := hp
  refine sx_own fun F => ?_
  refine sxm_seq (sxm_new (β := List Str) (rβ := inferInstance) fun Wo hW => evF_lst (el_nil (α := List Str) (rα := inferInstance) ⟨by decide, fun p vs => ?_⟩))
  show SxM W F _ [(p, vs)] [some (T ws), some (T (Tl.mk gs)), some (T (Ol.mk p vs ([] : List (List Str)))), none, none, none, none] _
  refine sxm_seq (sxm_forL (α := Str) (rα := inferInstance) hK fun Wo hW => ev_var rfl ⟨fun i L' Γ' => ∃ (vs' : List V) (o3 o4 o5 o6 : Option G.Ty), L' = [(p, vs')] ∧ Γ' = [some (T ws), some (T (Tl.mk gs)), some (T (Ol.mk p vs' (((ws.take i).filter (keepD (grpD gs) ws)).map (fltD (grpD gs) ws)))), o3, o4, o5, o6], ⟨vs, none, none, none, none, rfl, rfl⟩, ?_, ?_, ?_⟩)
  · rintro i L' Γ' ⟨vs', o3, o4, o5, o6, rfl, rfl⟩
    rfl
  · rintro i w L' Γ' hw ⟨vs', o3, o4, o5, o6, rfl, rfl⟩ Wo' hW'
    have hm : w ∈ ws := List.mem_of_getElem? hw
    have hilt : i < ws.length := (List.getElem?_eq_some_iff.mp hw).1
    have hstep := flD_take (ds := grpD gs) hw
    have hfs := found_step nd go.nd hw
    refine ⟨[3], tj_name ?_⟩
    show SxM W F _ [(p, vs')] [some (T ws), some (T (Tl.mk gs)), some (T (Ol.mk p vs' (((ws.take i).filter (keepD (grpD gs) ws)).map (fltD (grpD gs) ws)))), some (T w), o4, o5, o6] _
    generalize hfd : ((ws.take i).filter (keepD (grpD gs) ws)).map (fltD (grpD gs) ws) = fd at hstep hfs ⊢
    have hfdl : fd.length ≤ 100 := by
      rw [← hfd, List.length_map]
      have := List.length_filter_le (keepD (grpD gs) ws) (ws.take i)
      rw [List.length_take] at this
      omega
    have hfdm : ∀ f ∈ fd, ∀ n ∈ f, n ∈ ws := fun f hf n hn => by
      rw [← hfd] at hf
      obtain ⟨u, _, rfl⟩ := List.mem_map.mp hf
      exact (List.mem_filter.mp hn).1
    refine sxm_seq (sxm_pure fun Wo3 hW3 => sx_set (α := List Str) (rα := inferInstance) (ev_lst (α := Str) (rα := inferInstance) (el_cons (ev_var rfl (el_nil ⟨by show 1 ≤ 100000; decide, ?_⟩)))))
    show SxM W F _ [(p, vs')] [some (T ws), some (T (Tl.mk gs)), some (T (Ol.mk p vs' fd)), some (T w), some (T [w]), o5, o6] _
    refine sxm_seqI (fun L Γ => ∃ o5 o6, L = [(p, vs')] ∧ Γ = [some (T ws), some (T (Tl.mk gs)), some (T (Ol.mk p vs' fd)), some (T w), some (T (fltD (grpD gs) ws w)), o5, o6]) (sxm_pure fun Wo4 hW4 => ?_) ?_
    · have hB4 : Wo4.B = bs K A := hW4.B.trans hB
      have hK4 : Wo4.B.K = K := congrArg Bs.K hB4
      refine sx_forI (α := Grp) (rα := inferInstance) (ei_tup hK4 (ev_var rfl ⟨fun j Γ' => ∃ (mine : List Str) (o5 o6 : Option G.Ty), (((∀ g ∈ gs.take j, w ∉ g.xs) ∧ mine = [w]) ∨ ((∃ g ∈ gs.take j, w ∈ g.xs) ∧ mine = fltD (grpD gs) ws w)) ∧ Γ' = [some (T ws), some (T (Tl.mk gs)), some (T (Ol.mk p vs' fd)), some (T w), some (T mine), o5, o6], ⟨_, _, _, .inl ⟨fun g hg => by simp at hg, rfl⟩, rfl⟩, ?_, ?_⟩))
      · rintro j g Γ' hg ⟨mine, o5, o6, hmine, rfl⟩
        have hgm := List.mem_of_getElem? hg
        have htk : gs.take (j + 1) = gs.take j ++ [g] := by rw [List.take_succ, hg]; rfl
        refine ⟨[5], tj_name ?_⟩
        show Sx Wo4 _ [some (T ws), some (T (Tl.mk gs)), some (T (Ol.mk p vs' fd)), some (T w), some (T mine), some (T g), o6] _
        refine sx_if (et_test (ev_inST hK4 (ev_var rfl (ev_var rfl ⟨fun h => ?_, fun h => ?_⟩))))
        · have hwg : w ∈ g.xs := of_decide_eq_true h
          refine sx_set (α := List Str) (rα := inferInstance) (ev_lcF (α := Str) (β := Str) (rα := inferInstance) (rβ := inferInstance) (fun x => decide (x ∈ g.xs)) (fun x => x) hK4 (ev_var rfl ⟨by omega, fun W' sb x hx => ⟨[6], rfl, ?_⟩, ?_⟩))
          · have hK' : W'.B.K = K := congrArg Bs.K (sb.B.trans hB4)
            apply tj_name
            exact et_test (ev_inST hK' (ev_var rfl (ev_var rfl ⟨fun h => ev_var rfl ⟨h, rfl⟩, fun h => h⟩)))
          · rw [List.map_id']
            exact ⟨_, some (T g), o6, .inr ⟨⟨g, by rw [htk]; exact List.mem_append_right _ (List.mem_singleton.mpr rfl), hwg⟩, (flt_group go.nd hgm hwg).symm⟩, rfl⟩
        · have hwg : w ∉ g.xs := of_decide_eq_false h
          refine sx_next ⟨mine, some (T g), o6, ?_, rfl⟩
          rcases hmine with ⟨h1, h2⟩ | ⟨⟨g2, h1, h3⟩, h2⟩
          · refine .inl ⟨fun g2 hg2 => ?_, h2⟩
            rw [htk] at hg2
            rcases List.mem_append.mp hg2 with h | h
            · exact h1 g2 h
            · rw [List.mem_singleton.mp h]
              exact hwg
          · exact .inr ⟨⟨g2, by rw [htk]; exact List.mem_append_left _ h1, h3⟩, h2⟩
      · rintro Γ' ⟨mine, o5, o6, hmine, rfl⟩
        have e : mine = fltD (grpD gs) ws w := by
          rcases hmine with ⟨h1, h2⟩ | ⟨_, h2⟩
          · rw [show (Tl.mk gs).xs.length = gs.length from rfl, List.take_length] at h1
            rw [h2, flt_alone nd go.nd (fun z => by obtain ⟨g, hg, hwg⟩ := List.mem_flatMap.mp z; exact h1 g hg hwg) hm]
          · exact h2
        subst e
        exact ⟨_, _, rfl, rfl⟩
    rintro L Γ ⟨o5, o6, rfl, rfl⟩
    refine sxm_ifB (Γ' := [some (T ws), some (T (Tl.mk gs)), some (T fd), some (T w), some (T (fltD (grpD gs) ws w)), o5, o6]) (by walk_at "frz") ?_
    refine et_test (ev_notInD (α := List Str) (rα := inferInstance) hK (ev_var rfl (ev_var rfl (ing_in (by decide) (fun n hn => hok n (List.mem_filter.mp hn).1) (fun f hf n hn => hok n (hfdm f hf n hn)) ⟨fun h => ?_, fun h => ?_⟩))))
    · have hni : fltD (grpD gs) ws w ∉ fd := by simpa using h
      have hk : keepD (grpD gs) ws w = true := by
        cases hk : keepD (grpD gs) ws w with
        | true => rfl
        | false => exact absurd (hfs.mpr hk) hni
      rw [if_pos hk] at hstep
      refine sxm_append (α := List Str) (rα := inferInstance) 0 rfl rfl fun Wo5 hW5 => ev_var rfl ⟨by omega, fun v => ⟨vs' ++ [v], some (T w), some (T (fltD (grpD gs) ws w)), o5, o6, rfl, ?_⟩⟩
      rw [hstep]
      rfl
    · have hi2 : fltD (grpD gs) ws w ∈ fd := by simpa using h
      rw [hfs.mp hi2, if_neg Bool.false_ne_true, List.append_nil] at hstep
      refine sxm_pure fun Wo5 hW5 => sx_next ⟨vs', some (T w), some (T (fltD (grpD gs) ws w)), o5, o6, rfl, ?_⟩
      rw [hstep]
  · rintro L' Γ' ⟨vs', o3, o4, o5, o6, rfl, rfl⟩
    refine sxm_freeze (Γ' := [some (T ws), some (T (Tl.mk gs)), some (T (((ws.take ws.length).filter (keepD (grpD gs) ws)).map (fltD (grpD gs) ws))), o3, o4, o5, o6]) (by walk_at "frz") (sxm_pure fun Wo5 hW5 => ?_)
    rw [List.take_length]
    exact sx_ret (ev_var rfl hp)
theorem rng_filter {s : Int} (h : 0 ≤ s) : ∀ m : Nat, ((List.range m).map fun i : Nat => (i : Int)).filter (fun x => decide (s ≤ x)) = (List.range ((m : Int) - s).toNat).map fun i : Nat => s + (i : Int)
  | 0 => by
    rw [show ((0 : Nat) : Int) - s = -s by omega, show (-s).toNat = 0 by omega]
    rfl
  | m + 1 => by
    rw [List.range_succ, List.map_append, List.filter_append, rng_filter h m]
    by_cases c : s ≤ (m : Int)
    · rw [show (((m + 1 : Nat) : Int) - s).toNat = ((m : Int) - s).toNat + 1 by omega, List.range_succ, List.map_append]
      congr 1
      show [(m : Int)].filter (fun x => decide (s ≤ x)) = [s + ((((m : Int) - s).toNat : Nat) : Int)]
      rw [List.filter_cons, if_pos (decide_eq_true c)]
      show [(m : Int)] = _
      congr 1
      omega
    · rw [show (((m + 1 : Nat) : Int) - s).toNat = 0 by omega, show ((m : Int) - s).toNat = 0 by omega]
      show [] ++ [(m : Int)].filter (fun x => decide (s ≤ x)) = []
      rw [List.filter_cons, if_neg (by simpa using c)]
      rfl
def chG (n : Int) (row : List Int) : List (List Int) := (List.range (n - chS row).toNat).map fun j : Nat => row ++ [chS row + (j : Int)]
theorem chG_filter {n : Int} {row : List Int} (n0 : 0 ≤ n) (h : 0 ≤ chS row) : ((((List.range n.toNat).map fun i : Nat => (i : Int)).filter fun x => decide (chS row ≤ x)).map fun x => row ++ [x]) = chG n row := by
  rw [rng_filter h, List.map_map, show ((n.toNat : Nat) : Int) = n by omega]
  rfl
theorem flat_take_le {α β : Type} (f : α → List β) : ∀ (l : List α) (i : Nat), ((l.take i).flatMap f).length ≤ (l.flatMap f).length
  | [], i => by rw [List.take_nil]; exact Nat.le_refl _
  | a :: l, 0 => Nat.zero_le _
  | a :: l, i + 1 => by
    rw [List.take_succ_cons, List.flatMap_cons, List.flatMap_cons, List.length_append, List.length_append]
    exact Nat.add_le_add_left (flat_take_le f l i) _
def P_picks : PT := fun rt xx ts => ∃ (n : Int) (k : Int), ts = [T n, T k] ∧ ((0 ≤ n ∧ n ≤ 16) ∧ (0 ≤ k ∧ k ≤ 100) ∧ rt (T (chF n k.toNat)))
theorem pc_picks {rt : Ty → Prop} {xx : Xn → Prop} {n : Int} {k : Int} (h : (0 ≤ n ∧ n ≤ 16) ∧ (0 ≤ k ∧ k ≤ 100) ∧ rt (T (chF n k.toNat))) : P_picks rt xx [T n, T k] := ⟨_, _, rfl, h⟩
theorem ok_picks (tx : Txt K mg A) : FnR P w K mg base CX0 1 A.f_picks (spG (bs K A) P_picks) := by
  refine fnR_of tx.g_picks.d sc_picks (len_ok (n := 2) fun rt xx ts hp => by obtain ⟨_, _, rfl, _⟩ := hp; rfl) (fun cdv Ar outer s H vs Q E hr h => ⟨_, (pss_cons (ps_set (i := 2) sc_picks.nd rfl (Or.inl rfl) (pe_lst (pa_cons (pe_lst pa_nil) pa_nil)))
        (pss_cons (ps_for PassesOwn.never rfl (pi_range1 (by rfl) tx.z_range (pa_cons (pv 1) pa_nil)) (pg_name (i := 3) sc_picks.nd rfl (Or.inl rfl)) (pss_cons (ps_set (i := 4) sc_picks.nd rfl (Or.inl rfl) (pe_lst pa_nil))
        (pss_cons (ps_for PassesOwn.never rfl (pi_listK K (pv 2)) (pg_name (i := 5) sc_picks.nd rfl (Or.inr rfl)) (pss_one (ps_set (i := 4) sc_picks.nd rfl (Or.inl rfl) (pe_op op_cat (pv 4) (pe_lc (own := [("_law_at", 6)]) rfl sc_picks.nd (pi_range1 (by rfl) tx.z_range (pa_cons (pv 0) pa_nil)) (blkOk_by (N := ["_law_many", "_law_count", "_law_rows", "_law_turn", "_law_longer", "_law_row", "_law_at"]) (sc := defScope s_picks) (by decide +kernel)) (fun _ _ _ _ _ => (pg_name (i := 6) sc_picks.nd rfl (Or.inl rfl))) (fun _ _ _ _ _ => (pts_one (PW.pt (pw_or (pt_not (pt_truthK K (pv 5) (fun _ => rfl))) (pw_or1 (pt_cmpR op_gt (pv 6) (pe_ix (ix_listK K) (pv 5) (pe_un un_neg pe_int) (fun _ _ => rfl)) (nomark _))))))) (fun _ _ _ _ _ => (pe_op op_cat (pv 5) (pe_lst (pa_cons (pv 6) pa_nil)))))))))
        (pss_one (ps_set (i := 2) sc_picks.nd rfl (Or.inl rfl) (pv 4))))))
        (pss_one (ps_ret (pv 2))))),
      body_ok (N := ["_law_many", "_law_count", "_law_rows", "_law_turn", "_law_longer", "_law_row", "_law_at"]) (fun W ts rt xx hB ho hw hp => ?_) h⟩)
  have hK : W.B.K = K := congrArg Bs.K hB
  obtain ⟨n, k, rfl, hp⟩ := hp
  show Sx W _ [some (T n), some (T k), none, none, none, none, none] _
  obtain ⟨⟨n0, n1⟩, ⟨k0, k1⟩, hp⟩ := hp
  have h16 : ∀ j, (chF n j).length ≤ 100000 := fun j => Nat.le_trans (ch_len n j) (Nat.le_trans (Nat.pow_le_pow_right (by decide) (show n.toNat ≤ 16 by omega)) (by decide))
  refine sx_seq (sx_set (α := List (List Int)) (rα := inferInstance) (ev_lst (el_cons (ev_lst (α := Int) (rα := inferInstance) (el_nil ⟨by decide, el_nil ⟨by show 1 ≤ 100000; decide, ?_⟩⟩)))))
  show Sx W _ [some (T n), some (T k), some (T (chF n 0)), none, none, none, none] _
  refine sx_seq (sx_forR (ev_var rfl ⟨⟨by omega, by omega⟩, fun i Γ' => ∃ o3 o4 o5 o6 : Option G.Ty, Γ' = [some (T n), some (T k), some (T (chF n i)), o3, o4, o5, o6], ⟨_, _, _, _, rfl⟩, ?_, ?_⟩))
  · rintro i Γ' hi ⟨o3, o4, o5, o6, rfl⟩
    refine tg_name ?_
    refine sx_seq (sx_set (α := List (List Int)) (rα := inferInstance) (ev_lst (el_nil ⟨by decide, ?_⟩)))
    show Sx W _ [some (T n), some (T k), some (T (chF n i)), some (T (i : Int)), some (T ([] : List (List Int))), o5, o6] _
    refine sx_seq (sx_forL (α := List Int) (rα := inferInstance) hK (ev_var rfl ⟨fun j Γ' => ∃ o5 o6 : Option G.Ty, Γ' = [some (T n), some (T k), some (T (chF n i)), some (T (i : Int)), some (T (((chF n i).take j).flatMap (chG n))), o5, o6], ⟨_, _, rfl⟩, ?_, ?_⟩))
    · rintro j row Γ' hrow ⟨o5, o6, rfl⟩
      have q := ch_row (List.mem_of_getElem? hrow)
      have q5 := q.st
      have hrl := q.len
      have htk : (chF n i).take (j + 1) = (chF n i).take j ++ [row] := by rw [List.take_succ, hrow]; rfl
      refine tg_name ?_
      refine sx_set (α := List (List Int)) (rα := inferInstance) (ev_cat (ev_var rfl (EvF.k (evF_lcIF (α := Int) (β := List Int) (fun x => decide (chS row ≤ x)) (fun x => row ++ [x]) (ei_rng1 (ev_var rfl ⟨⟨by omega, by omega⟩, ?_, fun W' sb x hx => ⟨[6], rfl, tj_name ?_⟩, ?_, ?_⟩))))))
      · rw [List.length_map, List.length_range]
        omega
      · have hK' : W'.B.K = K := (congrArg Bs.K sb.B).trans hK
        have hx0 : 0 ≤ x := by
          obtain ⟨z, _, e⟩ := List.mem_map.mp hx
          omega
        have yes : chS row ≤ x → EvK W' (tOp rCat (tVar 5) (tLst (tCons (tVar 6) tNil))) ((wipeE ([some (T n), some (T k), some (T (chF n i)), some (T (i : Int)), some (T (((chF n i).take j).flatMap (chG n))), some (T row), o6] : Gam) [6]).set 6 (some (T x))) fun y : List Int => decide (chS row ≤ x) = true ∧ y = row ++ [x] := fun hle =>
          ev_cat (ev_var rfl (ev_lst (el_cons (ev_var rfl (el_nil ⟨by show 1 ≤ 100000; decide, by show row.length + 1 ≤ 100000; omega, decide_eq_true hle, rfl⟩)))))
        refine et_or (et_not (et_truthL (α := Int) (rα := inferInstance) hK' (ev_var rfl ⟨fun h => ?_, fun h => ?_⟩)))
        · have e : row = [] := by simpa using h
          exact ⟨fun _ => yes (by rw [e]; exact hx0), fun h => (nomatch h)⟩
        · obtain ⟨l, hl⟩ : ∃ l, row.getLast? = some l := by
            cases e : row.getLast? with
            | none => rw [List.getLast?_eq_none_iff.mp e] at h; cases h
            | some x => exact ⟨x, rfl⟩
          have hs : chS row = l + 1 := by
            unfold chS
            rw [hl]
          refine et_test (ev_opB (ev_var rfl (ev_ixL (α := Int) (rα := inferInstance) hK' (ev_var rfl (ev_unI (ev_int ⟨l, atI_last1 hl, ⟨fun h => yes ?_, fun h => decide_eq_false ?_⟩⟩))))))
          · have := of_decide_eq_true h
            omega
          · have := of_decide_eq_false h
            omega
      · rw [chG_filter n0 q5]
        have := flat_take_le (chG n) (chF n i) (j + 1)
        have h2 := h16 (i + 1)
        have h3 : ((chF n i).flatMap (chG n)).length ≤ 100000 := h2
        rw [htk, List.flatMap_append, List.length_append] at this
        simp only [List.flatMap_cons, List.flatMap_nil, List.append_nil] at this
        omega
      · refine ⟨some (T row), o6, ?_⟩
        rw [chG_filter n0 q5, htk, List.flatMap_append]
        simp only [List.flatMap_cons, List.flatMap_nil, List.append_nil]
        rfl
    · rintro Γ' ⟨o5, o6, rfl⟩
      rw [List.take_length]
      exact sx_set (α := List (List Int)) (rα := inferInstance) (ev_var rfl ⟨_, _, _, _, rfl⟩)
  · rintro Γ' ⟨o3, o4, o5, o6, rfl⟩
    exact sx_ret (α := List (List Int)) (rα := inferInstance) (ev_var rfl hp)
def P_lots : PT := fun rt xx ts => ∃ (ws : List Str) (fl : List (List Str)) (k : Int), ts = [T ws, T fl, T k] ∧ (ws.length ≤ 1000 ∧ fl.length ≤ 16 ∧ (0 ≤ k ∧ k ≤ 100) ∧ (∀ f ∈ fl, f.length ≤ 1000) ∧ rt (T ((chF (fl.length : Int) k.toNat).map (lotF ws fl))))
theorem pc_lots {rt : Ty → Prop} {xx : Xn → Prop} {ws : List Str} {fl : List (List Str)} {k : Int} (h : ws.length ≤ 1000 ∧ fl.length ≤ 16 ∧ (0 ≤ k ∧ k ≤ 100) ∧ (∀ f ∈ fl, f.length ≤ 1000) ∧ rt (T ((chF (fl.length : Int) k.toNat).map (lotF ws fl)))) : P_lots rt xx [T ws, T fl, T k] := ⟨_, _, _, rfl, h⟩
theorem ok_lots (tx : Txt K mg A) : FnR P w K mg base CX0 2 A.f_lots (spG (bs K A) P_lots) := by
  have G_picks := ok_picks (P := P) (w := w) (base := base) tx
  refine fnR_of tx.g_lots.d sc_lots (len_ok (n := 3) fun rt xx ts hp => by obtain ⟨_, _, _, rfl, _⟩ := hp; rfl) (fun cdv Ar outer s H vs Q E hr h => ⟨_, (pss_cons (ps_set (i := 3) sc_lots.nd rfl (Or.inl rfl) (pe_lst pa_nil))
        (pss_cons (ps_for PassesOwn.never rfl (pi_listK K (pe_callR G_picks (room hr) rfl (tx.g_picks).g (tx.g_picks).kp pass0 (pa_cons (pe_callB (call_lenK K) (by rfl) tx.z_len PySem.boot_len (pa_cons (pv 1) pa_nil)) (pa_cons (pv 2) pa_nil)))) (pg_name (i := 4) sc_lots.nd rfl (Or.inl rfl)) (pss_cons (ps_set (i := 5) sc_lots.nd rfl (Or.inr rfl) (pe_lst pa_nil))
        (pss_cons (ps_for PassesOwn.never rfl (pi_listK K (pv 4)) (pg_name (i := 6) sc_lots.nd rfl (Or.inl rfl)) (pss_one (ps_set (i := 5) sc_lots.nd rfl (Or.inr rfl) (pe_op op_cat (pv 5) (pe_ix (ix_listK K) (pv 1) (pv 6) (fun _ _ => rfl))))))
        (pss_one (ps_expr (pe_appendK K (pv 3) (pa_cons (pe_lc (own := [("_law_word_here", 7)]) rfl sc_lots.nd (pi_listK K (pv 0)) (blkOk_by (N := ["_law_words_here", "_law_faults_here", "_law_count", "_law_lots_here", "_law_row", "_law_chosen", "_law_at", "_law_word_here"]) (sc := defScope s_lots) (by decide +kernel)) (fun _ _ _ _ _ => (pg_name (i := 7) sc_lots.nd rfl (Or.inl rfl))) (fun _ _ _ _ _ => (pts_one (pt_cmpR (op_inSeqK K) (pv 7) (pv 5) rfl))) (fun _ _ _ _ _ => (pv 7))) pa_nil)))))))
        (pss_one (ps_ret (pv 3))))),
      body_ok (N := ["_law_words_here", "_law_faults_here", "_law_count", "_law_lots_here", "_law_row", "_law_chosen", "_law_at", "_law_word_here"]) (fun W ts rt xx hB ho hw hp => ?_) h⟩)
  have hK : W.B.K = K := congrArg Bs.K hB
  obtain ⟨ws, fl, k, rfl, hp⟩ := hp
  show Sx W _ [some (T ws), some (T fl), some (T k), none, none, none, none, none] _
  obtain ⟨hwl, hfl, ⟨k0, k1⟩, hf1, hp⟩ := hp
  refine sx_ownH fun F => ?_
  refine sxh_seq (sxh_newL (β := List Str) (rβ := inferInstance) fun Wo hW => evF_lst (el_nil (α := List Str) (rα := inferInstance) ⟨by decide, fun p vs => ?_⟩))
  show SxH W F _ [(p, .lst vs)] [some (T ws), some (T fl), some (T k), some (T (Ol.mk p vs ([] : List (List Str)))), none, none, none, none] _
  have h16 : (chF (fl.length : Int) k.toNat).length ≤ 65536 := Nat.le_trans (ch_len _ _) (Nat.le_trans (Nat.pow_le_pow_right (by decide) (show (fl.length : Int).toNat ≤ 16 by omega)) (by decide))
  refine sxh_seq (sxh_forL (α := List Int) (rα := inferInstance) hK fun Wo hW => ev_callR (hW.B.trans hB) (ea_cons (ev_len (α := List Str) (rα := inferInstance) (congrArg Bs.K (hW.B.trans hB)) (ev_var rfl (ea_cons (ev_var rfl (ea_nil (pc_picks ⟨by omega, by omega, _, rfl, ?_⟩))))))))
  refine ⟨fun i L' Γ' => ∃ (vs : List V) (o4 o5 o6 o7 : Option G.Ty), L' = [(p, .lst vs)] ∧ Γ' = [some (T ws), some (T fl), some (T k), some (T (Ol.mk p vs (((chF (fl.length : Int) k.toNat).take i).map (lotF ws fl)))), o4, o5, o6, o7], ⟨vs, _, _, _, _, rfl, rfl⟩, fun i L' Γ' ⟨_, _, _, _, _, h, _⟩ => by rw [h]; rfl, ?_, ?_⟩
  · rintro i row L' Γ' hrow ⟨vs, o4, o5, o6, o7, rfl, rfl⟩ Wo' hW'
    have hmem := List.mem_of_getElem? hrow
    have q := ch_row hmem
    have hrl := q.len
    have htk : (chF (fl.length : Int) k.toNat).take (i + 1) = (chF (fl.length : Int) k.toNat).take i ++ [row] := by rw [List.take_succ, hrow]; rfl
    have hil : i < (chF (fl.length : Int) k.toNat).length := (List.getElem?_eq_some_iff.mp hrow).1
    refine tg_name ?_
    refine sxh_seq (sxh_pure fun Wz hWz => sx_set (α := List Str) (rα := inferInstance) (ev_lst (el_nil ⟨by decide, ?_⟩)))
    show SxH W F _ [(p, .lst vs)] [some (T ws), some (T fl), some (T k), some (T (Ol.mk p vs (((chF (fl.length : Int) k.toNat).take i).map (lotF ws fl)))), some (T row), some (T ([] : List Str)), o6, o7] _
    refine sxh_seq (sxh_pure fun Wz hWz => sx_forL (α := Int) (rα := inferInstance) (congrArg Bs.K (hWz.B.trans hB)) (ev_var rfl ⟨fun j Γ' => ∃ o6 : Option G.Ty, Γ' = [some (T ws), some (T fl), some (T k), some (T (Ol.mk p vs (((chF (fl.length : Int) k.toNat).take i).map (lotF ws fl)))), some (T row), some (T (pkF fl (row.take j))), o6, o7], ⟨o6, rfl⟩, ?_, ?_⟩))
    · rintro j x Γ' hx ⟨o6, rfl⟩
      have hxm := List.mem_of_getElem? hx
      have hx0 := q.lo x hxm
      have hx1 := q.hi x hxm
      have hjr : j < row.length := (List.getElem?_eq_some_iff.mp hx).1
      obtain ⟨f, hf⟩ : ∃ f, atI fl x = some f := by
        obtain ⟨m, rfl⟩ : ∃ m : Nat, x = (m : Int) := ⟨x.toNat, by omega⟩
        have hm : m < fl.length := by omega
        exact ⟨fl[m], atI_nat (List.getElem?_eq_getElem hm)⟩
      have hfm : f.length ≤ 1000 := hf1 f (atI_mem hf)
      have hpl := pk_len hf1 (row.take j)
      have hjl : (row.take j).length ≤ 100 := by rw [List.length_take]; omega
      have hjl2 : (row.take j).length < 100 := by rw [List.length_take]; omega
      have e1 : pkF fl (row.take (j + 1)) = pkF fl (row.take j) ++ f := by
        rw [List.take_succ, hx]
        unfold pkF
        rw [List.flatMap_append]
        show _ ++ ((atI fl x).getD [] ++ []) = _
        rw [hf, List.append_nil]
        rfl
      refine tg_name ?_
      refine sx_set (α := List Str) (rα := inferInstance) (ev_cat (ev_var rfl (ev_ixL (α := List Str) (rα := inferInstance) (congrArg Bs.K (hWz.B.trans hB)) (ev_var rfl (ev_var rfl ⟨f, hf, by omega, ?_⟩)))))
      refine ⟨some (T x), ?_⟩
      rw [e1]
      rfl
    rintro Γ' ⟨o6, rfl⟩
    rw [List.take_length]
    refine sxh_append (α := List Str) (rα := inferInstance) 0 rfl rfl fun Wo hW => EvF.k (evF_lcF (α := Str) (β := Str) (fun w => decide (w ∈ pkF fl row)) (fun w => w) (congrArg Bs.K (hW.B.trans hB)) (ev_var rfl ⟨by omega, fun W' sb w hw => ⟨[7], rfl, tj_name (et_test (ev_inS (congrArg Bs.K (sb.B.trans (hW.B.trans hB))) (ev_var rfl (ev_var rfl ⟨fun h => ev_var rfl ⟨h, rfl⟩, fun h => h⟩))))⟩, ?_, fun v => ?_⟩))
    · rw [List.length_map, List.length_take]
      omega
    · refine ⟨vs ++ [v], some (T row), some (T (pkF fl row)), o6, o7, rfl, ?_⟩
      rw [htk, List.map_append, List.map_id']
      rfl
  rintro L' Γ' ⟨vs, o4, o5, o6, o7, rfl, rfl⟩
  rw [List.take_length]
  exact sxh_freeze (Γ' := [some (T ws), some (T fl), some (T k), some (T ((chF (fl.length : Int) k.toNat).map (lotF ws fl))), o4, o5, o6, o7]) (by repeat (first | exact .nil | (refine FrzH.ownL (by simp) ?_) | apply FrzH.same)) (sxh_pure fun Wf hWf => sx_ret (α := List (List Str)) (rα := inferInstance) (ev_var rfl hp))
def spLaw (K : PySem.W.Frag) : Sp := fun vs H Q _ => ∃ (a : Addr) (ns : List Int), vs = [.ref a] ∧ SqL K H a (ns.map V.int) ∧ ns.length ≤ 63 ∧ ∀ H', Q (.bl true) H'
theorem pc_rack {rt : G.Ty → Prop} {xx : Xn → Prop} {gs : List Gau} {grs : List Grp} (h1 : gs.length ≤ 100) (h2 : (gs.map Gau.nm).Nodup) (h3 : ∀ g ∈ gs, NmOk g.nm) (h4 : GrOk (gs.map Gau.nm) grs) (h : rt (T (Rk.mk gs (flF (gs.map Gau.nm) grs)))) : P_Rack_of rt xx [T (Cv.mk .Rack), T gs, T (Tl.mk grs)] := by
  refine ⟨_, gs, grs, rfl, .inl rfl, h1, grok_len h4 (by rw [List.length_map]; exact h1), h3, fun w hw => ?_, ?_⟩
  · obtain ⟨g, hg, rfl⟩ := List.mem_map.mp (h4.sub w hw)
    exact h3 g hg
  · rw [dupF_none.mpr h2]
    show (match badG (gs.map Gau.nm) [] (flatG grs) with | some (true, n) => _ | some (false, n) => _ | none => _)
    rw [badG_ok h4]
    exact h
theorem ok_law' (tx : Txt K mg A) {fd : FuncData} (F : Fun K "law" "law" s_law A.f_law fd) : FnOk P w K mg base CX0 10 A.f_law fd ["_law_script"] (spLaw K) := by
  have G_box := ok_box (P := P) (w := w) (base := base) tx
  have G_words := ok_words (P := P) (w := w) (base := base) tx
  have G_take := ok_take (P := P) (w := w) (base := base) tx
  have G_specs := ok_specs (P := P) (w := w) (base := base) tx
  have G_groups := ok_groups (P := P) (w := w) (base := base) tx
  have G_faults := ok_faults (P := P) (w := w) (base := base) tx
  have G_Rack_of := ok_Rack_of (P := P) (w := w) (base := base) tx
  have G_gauges := ok_gauges (P := P) (w := w) (base := base) tx
  have G_lots := ok_lots (P := P) (w := w) (base := base) tx
  obtain ⟨fd_m_liar_lots, G_m_liar_lots, gb_m_liar_lots⟩ := ok_m_liar_lots (P := P) (w := w) (base := base) tx
  have G_Rack_faults := ok_Rack_faults (P := P) (w := w) (base := base) tx
  refine F.ok sc_law (fun vs H Q E h => ?_) (fun cdv Ar outer s H vs Q E hr h => ?_)
  · obtain ⟨a, ns, rfl, _⟩ := h; rfl
  · refine ⟨_, (pss_cons (ps_set (i := 1) sc_law.nd rfl (Or.inl rfl) (pe_callR G_box (room hr) rfl (tx.g_box).g (tx.g_box).kp pass0 (pa_cons (pv 0) (pa_cons pe_int pa_nil))))
        (pss_cons (ps_set (i := 2) sc_law.nd rfl (Or.inl rfl) (pe_callR G_words (room hr) rfl (tx.g_words).g (tx.g_words).kp pass0 (pa_cons (pv 1) (pa_cons (pe_callR G_take (room hr) rfl (tx.g_take).g (tx.g_take).kp pass0 (pa_cons (pv 1) (pa_cons pe_int pa_nil))) pa_nil))))
        (pss_cons (ps_set (i := 3) sc_law.nd rfl (Or.inl rfl) (pe_callR G_specs (room hr) rfl (tx.g_specs).g (tx.g_specs).kp pass0 (pa_cons (pv 1) (pa_cons (pv 2) pa_nil))))
        (pss_cons (ps_set (i := 4) sc_law.nd rfl (Or.inl rfl) (pe_callR G_groups (room hr) rfl (tx.g_groups).g (tx.g_groups).kp pass0 (pa_cons (pv 1) (pa_cons (pv 2) pa_nil))))
        (pss_cons (ps_set (i := 5) sc_law.nd rfl (Or.inl rfl) (pe_callR G_faults (room hr) rfl (tx.g_faults).g (tx.g_faults).kp pass0 (pa_cons (pv 2) (pa_cons (pv 4) pa_nil))))
        (pss_cons (ps_set (i := 6) sc_law.nd rfl (Or.inl rfl) (pe_cmethZ (E := fun _ => E0) (tx.r_Rack) (tx.q_Rack_of) G_Rack_of.1 (room hr) passSL tx.c_Rack (pa_cons (pe_callR G_gauges (room hr) rfl (tx.g_gauges).g (tx.g_gauges).kp pass0 (pa_cons (pv 3) pa_nil)) (pa_cons (pv 4) pa_nil))))
        (pss_cons (ps_for PassesOwn.never rfl (pi_range1 (by rfl) tx.z_range (pa_cons (pe_op op_add (pe_callB (call_lenK K) (by rfl) tx.z_len PySem.boot_len (pa_cons (pv 5) pa_nil)) pe_int) pa_nil)) (pg_name (i := 7) sc_law.nd rfl (Or.inl rfl)) (pss_cons (ps_set (i := 8) sc_law.nd rfl (Or.inl rfl) (pe_callR G_lots (room hr) rfl (tx.g_lots).g (tx.g_lots).kp pass0 (pa_cons (pv 2) (pa_cons (pv 5) (pa_cons (pv 7) pa_nil)))))
        (pss_cons (GN.ps_setCompGX (i := 9) (j := 10) (own := [("_law_lot", 10)]) rfl (room hr) sc_law.nd rfl rfl (sw_true rfl rfl rfl (by decide +kernel)) (GN.pgenx_call G_m_liar_lots (room hr) (by rfl) tx.g_m_liar_lots.g tx.g_m_liar_lots.kp gb_m_liar_lots (pa_cons (pv 6) (pa_cons (pv 7) pa_nil))) (blkOk_by (N := ["_law_script", "_law_box_here", "_law_words_here", "_law_specs_here", "_law_groups_here", "_law_faults_here", "_law_rack", "_law_count", "_law_due", "_law_told", "_law_lot"]) (sc := defScope s_law) (by decide +kernel)) (by decide +kernel) (by decide) (fun _ _ _ _ _ => (pg_name (i := 10) sc_law.nd rfl (Or.inl rfl))) (fun _ _ _ _ _ => (pv 10)))
        (pss_cons (ps_if (PW.pt (pw_or (pt_cmpR (op_neDK K (huD hr)) (pv 9) (pv 8) (nomark _)) (pw_or1 (pt_not (pt_val (pe_callB (cr_all rfl) (by rfl) tx.z_all (by decide +kernel) (pa_cons (pe_lc (own := [("_law_lot", 10)]) rfl sc_law.nd (pi_listK K (pv 9)) (blkOk_by (N := ["_law_script", "_law_box_here", "_law_words_here", "_law_specs_here", "_law_groups_here", "_law_faults_here", "_law_rack", "_law_count", "_law_due", "_law_told", "_law_lot"]) (sc := defScope s_law) (by decide +kernel)) (fun _ _ _ _ _ => (pg_name (i := 10) sc_law.nd rfl (Or.inl rfl))) (fun _ _ _ _ _ => pts_nil) (fun _ _ _ _ _ => (pe_callB (call_isiKK K) (by rfl) tx.z_isinstance (by decide +kernel) (pa_cons (pv 10) (pa_cons (pe_bltn (by rfl) tx.z_list (by decide +kernel) (show RelV (.ty "list") _ from rfl)) pa_nil))))) pa_nil))))))) (pss_one (ps_ret pe_bl)) pss_nil)
        (pss_cons (ps_for PassesOwn.never rfl (pi_listK K (pv 9)) (pg_name (i := 10) sc_law.nd rfl (Or.inl rfl)) (pss_one (ps_expr (pe_bm PySem.F.plainAttrs_list PySem.F.slot_list_append PySem.F.type_list_append mt_append (pv 10) (pa_cons pe_str pa_nil)))))
        (pss_one (ps_if (pt_cmpR (op_neDK K (huD hr)) (GN.pe_listGX (GN.pgenx_call G_m_liar_lots (room hr) (by rfl) tx.g_m_liar_lots.g tx.g_m_liar_lots.kp gb_m_liar_lots (pa_cons (pv 6) (pa_cons (pv 7) pa_nil))) rfl (room hr) (by rfl) tx.z_list (by decide +kernel)) (pv 8) (nomark _)) (pss_one (ps_ret pe_bl)) pss_nil)))))))
        (pss_one (ps_ret (pe_cmpR (op_eqDK K (huD hr)) (pe_methZ0 (E := fun _ => E0) (pv 6) (tx.cl_Rack) (tx.m_Rack_faults) G_Rack_faults (room hr) passS0) (pv 5) (nomark _))))))))))), ?_⟩
    try dsimp only [cxOf, Cx.nox]
    obtain ⟨a, ns, rfl, hS, hl, kq⟩ := h
    refine raw_seq (raw_asg ⟨_, rfl, a, ns, 131, rfl, hS, hl, fun b c H' hbc hb hc => ?_⟩)
    dsimp only
    refine law_run (B := bs K A) (j := 1) hbc hb hc (by exact rfl) kq fun W hB => ?_
    have hK : W.B.K = K := congrArg Bs.K hB
    show Sx W _ [none, some (T Bx.mk), none, none, none, none, none, none, none, none, none] _
    walk_at "g"
    refine pc_take ⟨by decide, by decide, fun m m0 m1 => ⟨_, rfl, ?_⟩⟩
    walk_at "g"
    refine pc_words ⟨by omega, by omega, fun ws hwl hwn hwg => ⟨_, rfl, ?_⟩⟩
    have hl100 : ws.length ≤ 100 := by omega
    walk_at "g"
    refine pc_specs ⟨hl100, hwg, fun ss hsn hso => ⟨_, rfl, ?_⟩⟩
    have hsl : ss.length = ws.length := by rw [← hsn, List.length_map]
    walk_at "g"
    refine pc_groups ⟨hl100, hwn, fun grs hgr hg2 => ⟨_, rfl, ?_⟩⟩
    have hwok : ∀ w ∈ ws, PyData.strOk w = true := fun w hw => goodW_ok (hwg w hw)
    walk_at "g"
    refine pc_faults ⟨hl100, hwn, hgr, hwok, _, rfl, ?_⟩
    have hgn : (ss.map gauS).map Gau.nm = ws := by rw [List.map_map]; exact hsn
    have hgsl : (ss.map gauS).length ≤ 100 := by rw [List.length_map]; omega
    have hgnm : ∀ g ∈ ss.map gauS, NmOk g.nm := fun g hg => good_nm (hwg g.nm (by rw [← hgn]; exact List.mem_map.mpr ⟨g, hg, rfl⟩))
    have hok : RkOk (ss.map gauS) (flF ws grs) := hgn ▸ rkok_of hgsl (by rw [hgn]; exact hwn) hgnm (fun g hg => by
      obtain ⟨s, hs, rfl⟩ := List.mem_map.mp hg
      exact gauS_ok (hso s hs))
    have hfln := hok.fln
    refine sx_seq (sx_set (α := Rk) (rα := inferInstance) (ev_cmethZ .Rack hB rfl hx0 (ea_cons (α := List Gau) (rα := inferInstance) (ev_callR hB (ea_cons (ev_var rfl (ea_nil ?_)))))))
    refine pc_gauges ⟨by omega, hso, _, rfl, ea_cons (ev_var rfl (ea_nil ?_))⟩
    refine pc_rack hgsl (by rw [hgn]; exact hwn) hgnm (by rw [hgn]; exact hgr) ⟨_, rfl, ?_⟩
    rw [hgn]
    show Sx W _ [none, some (T Bx.mk), some (T ws), some (T ss), some (T (Tl.mk grs)), some (T (flF ws grs)), some (T (Rk.mk (ss.map gauS) (flF ws grs))), none, none, none, none] _
    have hflw := flF_len ws grs
    have hfl16 : (flF ws grs).length ≤ 16 := by omega
    have hf1000 : ∀ f ∈ flF ws grs, f.length ≤ 1000 := fun f hf => by
      have := (flF_mem hf).2.1
      omega
    have hfok : ∀ f ∈ flF ws grs, ∀ n ∈ f, PyData.strOk n = true := fun f hf n hn => hwok n ((flF_mem hf).2.2 n hn)
    refine sx_seq (sx_forR (ev_opI (ev_len (α := List Str) (rα := inferInstance) hK (ev_var rfl (ev_int ⟨⟨by omega, by omega⟩, fun i Γ' => ∃ o7 o8 o9 o10 : Option G.Ty, Γ' = [none, some (T Bx.mk), some (T ws), some (T ss), some (T (Tl.mk grs)), some (T (flF ws grs)), some (T (Rk.mk (ss.map gauS) (flF ws grs))), o7, o8, o9, o10], ⟨_, _, _, _, rfl⟩, ?_, ?_⟩)))))
    · rintro i Γ' hi ⟨o7, o8, o9, o10, rfl⟩
      have hi17 : i ≤ 16 := by omega
      have h16 : ((chF ((flF ws grs).length : Int) (i : Int).toNat).map (lotF ws (flF ws grs))).length ≤ 100000 := by
        rw [List.length_map]
        exact Nat.le_trans (ch_len _ _) (Nat.le_trans (Nat.pow_le_pow_right (by decide) (show ((flF ws grs).length : Int).toNat ≤ 16 by omega)) (by decide))
      have hL : (chF ((flF ws grs).length : Int) (i : Int).toNat).map (lotF ((ss.map gauS).map Gau.nm) (flF ws grs)) = ((chF ((flF ws grs).length : Int) (i : Int).toNat).map (lotF ws (flF ws grs))) := by rw [hgn]
      have hll : ∀ l ∈ ((chF ((flF ws grs).length : Int) (i : Int).toNat).map (lotF ws (flF ws grs))), l.length ≤ 100 ∧ ∀ n ∈ l, n ∈ ws := fun l hl => by
        obtain ⟨row, _, rfl⟩ := List.mem_map.mp hl
        exact ⟨Nat.le_trans (List.length_filter_le _ _) hl100, fun n hn => (List.mem_filter.mp hn).1⟩
      have hlok : ∀ l ∈ ((chF ((flF ws grs).length : Int) (i : Int).toNat).map (lotF ws (flF ws grs))), ∀ n ∈ l, PyData.strOk n = true := fun l hl n hn => hwok n ((hll l hl).2 n hn)
      have nx2 : ∀ t ∈ [(T (Rk.mk (ss.map gauS) (flF ws grs)) : G.Ty), T (i : Int)], GN.TyNx t := fun t ht => by
        rcases List.mem_cons.mp ht with rfl | ht
        · exact GN.tyNx
        · rw [List.mem_singleton.mp ht]
          exact GN.tyNx
      have hpl : P_m_liar_lots [T (Rk.mk (ss.map gauS) (flF ws grs)), T (i : Int)] ((chF ((flF ws grs).length : Int) (i : Int).toNat).map (lotF ws (flF ws grs))) := pc_m_liar_lots ⟨⟨hgsl, hfl16, ⟨by omega, by omega⟩, hf1000⟩, hL.symm⟩
      refine tg_name ?_
      show Sx W _ [none, some (T Bx.mk), some (T ws), some (T ss), some (T (Tl.mk grs)), some (T (flF ws grs)), some (T (Rk.mk (ss.map gauS) (flF ws grs))), some (T (i : Int)), o8, o9, o10] _
      refine sx_seq (sx_set (α := List (List Str)) (rα := inferInstance) (ev_callR hB (ea_cons (ev_var rfl (ea_cons (ev_var rfl (ea_cons (ev_var rfl (ea_nil (pc_lots ⟨by omega, hfl16, ⟨by omega, by omega⟩, hf1000, _, rfl, ?_⟩))))))))))
      show Sx W _ [none, some (T Bx.mk), some (T ws), some (T ss), some (T (Tl.mk grs)), some (T (flF ws grs)), some (T (Rk.mk (ss.map gauS) (flF ws grs))), some (T (i : Int)), some (T ((chF ((flF ws grs).length : Int) (i : Int).toNat).map (lotF ws (flF ws grs)))), o9, o10] _
      refine sx_ownH fun F => ?_
      refine sxh_seq (sxh_newFF fun Wo hW => GN.evFF_listGX (hW.B.trans hB) (ea_cons (ev_var rfl (ea_cons (ev_var rfl (ea_nil ⟨nx2, ((chF ((flF ws grs).length : Int) (i : Int).toNat).map (lotF ws (flF ws grs))), hpl, h16, fun p qs hnd hql => ?_⟩))))))
      show SxH W F _ (ffL p qs ((chF ((flF ws grs).length : Int) (i : Int).toNat).map (lotF ws (flF ws grs))) ++ []) [none, some (T Bx.mk), some (T ws), some (T ss), some (T (Tl.mk grs)), some (T (flF ws grs)), some (T (Rk.mk (ss.map gauS) (flF ws grs))), some (T (i : Int)), some (T ((chF ((flF ws grs).length : Int) (i : Int).toNat).map (lotF ws (flF ws grs)))), some (FfT p), o10] _
      rw [List.append_nil]
      refine sxh_seq (sxh_lookIf (Γ' := [none, some (T Bx.mk), some (T ws), some (T ss), some (T (Tl.mk grs)), some (T (flF ws grs)), some (T (Rk.mk (ss.map gauS) (flF ws grs))), some (T (i : Int)), some (T ((chF ((flF ws grs).length : Int) (i : Int).toNat).map (lotF ws (flF ws grs)))), some (T ((chF ((flF ws grs).length : Int) (i : Int).toNat).map (lotF ws (flF ws grs)))), o10]) (by repeat (first | exact .nil | exact ff_frz hql (fun x hx => hx) (by repeat (first | exact .nil | apply FrzH.same)) | apply FrzH.same)) ?_)
      refine et_or (et_test (ev_neG (α := List (List Str)) (rα := inferInstance) hK (ev_var rfl (ev_var rfl (neg_in (by decide) hlok hlok ⟨fun h => absurd h (by simp), fun _ => ?_⟩)))))
      refine et_not (et_B (ev_all hK (ev_lcF (α := List Str) (β := Bool) (rα := inferInstance) (rβ := inferInstance) (fun _ => true) (fun _ => true) hK (ev_var rfl ⟨h16, fun W' sb f hf => ⟨[10], rfl, tj_name (et_yes ⟨fun _ => ?_, fun h => (nomatch h)⟩)⟩, ?_⟩))))
      · have hK' : W'.B.K = K := congrArg Bs.K (sb.B.trans hB)
        exact ev_isi (b := true) hK' (inferInstance : PyTy (List Str) "list") (kit_ty (by decide +kernel)) (ev_var rfl ⟨rfl, rfl⟩)
      have eall : ((List.filter (fun _ => true) ((chF ((flF ws grs).length : Int) (i : Int).toNat).map (lotF ws (flF ws grs)))).map fun _ => true).all id = true := by rw [filtT, List.all_map, List.all_eq_true]; exact fun _ _ => rfl
      rw [eall]
      refine ⟨fun h => absurd h (by decide), fun _ => sxh_next ?_⟩
      rw [GN.ffL_U]
      show SxH W F _ (GN.ffU p qs _) [none, some (T Bx.mk), some (T ws), some (T ss), some (T (Tl.mk grs)), some (T (flF ws grs)), some (T (Rk.mk (ss.map gauS) (flF ws grs))), some (T (i : Int)), some (T ((chF ((flF ws grs).length : Int) (i : Int).toNat).map (lotF ws (flF ws grs)))), some (FfT p), o10] _
      refine sxh_seq (GN.sxh_forFF (i := 9) (j := 10) (p := p) (qs := qs) hK rfl (fun m L' Γ' => ∃ (us : List (List V)) (o10 : Option G.Ty), us.length = qs.length ∧ (∀ (j : Nat) (u : List V), m ≤ j → us[j]? = some u → u.length ≤ 100) ∧ L' = GN.ffU p qs us ∧ Γ' = [none, some (T Bx.mk), some (T ws), some (T ss), some (T (Tl.mk grs)), some (T (flF ws grs)), some (T (Rk.mk (ss.map gauS) (flF ws grs))), some (T (i : Int)), some (T ((chF ((flF ws grs).length : Int) (i : Int).toNat).map (lotF ws (flF ws grs)))), some (FfT p), o10]) ⟨_, o10, ?_, ?_, rfl, rfl⟩ (fun m L' Γ' ⟨us, _, _, _, h, _⟩ => by rw [h]; exact List.mem_cons_self) ?_ ?_)
      · rw [List.length_map, hql]
      · intro j u _ hu
        rw [List.getElem?_map] at hu
        cases hj : ((chF ((flF ws grs).length : Int) (i : Int).toNat).map (lotF ws (flF ws grs)))[j]? with
        | none => rw [hj] at hu; cases hu
        | some l =>
          rw [hj] at hu
          cases hu
          rw [List.length_map]
          exact (hll l (List.mem_of_getElem? hj)).1
      · rintro m q L' Γ' hq ⟨us, o10', hul, hu100, rfl, rfl⟩
        have hm : m < us.length := by
          have := (List.getElem?_eq_some_iff.mp hq).1
          omega
        obtain ⟨u, hu⟩ : ∃ u, us[m]? = some u := ⟨us[m], List.getElem?_eq_getElem hm⟩
        have hu1 := hu100 m u (Nat.le_refl _) hu
        show SxH W F _ (GN.ffU p qs us) [none, some (T Bx.mk), some (T ws), some (T ss), some (T (Tl.mk grs)), some (T (flF ws grs)), some (T (Rk.mk (ss.map gauS) (flF ws grs))), some (T (i : Int)), some (T ((chF ((flF ws grs).length : Int) (i : Int).toNat).map (lotF ws (flF ws grs)))), some (FfT p), some (T (Rf.mk q))] _
        refine sxh_appAt (α := Str) (rα := inferInstance) (i := 10) (t := T (Rf.mk q)) (m + 1) (GN.ffU_at hq hu) rfl (by omega) fun Wo hW => ev_var rfl ⟨rfl, ev_str fun v => ?_⟩
        rw [GN.ffU_set hq hm]
        refine ⟨us.set m (u ++ [v]), some (T (Rf.mk q)), by rw [List.length_set]; exact hul, fun j u' hj hu' => ?_, rfl, rfl⟩
        rw [List.getElem?_set_ne (by omega)] at hu'
        exact hu100 j u' (by omega) hu'
      rintro L' Γ' ⟨us, o10', _, _, rfl, rfl⟩
      refine sxh_pure fun Wo hW => ?_
      have hBo : Wo.B = bs K A := hW.B.trans hB
      have hKo : Wo.B.K = K := congrArg Bs.K hBo
      refine sx_if (et_test (ev_neG (α := List (List Str)) (rα := inferInstance) hKo (EvFF.k (GN.evFF_listGX hBo (ea_cons (ev_var rfl (ea_cons (ev_var rfl (ea_nil ⟨nx2, ((chF ((flF ws grs).length : Int) (i : Int).toNat).map (lotF ws (flF ws grs))), hpl, h16, ev_var rfl (neg_in (by decide) hlok hlok ⟨fun h => absurd h (by simp), fun _ => sx_next ?_⟩)⟩)))))))))
      exact ⟨_, _, _, _, rfl⟩
    rintro Γ' ⟨o7, o8, o9, o10, rfl⟩
    refine sx_ret (α := Bool) (rα := inferInstance) (ev_eqG (α := List (List Str)) (rα := inferInstance) hK (ev_methZ (α := List (List Str)) (β := Rk) (rα := inferInstance) (rβ := inferInstance) hB hx0 (ev_var rfl (ownM_in rfl (by decide +kernel) (ea_nil (pc_Rack_faults ⟨hfln, _, rfl, ev_var rfl (eqg_in (by decide) hfok hfok ?_)⟩))))))
    rw [decide_eq_true rfl]
end
theorem all_mk {l : PySem.W.OpenLaw} {w : World} {K : PySem.W.Frag} {h : Heap} {mg : Str → Option Value} {fa C_GaugeError C_BadGauge C_DuplicateGauge C_UnknownGauge C_Gauge C_CoarseGauge C_LateGauge C_LateCoarseGauge C_Rack f1 f2 f3 f4 f5 f6 f7 f8 f9 f10 f11 f12 f13 f14 f15 f16 f17 f18 f19 f20 f21 f22 f23 f24 f25 f26 f27 f28 f29 f30 k_BARRED k_em_Rack_init k_em_Rack_of : Addr} (X : K.In h) (G : h.Ns mainGlobals mg) (hfa : mg "law" = some (.ref fa))
    {od1 an1 : Option Addr} {sl1 : Array (Option Value)} {oc1 kV1 dc1 pm1 cd1 ct1 : Value} {od2 an2 : Option Addr} {sl2 : Array (Option Value)} {oc2 kV2 dc2 pm2 cd2 ct2 : Value} {od3 an3 : Option Addr} {sl3 : Array (Option Value)} {oc3 kV3 dc3 pm3 cd3 ct3 : Value} {od4 an4 : Option Addr} {sl4 : Array (Option Value)} {oc4 kV4 dc4 pm4 cd4 ct4 : Value} {od5 an5 : Option Addr} {sl5 : Array (Option Value)} {oc5 kV5 dc5 pm5 cd5 ct5 : Value} {od6 an6 : Option Addr} {sl6 : Array (Option Value)} {oc6 kV6 dc6 pm6 cd6 ct6 : Value} {od7 an7 : Option Addr} {sl7 : Array (Option Value)} {oc7 kV7 dc7 pm7 cd7 ct7 : Value} {od8 an8 : Option Addr} {sl8 : Array (Option Value)} {oc8 dc8 pm8 cd8 ct8 : Value} {od9 an9 : Option Addr} {sl9 : Array (Option Value)} {oc9 dc9 pm9 cd9 ct9 : Value} {od10 an10 : Option Addr} {sl10 : Array (Option Value)} {oc10 dc10 pm10 cd10 ct10 : Value} {od11 an11 : Option Addr} {sl11 : Array (Option Value)} {oc11 kV11 dc11 pm11 cd11 ct11 : Value} {od12 an12 : Option Addr} {sl12 : Array (Option Value)} {oc12 kV12 dc12 pm12 cd12 ct12 : Value} {od13 an13 : Option Addr} {sl13 : Array (Option Value)} {oc13 kV13 dc13 pm13 cd13 ct13 : Value} {od14 an14 : Option Addr} {sl14 : Array (Option Value)} {oc14 kV14 dc14 pm14 cd14 ct14 : Value} {od15 an15 : Option Addr} {sl15 : Array (Option Value)} {oc15 kV15 dc15 pm15 cd15 ct15 : Value} {od16 an16 : Option Addr} {sl16 : Array (Option Value)} {oc16 kV16 dc16 pm16 cd16 ct16 : Value} {od17 an17 : Option Addr} {sl17 : Array (Option Value)} {oc17 kV17 dc17 pm17 cd17 ct17 : Value} {od18 an18 : Option Addr} {sl18 : Array (Option Value)} {oc18 kV18 dc18 pm18 cd18 ct18 : Value} {od19 an19 : Option Addr} {sl19 : Array (Option Value)} {oc19 kV19 dc19 pm19 cd19 ct19 : Value} {od20 an20 : Option Addr} {sl20 : Array (Option Value)} {oc20 kV20 dc20 pm20 cd20 ct20 : Value} {od21 an21 : Option Addr} {sl21 : Array (Option Value)} {oc21 kV21 dc21 pm21 cd21 ct21 : Value} {od22 an22 : Option Addr} {sl22 : Array (Option Value)} {oc22 dc22 pm22 cd22 ct22 : Value} {od23 an23 : Option Addr} {sl23 : Array (Option Value)} {oc23 kV23 dc23 pm23 cd23 ct23 : Value} {od24 an24 : Option Addr} {sl24 : Array (Option Value)} {oc24 kV24 dc24 pm24 cd24 ct24 : Value} {od25 an25 : Option Addr} {sl25 : Array (Option Value)} {oc25 kV25 dc25 pm25 cd25 ct25 : Value} {od26 an26 : Option Addr} {sl26 : Array (Option Value)} {oc26 kV26 dc26 pm26 cd26 ct26 : Value} {od27 an27 : Option Addr} {sl27 : Array (Option Value)} {oc27 kV27 dc27 pm27 cd27 ct27 : Value} {od28 an28 : Option Addr} {sl28 : Array (Option Value)} {oc28 kV28 dc28 pm28 cd28 ct28 : Value} {od29 an29 : Option Addr} {sl29 : Array (Option Value)} {oc29 kV29 dc29 pm29 cd29 ct29 : Value} {od30 an30 : Option Addr} {sl30 : Array (Option Value)} {oc30 kV30 dc30 pm30 cd30 ct30 : Value} {nmBadGauge qBadGauge : Str} {NBadGauge : Addr} {bsBadGauge : List Value} {snBadGauge : List Str} {subBadGauge : List Value} {abBadGauge : Bool} {colBadGauge : Option Bool} {ddBadGauge : Option Addr} {m0BadGauge m1BadGauge m2BadGauge m3BadGauge m5BadGauge : Option Value} {nmDuplicateGauge qDuplicateGauge : Str} {NDuplicateGauge : Addr} {bsDuplicateGauge : List Value} {snDuplicateGauge : List Str} {subDuplicateGauge : List Value} {abDuplicateGauge : Bool} {colDuplicateGauge : Option Bool} {ddDuplicateGauge : Option Addr} {m0DuplicateGauge m1DuplicateGauge m2DuplicateGauge m3DuplicateGauge m5DuplicateGauge : Option Value} {nmUnknownGauge qUnknownGauge : Str} {NUnknownGauge : Addr} {bsUnknownGauge : List Value} {snUnknownGauge : List Str} {subUnknownGauge : List Value} {abUnknownGauge : Bool} {colUnknownGauge : Option Bool} {ddUnknownGauge : Option Addr} {m0UnknownGauge m1UnknownGauge m2UnknownGauge m3UnknownGauge m5UnknownGauge : Option Value} {p23 : Addr} {rs23 : List Value} {okBARRED : Option Addr} {nkBARRED : Nat} {skBARRED : Array (Option Value)} {tkBARRED0 tkBARRED1 tkBARRED2 tkBARRED3 : Tok} {tkLETTERS : Tok} {tk_Gauge_LONGEST : Tok} {kd22 : Addr} {oem22 : Option Addr} {nem22 : Nat} {sem22 : Array (Option Value)} {kd23 : Addr} {okd23 oem23 : Option Addr} {nkd23 nem23 : Nat} {skd23 sem23 : Array (Option Value)}
    (aC_GaugeError : PySem.W.nsIn K mainGlobals "GaugeError" = some (some (.ref C_GaugeError)))
    (aC_BadGauge : PySem.W.nsIn K mainGlobals "BadGauge" = some (some (.ref C_BadGauge)))
    (aC_DuplicateGauge : PySem.W.nsIn K mainGlobals "DuplicateGauge" = some (some (.ref C_DuplicateGauge)))
    (aC_UnknownGauge : PySem.W.nsIn K mainGlobals "UnknownGauge" = some (some (.ref C_UnknownGauge)))
    (aC_Gauge : PySem.W.nsIn K mainGlobals "Gauge" = some (some (.ref C_Gauge)))
    (aC_CoarseGauge : PySem.W.nsIn K mainGlobals "CoarseGauge" = some (some (.ref C_CoarseGauge)))
    (aC_LateGauge : PySem.W.nsIn K mainGlobals "LateGauge" = some (some (.ref C_LateGauge)))
    (aC_LateCoarseGauge : PySem.W.nsIn K mainGlobals "LateCoarseGauge" = some (some (.ref C_LateCoarseGauge)))
    (aC_Rack : PySem.W.nsIn K mainGlobals "Rack" = some (some (.ref C_Rack)))
    (a1 : PySem.W.nsIn K mainGlobals "_law_take" = some (some (.ref f1)))
    (l1 : K.lookup f1 = some ⟨oc1, od1, .func (PySem.W.fnOf "_law_take" "_law_take" (defArgs s_take) (defBody s_take) (defScope s_take) .none kV1 dc1 pm1 an1 cd1 ct1), sl1⟩)
    (c1 : PySem.W.codeIn K cd1 "_law_take" = true)
    (k1 : PySem.W.keepIn K (.ref f1) = true)
    (a2 : PySem.W.nsIn K mainGlobals "_law_box" = some (some (.ref f2)))
    (l2 : K.lookup f2 = some ⟨oc2, od2, .func (PySem.W.fnOf "_law_box" "_law_box" (defArgs s_box) (defBody s_box) (defScope s_box) .none kV2 dc2 pm2 an2 cd2 ct2), sl2⟩)
    (c2 : PySem.W.codeIn K cd2 "_law_box" = true)
    (k2 : PySem.W.keepIn K (.ref f2) = true)
    (a3 : PySem.W.nsIn K mainGlobals "_law_word" = some (some (.ref f3)))
    (l3 : K.lookup f3 = some ⟨oc3, od3, .func (PySem.W.fnOf "_law_word" "_law_word" (defArgs s_word) (defBody s_word) (defScope s_word) .none kV3 dc3 pm3 an3 cd3 ct3), sl3⟩)
    (c3 : PySem.W.codeIn K cd3 "_law_word" = true)
    (k3 : PySem.W.keepIn K (.ref f3) = true)
    (a4 : PySem.W.nsIn K mainGlobals "_law_words" = some (some (.ref f4)))
    (l4 : K.lookup f4 = some ⟨oc4, od4, .func (PySem.W.fnOf "_law_words" "_law_words" (defArgs s_words) (defBody s_words) (defScope s_words) .none kV4 dc4 pm4 an4 cd4 ct4), sl4⟩)
    (c4 : PySem.W.codeIn K cd4 "_law_words" = true)
    (k4 : PySem.W.keepIn K (.ref f4) = true)
    (a5 : PySem.W.nsIn K mainGlobals "is_gauge_name" = some (some (.ref f5)))
    (l5 : K.lookup f5 = some ⟨oc5, od5, .func (PySem.W.fnOf "is_gauge_name" "is_gauge_name" (defArgs s_m_is_gauge_name) (defBody s_m_is_gauge_name) (defScope s_m_is_gauge_name) .none kV5 dc5 pm5 an5 cd5 ct5), sl5⟩)
    (c5 : PySem.W.codeIn K cd5 "is_gauge_name" = true)
    (k5 : PySem.W.keepIn K (.ref f5) = true)
    (a6 : PySem.W.findIn K (.ref C_BadGauge) "__init__" = some (some (.ref f6)))
    (i6 : PySem.W.isFn K (.ref f6) = true)
    (l6 : K.lookup f6 = some ⟨oc6, od6, .func (PySem.W.fnOf "__init__" "BadGauge.__init__" (defArgs s_BadGauge_init) (defBody s_BadGauge_init) (defScope s_BadGauge_init) .none kV6 dc6 pm6 an6 cd6 ct6), sl6⟩)
    (c6 : PySem.W.codeIn K cd6 "BadGauge.__init__" = true)
    (k6 : PySem.W.keepIn K (.ref f6) = true)
    (ty_BadGauge : PySem.W.typeIn K (.ref f6) = some (.type "function"))
    (a7 : PySem.W.findIn K (.ref C_Gauge) "__init__" = some (some (.ref f7)))
    (i7 : PySem.W.isFn K (.ref f7) = true)
    (l7 : K.lookup f7 = some ⟨oc7, od7, .func (PySem.W.fnOf "__init__" "Gauge.__init__" (defArgs s_Gauge_init) (defBody s_Gauge_init) (defScope s_Gauge_init) .none kV7 dc7 pm7 an7 cd7 ct7), sl7⟩)
    (c7 : PySem.W.codeIn K cd7 "Gauge.__init__" = true)
    (k7 : PySem.W.keepIn K (.ref f7) = true)
    (mk_Gauge : PySem.W.makesIn K C_Gauge = true)
    (kc_Gauge : PySem.W.keepIn K (.ref C_Gauge) = true)
    (a8 : PySem.W.findIn K (.ref C_CoarseGauge) "__init__" = some (some (.ref f8)))
    (i8 : PySem.W.isFn K (.ref f8) = true)
    (l8 : K.lookup f8 = some ⟨oc8, od8, .func (PySem.W.fnOf "__init__" "CoarseGauge.__init__" (defArgs s_CoarseGauge_init) (defBody s_CoarseGauge_init) (defScope s_CoarseGauge_init) .none .none dc8 pm8 an8 cd8 ct8), sl8⟩)
    (c8 : PySem.W.codeIn K cd8 "CoarseGauge.__init__" = true)
    (k8 : PySem.W.keepIn K (.ref f8) = true)
    (mk_CoarseGauge : PySem.W.makesIn K C_CoarseGauge = true)
    (kc_CoarseGauge : PySem.W.keepIn K (.ref C_CoarseGauge) = true)
    (a9 : PySem.W.findIn K (.ref C_LateGauge) "__init__" = some (some (.ref f9)))
    (i9 : PySem.W.isFn K (.ref f9) = true)
    (l9 : K.lookup f9 = some ⟨oc9, od9, .func (PySem.W.fnOf "__init__" "LateGauge.__init__" (defArgs s_LateGauge_init) (defBody s_LateGauge_init) (defScope s_LateGauge_init) .none .none dc9 pm9 an9 cd9 ct9), sl9⟩)
    (c9 : PySem.W.codeIn K cd9 "LateGauge.__init__" = true)
    (k9 : PySem.W.keepIn K (.ref f9) = true)
    (mk_LateGauge : PySem.W.makesIn K C_LateGauge = true)
    (kc_LateGauge : PySem.W.keepIn K (.ref C_LateGauge) = true)
    (a10 : PySem.W.findIn K (.ref C_LateCoarseGauge) "__init__" = some (some (.ref f10)))
    (i10 : PySem.W.isFn K (.ref f10) = true)
    (l10 : K.lookup f10 = some ⟨oc10, od10, .func (PySem.W.fnOf "__init__" "LateCoarseGauge.__init__" (defArgs s_LateCoarseGauge_init) (defBody s_LateCoarseGauge_init) (defScope s_LateCoarseGauge_init) .none .none dc10 pm10 an10 cd10 ct10), sl10⟩)
    (c10 : PySem.W.codeIn K cd10 "LateCoarseGauge.__init__" = true)
    (k10 : PySem.W.keepIn K (.ref f10) = true)
    (mk_LateCoarseGauge : PySem.W.makesIn K C_LateCoarseGauge = true)
    (kc_LateCoarseGauge : PySem.W.keepIn K (.ref C_LateCoarseGauge) = true)
    (a11 : PySem.W.nsIn K mainGlobals "_law_specs" = some (some (.ref f11)))
    (l11 : K.lookup f11 = some ⟨oc11, od11, .func (PySem.W.fnOf "_law_specs" "_law_specs" (defArgs s_specs) (defBody s_specs) (defScope s_specs) .none kV11 dc11 pm11 an11 cd11 ct11), sl11⟩)
    (c11 : PySem.W.codeIn K cd11 "_law_specs" = true)
    (k11 : PySem.W.keepIn K (.ref f11) = true)
    (a12 : PySem.W.nsIn K mainGlobals "_law_gauge" = some (some (.ref f12)))
    (l12 : K.lookup f12 = some ⟨oc12, od12, .func (PySem.W.fnOf "_law_gauge" "_law_gauge" (defArgs s_gauge) (defBody s_gauge) (defScope s_gauge) .none kV12 dc12 pm12 an12 cd12 ct12), sl12⟩)
    (c12 : PySem.W.codeIn K cd12 "_law_gauge" = true)
    (k12 : PySem.W.keepIn K (.ref f12) = true)
    (a13 : PySem.W.nsIn K mainGlobals "_law_gauges" = some (some (.ref f13)))
    (l13 : K.lookup f13 = some ⟨oc13, od13, .func (PySem.W.fnOf "_law_gauges" "_law_gauges" (defArgs s_gauges) (defBody s_gauges) (defScope s_gauges) .none kV13 dc13 pm13 an13 cd13 ct13), sl13⟩)
    (c13 : PySem.W.codeIn K cd13 "_law_gauges" = true)
    (k13 : PySem.W.keepIn K (.ref f13) = true)
    (a14 : PySem.W.findIn K (.ref C_DuplicateGauge) "__init__" = some (some (.ref f14)))
    (i14 : PySem.W.isFn K (.ref f14) = true)
    (l14 : K.lookup f14 = some ⟨oc14, od14, .func (PySem.W.fnOf "__init__" "DuplicateGauge.__init__" (defArgs s_DuplicateGauge_init) (defBody s_DuplicateGauge_init) (defScope s_DuplicateGauge_init) .none kV14 dc14 pm14 an14 cd14 ct14), sl14⟩)
    (c14 : PySem.W.codeIn K cd14 "DuplicateGauge.__init__" = true)
    (k14 : PySem.W.keepIn K (.ref f14) = true)
    (ty_DuplicateGauge : PySem.W.typeIn K (.ref f14) = some (.type "function"))
    (a15 : PySem.W.findIn K (.ref C_UnknownGauge) "__init__" = some (some (.ref f15)))
    (i15 : PySem.W.isFn K (.ref f15) = true)
    (l15 : K.lookup f15 = some ⟨oc15, od15, .func (PySem.W.fnOf "__init__" "UnknownGauge.__init__" (defArgs s_UnknownGauge_init) (defBody s_UnknownGauge_init) (defScope s_UnknownGauge_init) .none kV15 dc15 pm15 an15 cd15 ct15), sl15⟩)
    (c15 : PySem.W.codeIn K cd15 "UnknownGauge.__init__" = true)
    (k15 : PySem.W.keepIn K (.ref f15) = true)
    (ty_UnknownGauge : PySem.W.typeIn K (.ref f15) = some (.type "function"))
    (a16 : PySem.W.findIn K (.ref C_Rack) "names" = some (some (.ref f16)))
    (i16 : PySem.W.isFn K (.ref f16) = true)
    (l16 : K.lookup f16 = some ⟨oc16, od16, .func (PySem.W.fnOf "names" "Rack.names" (defArgs s_Rack_names) (defBody s_Rack_names) (defScope s_Rack_names) .none kV16 dc16 pm16 an16 cd16 ct16), sl16⟩)
    (c16 : PySem.W.codeIn K cd16 "Rack.names" = true)
    (k16 : PySem.W.keepIn K (.ref f16) = true)
    (a17 : PySem.W.findIn K (.ref C_Rack) "__contains__" = some (some (.ref f17)))
    (i17 : PySem.W.isFn K (.ref f17) = true)
    (l17 : K.lookup f17 = some ⟨oc17, od17, .func (PySem.W.fnOf "__contains__" "Rack.__contains__" (defArgs s_Rack_contains) (defBody s_Rack_contains) (defScope s_Rack_contains) .none kV17 dc17 pm17 an17 cd17 ct17), sl17⟩)
    (c17 : PySem.W.codeIn K cd17 "Rack.__contains__" = true)
    (k17 : PySem.W.keepIn K (.ref f17) = true)
    (a18 : PySem.W.findIn K (.ref C_Rack) "gauge" = some (some (.ref f18)))
    (i18 : PySem.W.isFn K (.ref f18) = true)
    (l18 : K.lookup f18 = some ⟨oc18, od18, .func (PySem.W.fnOf "gauge" "Rack.gauge" (defArgs s_Rack_gauge) (defBody s_Rack_gauge) (defScope s_Rack_gauge) .none kV18 dc18 pm18 an18 cd18 ct18), sl18⟩)
    (c18 : PySem.W.codeIn K cd18 "Rack.gauge" = true)
    (k18 : PySem.W.keepIn K (.ref f18) = true)
    (a19 : PySem.W.findIn K (.ref C_Rack) "faults" = some (some (.ref f19)))
    (i19 : PySem.W.isFn K (.ref f19) = true)
    (l19 : K.lookup f19 = some ⟨oc19, od19, .func (PySem.W.fnOf "faults" "Rack.faults" (defArgs s_Rack_faults) (defBody s_Rack_faults) (defScope s_Rack_faults) .none kV19 dc19 pm19 an19 cd19 ct19), sl19⟩)
    (c19 : PySem.W.codeIn K cd19 "Rack.faults" = true)
    (k19 : PySem.W.keepIn K (.ref f19) = true)
    (a20 : PySem.W.findIn K (.ref C_Rack) "_refuse_unknown" = some (some (.ref f20)))
    (i20 : PySem.W.isFn K (.ref f20) = true)
    (l20 : K.lookup f20 = some ⟨oc20, od20, .func (PySem.W.fnOf "_refuse_unknown" "Rack._refuse_unknown" (defArgs s_Rack_refuse_unknown) (defBody s_Rack_refuse_unknown) (defScope s_Rack_refuse_unknown) .none kV20 dc20 pm20 an20 cd20 ct20), sl20⟩)
    (c20 : PySem.W.codeIn K cd20 "Rack._refuse_unknown" = true)
    (k20 : PySem.W.keepIn K (.ref f20) = true)
    (a21 : PySem.W.nsIn K mainGlobals "_faults_of" = some (some (.ref f21)))
    (l21 : K.lookup f21 = some ⟨oc21, od21, .func (PySem.W.fnOf "_faults_of" "_faults_of" (defArgs s_m_faults_of) (defBody s_m_faults_of) (defScope s_m_faults_of) .none kV21 dc21 pm21 an21 cd21 ct21), sl21⟩)
    (c21 : PySem.W.codeIn K cd21 "_faults_of" = true)
    (k21 : PySem.W.keepIn K (.ref f21) = true)
    (a22 : PySem.W.findIn K (.ref C_Rack) "__init__" = some (some (.ref f22)))
    (i22 : PySem.W.isFn K (.ref f22) = true)
    (l22 : K.lookup f22 = some ⟨oc22, od22, .func (PySem.W.fnOf "__init__" "Rack.__init__" (defArgs s_Rack_init) (defBody s_Rack_init) (defScope s_Rack_init) .none (.ref kd22) dc22 pm22 an22 cd22 ct22), sl22⟩)
    (c22 : PySem.W.codeIn K cd22 "Rack.__init__" = true)
    (k22 : PySem.W.keepIn K (.ref f22) = true)
    (kw22 : PySem.W.nsIn K kd22 "together" = some (some (.ref k_em_Rack_init)))
    (em22 : K.lookup k_em_Rack_init = some ⟨.type "tuple", oem22, .seq #[] nem22, sem22⟩)
    (mk_Rack : PySem.W.makesIn K C_Rack = true)
    (kc_Rack : PySem.W.keepIn K (.ref C_Rack) = true)
    (cg_Rack : PySem.W.specialIn K (.ref C_Rack) "__getattribute__" = some (some (.builtin "type.__getattribute__")))
    (cr_Rack : PySem.W.readsIn K C_Rack (.type "type") = true)
    (ma23 : PySem.W.findCls K (.ref C_Rack) (.type "type") "of" = some (.get (.builtin "classmethod.__get__") (.ref p23) .none (.ref C_Rack)))
    (mr23 : PySem.W.recIn K p23 "classmethod" = some (.ref f23 :: rs23))
    (mf23 : PySem.W.fnIn K f23 = true)
    (l23 : K.lookup f23 = some ⟨oc23, od23, .func (PySem.W.fnOf "of" "Rack.of" (defArgs s_Rack_of) (defBody s_Rack_of) (defScope s_Rack_of) (.ref kd23) kV23 dc23 pm23 an23 cd23 ct23), sl23⟩)
    (c23 : PySem.W.codeIn K cd23 "Rack.of" = true)
    (k23 : PySem.W.keepIn K (.ref f23) = true)
    (kw23 : K.lookup kd23 = some ⟨.type "tuple", okd23, .seq #[.ref k_em_Rack_of] nkd23, skd23⟩)
    (em23 : K.lookup k_em_Rack_of = some ⟨.type "tuple", oem23, .seq #[] nem23, sem23⟩)
    (a24 : PySem.W.nsIn K mainGlobals "_choices" = some (some (.ref f24)))
    (l24 : K.lookup f24 = some ⟨oc24, od24, .func (PySem.W.fnOf "_choices" "_choices" (defArgs s_m_choices) (defBody s_m_choices) (defScope s_m_choices) .none kV24 dc24 pm24 an24 cd24 ct24), sl24⟩)
    (c24 : PySem.W.codeIn K cd24 "_choices" = true)
    (k24 : PySem.W.keepIn K (.ref f24) = true)
    (a25 : PySem.W.nsIn K mainGlobals "liar_lots" = some (some (.ref f25)))
    (l25 : K.lookup f25 = some ⟨oc25, od25, .func (PySem.W.fnOf "liar_lots" "liar_lots" (defArgs s_m_liar_lots) (defBody s_m_liar_lots) (defScope s_m_liar_lots) .none kV25 dc25 pm25 an25 cd25 ct25), sl25⟩)
    (c25 : PySem.W.codeIn K cd25 "liar_lots" = true)
    (k25 : PySem.W.keepIn K (.ref f25) = true)
    (a26 : PySem.W.nsIn K mainGlobals "_law_groups" = some (some (.ref f26)))
    (l26 : K.lookup f26 = some ⟨oc26, od26, .func (PySem.W.fnOf "_law_groups" "_law_groups" (defArgs s_groups) (defBody s_groups) (defScope s_groups) .none kV26 dc26 pm26 an26 cd26 ct26), sl26⟩)
    (c26 : PySem.W.codeIn K cd26 "_law_groups" = true)
    (k26 : PySem.W.keepIn K (.ref f26) = true)
    (a27 : PySem.W.nsIn K mainGlobals "_law_faults" = some (some (.ref f27)))
    (l27 : K.lookup f27 = some ⟨oc27, od27, .func (PySem.W.fnOf "_law_faults" "_law_faults" (defArgs s_faults) (defBody s_faults) (defScope s_faults) .none kV27 dc27 pm27 an27 cd27 ct27), sl27⟩)
    (c27 : PySem.W.codeIn K cd27 "_law_faults" = true)
    (k27 : PySem.W.keepIn K (.ref f27) = true)
    (a28 : PySem.W.nsIn K mainGlobals "_law_picks" = some (some (.ref f28)))
    (l28 : K.lookup f28 = some ⟨oc28, od28, .func (PySem.W.fnOf "_law_picks" "_law_picks" (defArgs s_picks) (defBody s_picks) (defScope s_picks) .none kV28 dc28 pm28 an28 cd28 ct28), sl28⟩)
    (c28 : PySem.W.codeIn K cd28 "_law_picks" = true)
    (k28 : PySem.W.keepIn K (.ref f28) = true)
    (a29 : PySem.W.nsIn K mainGlobals "_law_lots" = some (some (.ref f29)))
    (l29 : K.lookup f29 = some ⟨oc29, od29, .func (PySem.W.fnOf "_law_lots" "_law_lots" (defArgs s_lots) (defBody s_lots) (defScope s_lots) .none kV29 dc29 pm29 an29 cd29 ct29), sl29⟩)
    (c29 : PySem.W.codeIn K cd29 "_law_lots" = true)
    (k29 : PySem.W.keepIn K (.ref f29) = true)
    (a30 : PySem.W.nsIn K mainGlobals "law" = some (some (.ref f30)))
    (l30 : K.lookup f30 = some ⟨oc30, od30, .func (PySem.W.fnOf "law" "law" (defArgs s_law) (defBody s_law) (defScope s_law) .none kV30 dc30 pm30 an30 cd30 ct30), sl30⟩)
    (c30 : PySem.W.codeIn K cd30 "law" = true)
    (k30 : PySem.W.keepIn K (.ref f30) = true)
    (ge_ga : PySem.W.specialIn K (.ref C_GaugeError) "__getattribute__" = some (some (.builtin "type.__getattribute__")))
    (ge_rd : PySem.W.readsIn K C_GaugeError (.type "type") = true)
    (ge_at : PySem.W.findCls K (.ref C_GaugeError) (.type "type") "__init__" = some (.val (.builtin "ValueError.__init__")))
    (xL_BadGauge : K.lookup C_BadGauge = some (excClassObj nmBadGauge qBadGauge C_BadGauge NBadGauge bsBadGauge [.ref C_GaugeError, .type "ValueError", .type "Exception", .type "BaseException", .type "object"] true snBadGauge subBadGauge abBadGauge colBadGauge ddBadGauge m0BadGauge m1BadGauge m2BadGauge m3BadGauge m5BadGauge "ValueError.__new__"))
    (xsa_BadGauge : PySem.W.findIn K (.ref C_BadGauge) "__setattr__" = some (some (.builtin "object.__setattr__")))
    (xga_BadGauge : PySem.W.findIn K (.ref C_BadGauge) "__getattribute__" = some (some (.builtin "BaseException.__getattribute__")))
    (xgg_BadGauge : PySem.W.findIn K (.ref C_BadGauge) "__getattr__" = some none)
    (xkC_BadGauge : PySem.W.keepIn K (.ref C_BadGauge) = true)
    (xeC_BadGauge : PySem.W.subIn K (.ref C_BadGauge) (.type "BaseException") = some true)
    (xtC_BadGauge : PySem.W.typeIn K (.ref C_BadGauge) = some (.type "type"))
    (xhC_BadGauge : PySem.W.hasDictIn K C_BadGauge = true)
    (xic_BadGauge : PySem.W.isClsIn K C_BadGauge = true)
    (n_BadGauge_name : PySem.W.findIn K (.ref C_BadGauge) "name" = some none)
    (xL_DuplicateGauge : K.lookup C_DuplicateGauge = some (excClassObj nmDuplicateGauge qDuplicateGauge C_DuplicateGauge NDuplicateGauge bsDuplicateGauge [.ref C_GaugeError, .type "ValueError", .type "Exception", .type "BaseException", .type "object"] true snDuplicateGauge subDuplicateGauge abDuplicateGauge colDuplicateGauge ddDuplicateGauge m0DuplicateGauge m1DuplicateGauge m2DuplicateGauge m3DuplicateGauge m5DuplicateGauge "ValueError.__new__"))
    (xsa_DuplicateGauge : PySem.W.findIn K (.ref C_DuplicateGauge) "__setattr__" = some (some (.builtin "object.__setattr__")))
    (xga_DuplicateGauge : PySem.W.findIn K (.ref C_DuplicateGauge) "__getattribute__" = some (some (.builtin "BaseException.__getattribute__")))
    (xgg_DuplicateGauge : PySem.W.findIn K (.ref C_DuplicateGauge) "__getattr__" = some none)
    (xkC_DuplicateGauge : PySem.W.keepIn K (.ref C_DuplicateGauge) = true)
    (xeC_DuplicateGauge : PySem.W.subIn K (.ref C_DuplicateGauge) (.type "BaseException") = some true)
    (xtC_DuplicateGauge : PySem.W.typeIn K (.ref C_DuplicateGauge) = some (.type "type"))
    (xhC_DuplicateGauge : PySem.W.hasDictIn K C_DuplicateGauge = true)
    (xic_DuplicateGauge : PySem.W.isClsIn K C_DuplicateGauge = true)
    (n_DuplicateGauge_name : PySem.W.findIn K (.ref C_DuplicateGauge) "name" = some none)
    (xL_UnknownGauge : K.lookup C_UnknownGauge = some (excClassObj nmUnknownGauge qUnknownGauge C_UnknownGauge NUnknownGauge bsUnknownGauge [.ref C_GaugeError, .type "ValueError", .type "Exception", .type "BaseException", .type "object"] true snUnknownGauge subUnknownGauge abUnknownGauge colUnknownGauge ddUnknownGauge m0UnknownGauge m1UnknownGauge m2UnknownGauge m3UnknownGauge m5UnknownGauge "ValueError.__new__"))
    (xsa_UnknownGauge : PySem.W.findIn K (.ref C_UnknownGauge) "__setattr__" = some (some (.builtin "object.__setattr__")))
    (xga_UnknownGauge : PySem.W.findIn K (.ref C_UnknownGauge) "__getattribute__" = some (some (.builtin "BaseException.__getattribute__")))
    (xgg_UnknownGauge : PySem.W.findIn K (.ref C_UnknownGauge) "__getattr__" = some none)
    (xkC_UnknownGauge : PySem.W.keepIn K (.ref C_UnknownGauge) = true)
    (xeC_UnknownGauge : PySem.W.subIn K (.ref C_UnknownGauge) (.type "BaseException") = some true)
    (xtC_UnknownGauge : PySem.W.typeIn K (.ref C_UnknownGauge) = some (.type "type"))
    (xhC_UnknownGauge : PySem.W.hasDictIn K C_UnknownGauge = true)
    (xic_UnknownGauge : PySem.W.isClsIn K C_UnknownGauge = true)
    (n_UnknownGauge_name : PySem.W.findIn K (.ref C_UnknownGauge) "name" = some none)
    (pg_Gauge : PySem.W.plainGet K C_Gauge Str.empty = true)
    (hd_Gauge : PySem.W.hasDictIn K C_Gauge = true)
    (po_Gauge : PySem.W.plainOver K C_Gauge = true)
    (sa_Gauge : PySem.W.findIn K (.ref C_Gauge) "__setattr__" = some (some (.builtin "object.__setattr__")))
    (cc_Gauge : PySem.W.findIn K (.ref C_Gauge) "__class__" = some (some (.builtin "object.__class__")))
    (oc_s : PySem.W.specialIn K (.builtin "object.__class__") "__get__" = some (some (.builtin "getset_descriptor.__get__")))
    (oc_t : PySem.W.takesIn K (.builtin "object.__class__") = some true)
    (mo_Gauge : PySem.W.mroIn K C_Gauge (.type "object") = some true)
    (n_Gauge_name : PySem.W.findIn K (.ref C_Gauge) "name" = some none)
    (n_Gauge_radius : PySem.W.findIn K (.ref C_Gauge) "radius" = some none)
    (n_Gauge_step : PySem.W.findIn K (.ref C_Gauge) "step" = some none)
    (n_Gauge_late : PySem.W.findIn K (.ref C_Gauge) "late" = some none)
    (n_Gauge_pace : PySem.W.findIn K (.ref C_Gauge) "pace" = some none)
    (pg_CoarseGauge : PySem.W.plainGet K C_CoarseGauge Str.empty = true)
    (hd_CoarseGauge : PySem.W.hasDictIn K C_CoarseGauge = true)
    (po_CoarseGauge : PySem.W.plainOver K C_CoarseGauge = true)
    (sa_CoarseGauge : PySem.W.findIn K (.ref C_CoarseGauge) "__setattr__" = some (some (.builtin "object.__setattr__")))
    (cc_CoarseGauge : PySem.W.findIn K (.ref C_CoarseGauge) "__class__" = some (some (.builtin "object.__class__")))
    (mo_CoarseGauge : PySem.W.mroIn K C_CoarseGauge (.type "object") = some true)
    (n_CoarseGauge_name : PySem.W.findIn K (.ref C_CoarseGauge) "name" = some none)
    (n_CoarseGauge_radius : PySem.W.findIn K (.ref C_CoarseGauge) "radius" = some none)
    (n_CoarseGauge_step : PySem.W.findIn K (.ref C_CoarseGauge) "step" = some none)
    (n_CoarseGauge_late : PySem.W.findIn K (.ref C_CoarseGauge) "late" = some none)
    (n_CoarseGauge_pace : PySem.W.findIn K (.ref C_CoarseGauge) "pace" = some none)
    (pg_LateGauge : PySem.W.plainGet K C_LateGauge Str.empty = true)
    (hd_LateGauge : PySem.W.hasDictIn K C_LateGauge = true)
    (po_LateGauge : PySem.W.plainOver K C_LateGauge = true)
    (sa_LateGauge : PySem.W.findIn K (.ref C_LateGauge) "__setattr__" = some (some (.builtin "object.__setattr__")))
    (cc_LateGauge : PySem.W.findIn K (.ref C_LateGauge) "__class__" = some (some (.builtin "object.__class__")))
    (mo_LateGauge : PySem.W.mroIn K C_LateGauge (.type "object") = some true)
    (n_LateGauge_name : PySem.W.findIn K (.ref C_LateGauge) "name" = some none)
    (n_LateGauge_radius : PySem.W.findIn K (.ref C_LateGauge) "radius" = some none)
    (n_LateGauge_step : PySem.W.findIn K (.ref C_LateGauge) "step" = some none)
    (n_LateGauge_late : PySem.W.findIn K (.ref C_LateGauge) "late" = some none)
    (n_LateGauge_pace : PySem.W.findIn K (.ref C_LateGauge) "pace" = some none)
    (pg_LateCoarseGauge : PySem.W.plainGet K C_LateCoarseGauge Str.empty = true)
    (hd_LateCoarseGauge : PySem.W.hasDictIn K C_LateCoarseGauge = true)
    (po_LateCoarseGauge : PySem.W.plainOver K C_LateCoarseGauge = true)
    (sa_LateCoarseGauge : PySem.W.findIn K (.ref C_LateCoarseGauge) "__setattr__" = some (some (.builtin "object.__setattr__")))
    (cc_LateCoarseGauge : PySem.W.findIn K (.ref C_LateCoarseGauge) "__class__" = some (some (.builtin "object.__class__")))
    (mo_LateCoarseGauge : PySem.W.mroIn K C_LateCoarseGauge (.type "object") = some true)
    (n_LateCoarseGauge_name : PySem.W.findIn K (.ref C_LateCoarseGauge) "name" = some none)
    (n_LateCoarseGauge_radius : PySem.W.findIn K (.ref C_LateCoarseGauge) "radius" = some none)
    (n_LateCoarseGauge_step : PySem.W.findIn K (.ref C_LateCoarseGauge) "step" = some none)
    (n_LateCoarseGauge_late : PySem.W.findIn K (.ref C_LateCoarseGauge) "late" = some none)
    (n_LateCoarseGauge_pace : PySem.W.findIn K (.ref C_LateCoarseGauge) "pace" = some none)
    (pg_Rack : PySem.W.plainGet K C_Rack Str.empty = true)
    (hd_Rack : PySem.W.hasDictIn K C_Rack = true)
    (po_Rack : PySem.W.plainOver K C_Rack = true)
    (sa_Rack : PySem.W.findIn K (.ref C_Rack) "__setattr__" = some (some (.builtin "object.__setattr__")))
    (cc_Rack : PySem.W.findIn K (.ref C_Rack) "__class__" = some (some (.builtin "object.__class__")))
    (mo_Rack : PySem.W.mroIn K C_Rack (.type "object") = some true)
    (n_Rack__gauges : PySem.W.findIn K (.ref C_Rack) "_gauges" = some none)
    (n_Rack__faults : PySem.W.findIn K (.ref C_Rack) "_faults" = some none)
    (cg_CoarseGauge : PySem.W.specialIn K (.ref C_CoarseGauge) "__getattribute__" = some (some (.builtin "type.__getattribute__")))
    (cr_CoarseGauge : PySem.W.readsIn K C_CoarseGauge (.type "type") = true)
    (ca_CoarseGauge : PySem.W.findCls K (.ref C_CoarseGauge) (.type "type") "__init__" = some (.val (.ref f8)))
    (cg_Gauge : PySem.W.specialIn K (.ref C_Gauge) "__getattribute__" = some (some (.builtin "type.__getattribute__")))
    (cr_Gauge : PySem.W.readsIn K C_Gauge (.type "type") = true)
    (ca_Gauge : PySem.W.findCls K (.ref C_Gauge) (.type "type") "__init__" = some (.val (.ref f7)))
    (cg_LateGauge : PySem.W.specialIn K (.ref C_LateGauge) "__getattribute__" = some (some (.builtin "type.__getattribute__")))
    (cr_LateGauge : PySem.W.readsIn K C_LateGauge (.type "type") = true)
    (ca_LateGauge : PySem.W.findCls K (.ref C_LateGauge) (.type "type") "__init__" = some (.val (.ref f9)))
    (kg_BARRED : PySem.W.nsIn K mainGlobals "BARRED" = some (some (.ref k_BARRED)))
    (kt_BARRED : K.lookup k_BARRED = some ⟨.type "tuple", okBARRED, .seq #[.str "rank" tkBARRED0, .str "trim" tkBARRED1, .str "weigh" tkBARRED2, .str "together" tkBARRED3] nkBARRED, skBARRED⟩)
    (kg_LETTERS : PySem.W.nsIn K mainGlobals "LETTERS" = some (some (.str "abcdefghijklmnopqrstuvwxyz" tkLETTERS)))
    (kc_Gauge_LONGEST : PySem.W.findCls K (.ref C_Gauge) (.type "type") "LONGEST" = some (.val (.int 12 tk_Gauge_LONGEST)))
    (z_all : PySem.W.nsIn K mainGlobals "all" = some none)
    (z_int : PySem.W.nsIn K mainGlobals "int" = some none)
    (z_isinstance : PySem.W.nsIn K mainGlobals "isinstance" = some none)
    (z_len : PySem.W.nsIn K mainGlobals "len" = some none)
    (z_list : PySem.W.nsIn K mainGlobals "list" = some none)
    (z_range : PySem.W.nsIn K mainGlobals "range" = some none)
    (z_str : PySem.W.nsIn K mainGlobals "str" = some none)
    (z_tuple : PySem.W.nsIn K mainGlobals "tuple" = some none)
    (xn_file : ((l.prog.main.file : Str) == (Str.ofString "/claim/cut.py")) = true)
    (xn_top : (l.prog.main.scope.names.lookup ("super" : Str)).isSome = false) :
    ∃ fd : FuncData, (∀ (s : Shared) (v : Value), BindsTo s fd ⟨[v], []⟩ [("_law_script", v)]) ∧ ∀ base : Heap, K.In base → base.Ns mainGlobals mg → FnOk l.prog w K mg base CX0 10 fa fd ["_law_script"] (spLaw K) := by
  have e := hfa.symm.trans (PySem.W.mg_of X G a30)
  cases e
  have tx : Txt K mg ⟨C_GaugeError, C_BadGauge, C_DuplicateGauge, C_UnknownGauge, C_Gauge, C_CoarseGauge, C_LateGauge, C_LateCoarseGauge, C_Rack, f1, f2, f3, f4, f5, f6, f7, f8, f9, f10, f11, f12, f13, f14, f15, f16, f17, f18, f19, f20, f21, f22, f23, f24, f25, f26, f27, f28, f29, fa, k_BARRED, k_em_Rack_init, k_em_Rack_of⟩ := ⟨⟨⟨_, fun_mk (st := s_take) l1 c1 k1, (fun_mk (st := s_take) l1 c1 k1).binds (ps := ["_law_box_here", "_law_many"]) fun _ _ _ _ _ _ us hl => match us, hl with | [_, _], _ => rfl⟩, PySem.W.mg_of X G a1, k1⟩,
    ⟨⟨_, fun_mk (st := s_box) l2 c2 k2, (fun_mk (st := s_box) l2 c2 k2).binds (ps := ["_law_script", "_law_salt"]) fun _ _ _ _ _ _ us hl => match us, hl with | [_, _], _ => rfl⟩, PySem.W.mg_of X G a2, k2⟩,
    ⟨⟨_, fun_mk (st := s_word) l3 c3 k3, (fun_mk (st := s_word) l3 c3 k3).binds (ps := ["_law_number", "_law_many", "_law_back"]) fun _ _ _ _ _ _ us hl => match us, hl with | [_, _, _], _ => rfl⟩, PySem.W.mg_of X G a3, k3⟩,
    ⟨⟨_, fun_mk (st := s_words) l4 c4 k4, (fun_mk (st := s_words) l4 c4 k4).binds (ps := ["_law_box_here", "_law_many"]) fun _ _ _ _ _ _ us hl => match us, hl with | [_, _], _ => rfl⟩, PySem.W.mg_of X G a4, k4⟩,
    ⟨⟨_, fun_mk (st := s_m_is_gauge_name) l5 c5 k5, (fun_mk (st := s_m_is_gauge_name) l5 c5 k5).binds (ps := ["name"]) fun _ _ _ _ _ _ us hl => match us, hl with | [_], _ => rfl⟩, PySem.W.mg_of X G a5, k5⟩,
    ⟨_, fun_mk (st := s_BadGauge_init) l6 c6 k6, (fun_mk (st := s_BadGauge_init) l6 c6 k6).binds (ps := ["self", "name"]) fun _ _ _ _ _ _ us hl => match us, hl with | [_, _], _ => rfl⟩,
    a6,
    ty_BadGauge,
    ⟨_, fun_mk (st := s_Gauge_init) l7 c7 k7, (fun_mk (st := s_Gauge_init) l7 c7 k7).binds (ps := ["self", "name", "radius"]) fun _ _ _ _ _ _ us hl => match us, hl with | [_, _, _], _ => rfl⟩,
    ⟨mk_Gauge, a7, i7, kc_Gauge⟩,
    ⟨_, fun_mk (st := s_CoarseGauge_init) l8 c8 k8, kbn_mk fun s us ws l1 l2 => match us, ws, l1, l2 with | [_, _, _], [_], _, _ => .of_eq rfl⟩,
    ⟨mk_CoarseGauge, a8, i8, kc_CoarseGauge⟩,
    ⟨_, fun_mk (st := s_LateGauge_init) l9 c9 k9, kbn_mk fun s us ws l1 l2 => match us, ws, l1, l2 with | [_, _, _], [_, _], _, _ => .of_eq rfl⟩,
    ⟨mk_LateGauge, a9, i9, kc_LateGauge⟩,
    ⟨_, fun_mk (st := s_LateCoarseGauge_init) l10 c10 k10, kbn_mk fun s us ws l1 l2 => match us, ws, l1, l2 with | [_, _, _], [_, _, _], _, _ => .of_eq rfl, kbn_mkR fun s us ws l1 l2 => match us, ws, l1, l2 with | [_, _, _], [_, _, _], _, _ => .of_eq rfl⟩,
    ⟨mk_LateCoarseGauge, a10, i10, kc_LateCoarseGauge⟩,
    ⟨⟨_, fun_mk (st := s_specs) l11 c11 k11, (fun_mk (st := s_specs) l11 c11 k11).binds (ps := ["_law_box_here", "_law_words_here"]) fun _ _ _ _ _ _ us hl => match us, hl with | [_, _], _ => rfl⟩, PySem.W.mg_of X G a11, k11⟩,
    ⟨⟨_, fun_mk (st := s_gauge) l12 c12 k12, (fun_mk (st := s_gauge) l12 c12 k12).binds (ps := ["_law_spec"]) fun _ _ _ _ _ _ us hl => match us, hl with | [_], _ => rfl⟩, PySem.W.mg_of X G a12, k12⟩,
    ⟨⟨_, fun_mk (st := s_gauges) l13 c13 k13, (fun_mk (st := s_gauges) l13 c13 k13).binds (ps := ["_law_specs_here"]) fun _ _ _ _ _ _ us hl => match us, hl with | [_], _ => rfl⟩, PySem.W.mg_of X G a13, k13⟩,
    ⟨_, fun_mk (st := s_DuplicateGauge_init) l14 c14 k14, (fun_mk (st := s_DuplicateGauge_init) l14 c14 k14).binds (ps := ["self", "name"]) fun _ _ _ _ _ _ us hl => match us, hl with | [_, _], _ => rfl⟩,
    a14,
    ty_DuplicateGauge,
    ⟨_, fun_mk (st := s_UnknownGauge_init) l15 c15 k15, (fun_mk (st := s_UnknownGauge_init) l15 c15 k15).binds (ps := ["self", "name"]) fun _ _ _ _ _ _ us hl => match us, hl with | [_, _], _ => rfl⟩,
    a15,
    ty_UnknownGauge,
    ⟨_, fun_mk (st := s_Rack_names) l16 c16 k16, (fun_mk (st := s_Rack_names) l16 c16 k16).binds (ps := ["self"]) fun _ _ _ _ _ _ us hl => match us, hl with | [_], _ => rfl⟩,
    ⟨a16, i16, k16⟩,
    ⟨_, fun_mk (st := s_Rack_contains) l17 c17 k17, (fun_mk (st := s_Rack_contains) l17 c17 k17).binds (ps := ["self", "x"]) fun _ _ _ _ _ _ us hl => match us, hl with | [_, _], _ => rfl⟩,
    ⟨a17, i17, k17⟩,
    ⟨_, fun_mk (st := s_Rack_gauge) l18 c18 k18, (fun_mk (st := s_Rack_gauge) l18 c18 k18).binds (ps := ["self", "name"]) fun _ _ _ _ _ _ us hl => match us, hl with | [_, _], _ => rfl⟩,
    ⟨a18, i18, k18⟩,
    ⟨_, fun_mk (st := s_Rack_faults) l19 c19 k19, (fun_mk (st := s_Rack_faults) l19 c19 k19).binds (ps := ["self"]) fun _ _ _ _ _ _ us hl => match us, hl with | [_], _ => rfl⟩,
    ⟨a19, i19, k19⟩,
    ⟨_, fun_mk (st := s_Rack_refuse_unknown) l20 c20 k20, (fun_mk (st := s_Rack_refuse_unknown) l20 c20 k20).binds (ps := ["self", "names"]) fun _ _ _ _ _ _ us hl => match us, hl with | [_, _], _ => rfl⟩,
    ⟨a20, i20, k20⟩,
    ⟨⟨_, fun_mk (st := s_m_faults_of) l21 c21 k21, (fun_mk (st := s_m_faults_of) l21 c21 k21).binds (ps := ["names", "together"]) fun _ _ _ _ _ _ us hl => match us, hl with | [_, _], _ => rfl⟩, PySem.W.mg_of X G a21, k21⟩,
    fun H => .inr ⟨_, _, _, em22, rfl, rfl, (show (0 : Nat) ≤ sizeLine by decide), .nil⟩,
    ⟨_, _, _, _, _, _, _, _, _, _, l22, c22, kw22, rfl, (fun a w0 rest => by cases rest <;> rfl), (fun a rest => by cases rest <;> exact ⟨_, _, _, _, _, _, rfl, rfl, rfl⟩)⟩,
    ⟨mk_Rack, a22, i22, kc_Rack⟩,
    ⟨cr_Rack, cg_Rack⟩,
    ⟨_, ma23, ⟨_, mr23⟩, mf23⟩,
    fun H => .inr ⟨_, _, _, em23, rfl, rfl, (show (0 : Nat) ≤ sizeLine by decide), .nil⟩,
    defD_mk l23 c23 k23 kw23 (fun T kV doc pm an cdv ct us its h1 h2 => match us, its, h1, h2 with | [_, _, _], [_], _, _ => ⟨_, rfl, rfl⟩) (fun T kV doc pm an cdv ct us its h1 h2 => match us, its, h1, h2 with | [_, _], [_], _, _ => ⟨_, rfl, rfl⟩),
    ⟨⟨_, fun_mk (st := s_m_choices) l24 c24 k24, (fun_mk (st := s_m_choices) l24 c24 k24).binds (ps := ["many", "size"]) fun _ _ _ _ _ _ us hl => match us, hl with | [_, _], _ => rfl⟩, PySem.W.mg_of X G a24, k24⟩,
    ⟨⟨_, fun_mk (st := s_m_liar_lots) l25 c25 k25, (fun_mk (st := s_m_liar_lots) l25 c25 k25).binds (ps := ["rack", "liars"]) fun _ _ _ _ _ _ us hl => match us, hl with | [_, _], _ => rfl⟩, PySem.W.mg_of X G a25, k25⟩,
    ⟨⟨_, fun_mk (st := s_groups) l26 c26 k26, (fun_mk (st := s_groups) l26 c26 k26).binds (ps := ["_law_box_here", "_law_words_here"]) fun _ _ _ _ _ _ us hl => match us, hl with | [_, _], _ => rfl⟩, PySem.W.mg_of X G a26, k26⟩,
    ⟨⟨_, fun_mk (st := s_faults) l27 c27 k27, (fun_mk (st := s_faults) l27 c27 k27).binds (ps := ["_law_words_here", "_law_groups_here"]) fun _ _ _ _ _ _ us hl => match us, hl with | [_, _], _ => rfl⟩, PySem.W.mg_of X G a27, k27⟩,
    ⟨⟨_, fun_mk (st := s_picks) l28 c28 k28, (fun_mk (st := s_picks) l28 c28 k28).binds (ps := ["_law_many", "_law_count"]) fun _ _ _ _ _ _ us hl => match us, hl with | [_, _], _ => rfl⟩, PySem.W.mg_of X G a28, k28⟩,
    ⟨⟨_, fun_mk (st := s_lots) l29 c29 k29, (fun_mk (st := s_lots) l29 c29 k29).binds (ps := ["_law_words_here", "_law_faults_here", "_law_count"]) fun _ _ _ _ _ _ us hl => match us, hl with | [_, _, _], _ => rfl⟩, PySem.W.mg_of X G a29, k29⟩,
    ⟨⟨_, fun_mk (st := s_law) l30 c30 k30, (fun_mk (st := s_law) l30 c30 k30).binds (ps := ["_law_script"]) fun _ _ _ _ _ _ us hl => match us, hl with | [_], _ => rfl⟩, PySem.W.mg_of X G a30, k30⟩,
    PySem.W.mg_of X G aC_GaugeError,
    ⟨PySem.W.mg_of X G aC_GaugeError, ge_ga, ge_rd, ge_at⟩,
    PySem.W.mg_of X G aC_BadGauge,
    ⟨⟨nmBadGauge, qBadGauge, NBadGauge, bsBadGauge, _, snBadGauge, subBadGauge, abBadGauge, colBadGauge, ddBadGauge, m0BadGauge, m1BadGauge, m2BadGauge, m3BadGauge, m5BadGauge, xL_BadGauge, by rfl⟩, xsa_BadGauge, xeC_BadGauge, xtC_BadGauge, xkC_BadGauge⟩,
    ⟨xga_BadGauge, xgg_BadGauge, xeC_BadGauge, xhC_BadGauge⟩,
    n_BadGauge_name,
    PySem.W.mg_of X G aC_DuplicateGauge,
    ⟨⟨nmDuplicateGauge, qDuplicateGauge, NDuplicateGauge, bsDuplicateGauge, _, snDuplicateGauge, subDuplicateGauge, abDuplicateGauge, colDuplicateGauge, ddDuplicateGauge, m0DuplicateGauge, m1DuplicateGauge, m2DuplicateGauge, m3DuplicateGauge, m5DuplicateGauge, xL_DuplicateGauge, by rfl⟩, xsa_DuplicateGauge, xeC_DuplicateGauge, xtC_DuplicateGauge, xkC_DuplicateGauge⟩,
    ⟨xga_DuplicateGauge, xgg_DuplicateGauge, xeC_DuplicateGauge, xhC_DuplicateGauge⟩,
    n_DuplicateGauge_name,
    PySem.W.mg_of X G aC_UnknownGauge,
    ⟨⟨nmUnknownGauge, qUnknownGauge, NUnknownGauge, bsUnknownGauge, _, snUnknownGauge, subUnknownGauge, abUnknownGauge, colUnknownGauge, ddUnknownGauge, m0UnknownGauge, m1UnknownGauge, m2UnknownGauge, m3UnknownGauge, m5UnknownGauge, xL_UnknownGauge, by rfl⟩, xsa_UnknownGauge, xeC_UnknownGauge, xtC_UnknownGauge, xkC_UnknownGauge⟩,
    ⟨xga_UnknownGauge, xgg_UnknownGauge, xeC_UnknownGauge, xhC_UnknownGauge⟩,
    n_UnknownGauge_name,
    PySem.W.mg_of X G aC_Gauge,
    ⟨pg_Gauge, hd_Gauge, po_Gauge, sa_Gauge⟩,
    ⟨⟨pg_Gauge, hd_Gauge, po_Gauge, sa_Gauge⟩, cc_Gauge, oc_s, oc_t, mo_Gauge⟩,
    n_Gauge_name,
    n_Gauge_radius,
    n_Gauge_step,
    n_Gauge_late,
    n_Gauge_pace,
    PySem.W.mg_of X G aC_CoarseGauge,
    ⟨pg_CoarseGauge, hd_CoarseGauge, po_CoarseGauge, sa_CoarseGauge⟩,
    ⟨⟨pg_CoarseGauge, hd_CoarseGauge, po_CoarseGauge, sa_CoarseGauge⟩, cc_CoarseGauge, oc_s, oc_t, mo_CoarseGauge⟩,
    n_CoarseGauge_name,
    n_CoarseGauge_radius,
    n_CoarseGauge_step,
    n_CoarseGauge_late,
    n_CoarseGauge_pace,
    PySem.W.mg_of X G aC_LateGauge,
    ⟨pg_LateGauge, hd_LateGauge, po_LateGauge, sa_LateGauge⟩,
    ⟨⟨pg_LateGauge, hd_LateGauge, po_LateGauge, sa_LateGauge⟩, cc_LateGauge, oc_s, oc_t, mo_LateGauge⟩,
    n_LateGauge_name,
    n_LateGauge_radius,
    n_LateGauge_step,
    n_LateGauge_late,
    n_LateGauge_pace,
    PySem.W.mg_of X G aC_LateCoarseGauge,
    ⟨pg_LateCoarseGauge, hd_LateCoarseGauge, po_LateCoarseGauge, sa_LateCoarseGauge⟩,
    ⟨⟨pg_LateCoarseGauge, hd_LateCoarseGauge, po_LateCoarseGauge, sa_LateCoarseGauge⟩, cc_LateCoarseGauge, oc_s, oc_t, mo_LateCoarseGauge⟩,
    n_LateCoarseGauge_name,
    n_LateCoarseGauge_radius,
    n_LateCoarseGauge_step,
    n_LateCoarseGauge_late,
    n_LateCoarseGauge_pace,
    PySem.W.mg_of X G aC_Rack,
    ⟨pg_Rack, hd_Rack, po_Rack, sa_Rack⟩,
    ⟨⟨pg_Rack, hd_Rack, po_Rack, sa_Rack⟩, cc_Rack, oc_s, oc_t, mo_Rack⟩,
    n_Rack__gauges,
    n_Rack__faults,
    ⟨cg_CoarseGauge, cr_CoarseGauge, ca_CoarseGauge, k8⟩,
    ⟨cg_Gauge, cr_Gauge, ca_Gauge, k7⟩,
    ⟨cg_LateGauge, cr_LateGauge, ca_LateGauge, k9⟩,
    ⟨_, PySem.W.mg_of X G kg_BARRED, rfl⟩,
    fun H => .inr ⟨_, _, _, kt_BARRED, rfl, rfl, (show (4 : Nat) ≤ sizeLine by decide), (.cons ⟨_, rfl⟩ (.cons ⟨_, rfl⟩ (.cons ⟨_, rfl⟩ (.cons ⟨_, rfl⟩ .nil))))⟩,
    ⟨_, PySem.W.mg_of X G kg_LETTERS, ⟨_, rfl⟩⟩,
    ⟨cr_Gauge, cg_Gauge⟩,
    ⟨_, kc_Gauge_LONGEST, ⟨_, rfl⟩⟩,
    ⟨_, PySem.W.mg_of X G aC_Gauge, rfl⟩,
    PySem.W.mg_none_of X G z_all,
    PySem.W.mg_none_of X G z_int,
    PySem.W.mg_none_of X G z_isinstance,
    PySem.W.mg_none_of X G z_len,
    PySem.W.mg_none_of X G z_list,
    PySem.W.mg_none_of X G z_range,
    PySem.W.mg_none_of X G z_str,
    PySem.W.mg_none_of X G z_tuple⟩
  haveI : MainP l.prog := ⟨xn_file, xn_top⟩
  exact ⟨_, fun s v => .of_eq rfl, fun base _ _ => ok_law' tx (fun_mk (st := s_law) l30 c30 k30)⟩
def ac_GaugeError (K : PySem.W.Frag) : Addr := He.ga K "GaugeError"
def ac_BadGauge (K : PySem.W.Frag) : Addr := He.ga K "BadGauge"
def ac_DuplicateGauge (K : PySem.W.Frag) : Addr := He.ga K "DuplicateGauge"
def ac_UnknownGauge (K : PySem.W.Frag) : Addr := He.ga K "UnknownGauge"
def ac_Gauge (K : PySem.W.Frag) : Addr := He.ga K "Gauge"
def ac_CoarseGauge (K : PySem.W.Frag) : Addr := He.ga K "CoarseGauge"
def ac_LateGauge (K : PySem.W.Frag) : Addr := He.ga K "LateGauge"
def ac_LateCoarseGauge (K : PySem.W.Frag) : Addr := He.ga K "LateCoarseGauge"
def ac_Rack (K : PySem.W.Frag) : Addr := He.ga K "Rack"
def ak_BARRED (K : PySem.W.Frag) : Addr := He.ga K "BARRED"
def af_1 (K : PySem.W.Frag) : Addr := He.ga K "_law_take"
def af_2 (K : PySem.W.Frag) : Addr := He.ga K "_law_box"
def af_3 (K : PySem.W.Frag) : Addr := He.ga K "_law_word"
def af_4 (K : PySem.W.Frag) : Addr := He.ga K "_law_words"
def af_5 (K : PySem.W.Frag) : Addr := He.ga K "is_gauge_name"
def af_6 (K : PySem.W.Frag) : Addr := He.ma K (ac_BadGauge K) "__init__"
def af_7 (K : PySem.W.Frag) : Addr := He.ma K (ac_Gauge K) "__init__"
def af_8 (K : PySem.W.Frag) : Addr := He.ma K (ac_CoarseGauge K) "__init__"
def af_9 (K : PySem.W.Frag) : Addr := He.ma K (ac_LateGauge K) "__init__"
def af_10 (K : PySem.W.Frag) : Addr := He.ma K (ac_LateCoarseGauge K) "__init__"
def af_11 (K : PySem.W.Frag) : Addr := He.ga K "_law_specs"
def af_12 (K : PySem.W.Frag) : Addr := He.ga K "_law_gauge"
def af_13 (K : PySem.W.Frag) : Addr := He.ga K "_law_gauges"
def af_14 (K : PySem.W.Frag) : Addr := He.ma K (ac_DuplicateGauge K) "__init__"
def af_15 (K : PySem.W.Frag) : Addr := He.ma K (ac_UnknownGauge K) "__init__"
def af_16 (K : PySem.W.Frag) : Addr := He.ma K (ac_Rack K) "names"
def af_17 (K : PySem.W.Frag) : Addr := He.ma K (ac_Rack K) "__contains__"
def af_18 (K : PySem.W.Frag) : Addr := He.ma K (ac_Rack K) "gauge"
def af_19 (K : PySem.W.Frag) : Addr := He.ma K (ac_Rack K) "faults"
def af_20 (K : PySem.W.Frag) : Addr := He.ma K (ac_Rack K) "_refuse_unknown"
def af_21 (K : PySem.W.Frag) : Addr := He.ga K "_faults_of"
def af_22 (K : PySem.W.Frag) : Addr := He.ma K (ac_Rack K) "__init__"
def akd_22 (K : PySem.W.Frag) : Addr := vAd (fxK K (af_22 K))
def ak_em_Rack_init (K : PySem.W.Frag) : Addr := nsA K (akd_22 K) "together"
def ap_23 (K : PySem.W.Frag) : Addr := cpA K (ac_Rack K) "of"
def af_23 (K : PySem.W.Frag) : Addr := rf K (ap_23 K) "classmethod"
def akd_23 (K : PySem.W.Frag) : Addr := vAd (fxD K (af_23 K))
def ak_em_Rack_of (K : PySem.W.Frag) : Addr := t1A K (akd_23 K)
def af_24 (K : PySem.W.Frag) : Addr := He.ga K "_choices"
def af_25 (K : PySem.W.Frag) : Addr := He.ga K "liar_lots"
def af_26 (K : PySem.W.Frag) : Addr := He.ga K "_law_groups"
def af_27 (K : PySem.W.Frag) : Addr := He.ga K "_law_faults"
def af_28 (K : PySem.W.Frag) : Addr := He.ga K "_law_picks"
def af_29 (K : PySem.W.Frag) : Addr := He.ga K "_law_lots"
def af_30 (K : PySem.W.Frag) : Addr := He.ga K "law"
def ex_0 : List (PySem.W.Frag → Bool) := [
  fun K => decide (PySem.W.nsIn K mainGlobals "GaugeError" = some (some (.ref (ac_GaugeError K)))),
  fun K => decide (PySem.W.nsIn K mainGlobals "BadGauge" = some (some (.ref (ac_BadGauge K)))),
  fun K => decide (PySem.W.nsIn K mainGlobals "DuplicateGauge" = some (some (.ref (ac_DuplicateGauge K)))),
  fun K => decide (PySem.W.nsIn K mainGlobals "UnknownGauge" = some (some (.ref (ac_UnknownGauge K)))),
  fun K => decide (PySem.W.nsIn K mainGlobals "Gauge" = some (some (.ref (ac_Gauge K)))),
  fun K => decide (PySem.W.nsIn K mainGlobals "CoarseGauge" = some (some (.ref (ac_CoarseGauge K)))),
  fun K => decide (PySem.W.nsIn K mainGlobals "LateGauge" = some (some (.ref (ac_LateGauge K)))),
  fun K => decide (PySem.W.nsIn K mainGlobals "LateCoarseGauge" = some (some (.ref (ac_LateCoarseGauge K)))),
  fun K => decide (PySem.W.nsIn K mainGlobals "Rack" = some (some (.ref (ac_Rack K)))),
  fun K => decide (PySem.W.nsIn K mainGlobals "_law_take" = some (some (.ref (af_1 K)))),
  fun K => decide (fxD K (af_1 K) = Value.none),
  fun K => PySem.W.codeIn K (fxC K (af_1 K)) "_law_take",
  fun K => PySem.W.keepIn K (.ref (af_1 K)),
  fun K => decide (PySem.W.nsIn K mainGlobals "_law_box" = some (some (.ref (af_2 K)))),
  fun K => decide (fxD K (af_2 K) = Value.none),
  fun K => PySem.W.codeIn K (fxC K (af_2 K)) "_law_box",
  fun K => PySem.W.keepIn K (.ref (af_2 K)),
  fun K => decide (PySem.W.nsIn K mainGlobals "_law_word" = some (some (.ref (af_3 K)))),
  fun K => decide (fxD K (af_3 K) = Value.none),
  fun K => PySem.W.codeIn K (fxC K (af_3 K)) "_law_word",
  fun K => PySem.W.keepIn K (.ref (af_3 K)),
  fun K => decide (PySem.W.nsIn K mainGlobals "_law_words" = some (some (.ref (af_4 K)))),
  fun K => decide (fxD K (af_4 K) = Value.none),
  fun K => PySem.W.codeIn K (fxC K (af_4 K)) "_law_words",
  fun K => PySem.W.keepIn K (.ref (af_4 K)),
  fun K => decide (PySem.W.nsIn K mainGlobals "is_gauge_name" = some (some (.ref (af_5 K)))),
  fun K => decide (fxD K (af_5 K) = Value.none),
  fun K => PySem.W.codeIn K (fxC K (af_5 K)) "is_gauge_name",
  fun K => PySem.W.keepIn K (.ref (af_5 K)),
  fun K => decide (PySem.W.findIn K (.ref (ac_BadGauge K)) "__init__" = some (some (.ref (af_6 K)))),
  fun K => PySem.W.isFn K (.ref (af_6 K)),
  fun K => decide (fxD K (af_6 K) = Value.none),
  fun K => PySem.W.codeIn K (fxC K (af_6 K)) "BadGauge.__init__",
  fun K => PySem.W.keepIn K (.ref (af_6 K)),
  fun K => decide (PySem.W.typeIn K (.ref (af_6 K)) = some (.type "function")),
  fun K => decide (PySem.W.findIn K (.ref (ac_Gauge K)) "__init__" = some (some (.ref (af_7 K)))),
  fun K => PySem.W.isFn K (.ref (af_7 K)),
  fun K => decide (fxD K (af_7 K) = Value.none),
  fun K => PySem.W.codeIn K (fxC K (af_7 K)) "Gauge.__init__",
  fun K => PySem.W.keepIn K (.ref (af_7 K)),
  fun K => PySem.W.makesIn K (ac_Gauge K),
  fun K => PySem.W.keepIn K (.ref (ac_Gauge K)),
  fun K => decide (PySem.W.findIn K (.ref (ac_CoarseGauge K)) "__init__" = some (some (.ref (af_8 K)))),
  fun K => PySem.W.isFn K (.ref (af_8 K)),
  fun K => decide (fxD K (af_8 K) = Value.none),
  fun K => decide (fxK K (af_8 K) = Value.none),
  fun K => PySem.W.codeIn K (fxC K (af_8 K)) "CoarseGauge.__init__",
  fun K => PySem.W.keepIn K (.ref (af_8 K)),
  fun K => PySem.W.makesIn K (ac_CoarseGauge K),
  fun K => PySem.W.keepIn K (.ref (ac_CoarseGauge K)),
  fun K => decide (PySem.W.findIn K (.ref (ac_LateGauge K)) "__init__" = some (some (.ref (af_9 K)))),
  fun K => PySem.W.isFn K (.ref (af_9 K)),
  fun K => decide (fxD K (af_9 K) = Value.none),
  fun K => decide (fxK K (af_9 K) = Value.none),
  fun K => PySem.W.codeIn K (fxC K (af_9 K)) "LateGauge.__init__",
  fun K => PySem.W.keepIn K (.ref (af_9 K)),
  fun K => PySem.W.makesIn K (ac_LateGauge K),
  fun K => PySem.W.keepIn K (.ref (ac_LateGauge K)),
  fun K => decide (PySem.W.findIn K (.ref (ac_LateCoarseGauge K)) "__init__" = some (some (.ref (af_10 K)))),
  fun K => PySem.W.isFn K (.ref (af_10 K))]
def ex_1 : List (PySem.W.Frag → Bool) := [
  fun K => decide (fxD K (af_10 K) = Value.none),
  fun K => decide (fxK K (af_10 K) = Value.none),
  fun K => PySem.W.codeIn K (fxC K (af_10 K)) "LateCoarseGauge.__init__",
  fun K => PySem.W.keepIn K (.ref (af_10 K)),
  fun K => PySem.W.makesIn K (ac_LateCoarseGauge K),
  fun K => PySem.W.keepIn K (.ref (ac_LateCoarseGauge K)),
  fun K => decide (PySem.W.nsIn K mainGlobals "_law_specs" = some (some (.ref (af_11 K)))),
  fun K => decide (fxD K (af_11 K) = Value.none),
  fun K => PySem.W.codeIn K (fxC K (af_11 K)) "_law_specs",
  fun K => PySem.W.keepIn K (.ref (af_11 K)),
  fun K => decide (PySem.W.nsIn K mainGlobals "_law_gauge" = some (some (.ref (af_12 K)))),
  fun K => decide (fxD K (af_12 K) = Value.none),
  fun K => PySem.W.codeIn K (fxC K (af_12 K)) "_law_gauge",
  fun K => PySem.W.keepIn K (.ref (af_12 K)),
  fun K => decide (PySem.W.nsIn K mainGlobals "_law_gauges" = some (some (.ref (af_13 K)))),
  fun K => decide (fxD K (af_13 K) = Value.none),
  fun K => PySem.W.codeIn K (fxC K (af_13 K)) "_law_gauges",
  fun K => PySem.W.keepIn K (.ref (af_13 K)),
  fun K => decide (PySem.W.findIn K (.ref (ac_DuplicateGauge K)) "__init__" = some (some (.ref (af_14 K)))),
  fun K => PySem.W.isFn K (.ref (af_14 K)),
  fun K => decide (fxD K (af_14 K) = Value.none),
  fun K => PySem.W.codeIn K (fxC K (af_14 K)) "DuplicateGauge.__init__",
  fun K => PySem.W.keepIn K (.ref (af_14 K)),
  fun K => decide (PySem.W.typeIn K (.ref (af_14 K)) = some (.type "function")),
  fun K => decide (PySem.W.findIn K (.ref (ac_UnknownGauge K)) "__init__" = some (some (.ref (af_15 K)))),
  fun K => PySem.W.isFn K (.ref (af_15 K)),
  fun K => decide (fxD K (af_15 K) = Value.none),
  fun K => PySem.W.codeIn K (fxC K (af_15 K)) "UnknownGauge.__init__",
  fun K => PySem.W.keepIn K (.ref (af_15 K)),
  fun K => decide (PySem.W.typeIn K (.ref (af_15 K)) = some (.type "function")),
  fun K => decide (PySem.W.findIn K (.ref (ac_Rack K)) "names" = some (some (.ref (af_16 K)))),
  fun K => PySem.W.isFn K (.ref (af_16 K)),
  fun K => decide (fxD K (af_16 K) = Value.none),
  fun K => PySem.W.codeIn K (fxC K (af_16 K)) "Rack.names",
  fun K => PySem.W.keepIn K (.ref (af_16 K)),
  fun K => decide (PySem.W.findIn K (.ref (ac_Rack K)) "__contains__" = some (some (.ref (af_17 K)))),
  fun K => PySem.W.isFn K (.ref (af_17 K)),
  fun K => decide (fxD K (af_17 K) = Value.none),
  fun K => PySem.W.codeIn K (fxC K (af_17 K)) "Rack.__contains__",
  fun K => PySem.W.keepIn K (.ref (af_17 K)),
  fun K => decide (PySem.W.findIn K (.ref (ac_Rack K)) "gauge" = some (some (.ref (af_18 K)))),
  fun K => PySem.W.isFn K (.ref (af_18 K)),
  fun K => decide (fxD K (af_18 K) = Value.none),
  fun K => PySem.W.codeIn K (fxC K (af_18 K)) "Rack.gauge",
  fun K => PySem.W.keepIn K (.ref (af_18 K)),
  fun K => decide (PySem.W.findIn K (.ref (ac_Rack K)) "faults" = some (some (.ref (af_19 K)))),
  fun K => PySem.W.isFn K (.ref (af_19 K)),
  fun K => decide (fxD K (af_19 K) = Value.none),
  fun K => PySem.W.codeIn K (fxC K (af_19 K)) "Rack.faults",
  fun K => PySem.W.keepIn K (.ref (af_19 K)),
  fun K => decide (PySem.W.findIn K (.ref (ac_Rack K)) "_refuse_unknown" = some (some (.ref (af_20 K)))),
  fun K => PySem.W.isFn K (.ref (af_20 K)),
  fun K => decide (fxD K (af_20 K) = Value.none),
  fun K => PySem.W.codeIn K (fxC K (af_20 K)) "Rack._refuse_unknown",
  fun K => PySem.W.keepIn K (.ref (af_20 K)),
  fun K => decide (PySem.W.nsIn K mainGlobals "_faults_of" = some (some (.ref (af_21 K)))),
  fun K => decide (fxD K (af_21 K) = Value.none),
  fun K => PySem.W.codeIn K (fxC K (af_21 K)) "_faults_of",
  fun K => PySem.W.keepIn K (.ref (af_21 K)),
  fun K => decide (PySem.W.findIn K (.ref (ac_Rack K)) "__init__" = some (some (.ref (af_22 K))))]
def ex_2 : List (PySem.W.Frag → Bool) := [
  fun K => PySem.W.isFn K (.ref (af_22 K)),
  fun K => decide (fxD K (af_22 K) = Value.none),
  fun K => decide (fxK K (af_22 K) = Value.ref (akd_22 K)),
  fun K => PySem.W.codeIn K (fxC K (af_22 K)) "Rack.__init__",
  fun K => PySem.W.keepIn K (.ref (af_22 K)),
  fun K => decide (PySem.W.nsIn K (akd_22 K) "together" = some (some (.ref (ak_em_Rack_init K)))),
  fun K => t0B K (ak_em_Rack_init K),
  fun K => PySem.W.makesIn K (ac_Rack K),
  fun K => PySem.W.keepIn K (.ref (ac_Rack K)),
  fun K => decide (PySem.W.specialIn K (.ref (ac_Rack K)) "__getattribute__" = some (some (.builtin "type.__getattribute__"))),
  fun K => PySem.W.readsIn K (ac_Rack K) (.type "type"),
  fun K => cgB K (ac_Rack K) "classmethod.__get__" "of",
  fun K => recB K (ap_23 K) "classmethod" (af_23 K),
  fun K => PySem.W.fnIn K (af_23 K),
  fun K => decide (fxD K (af_23 K) = Value.ref (akd_23 K)),
  fun K => PySem.W.codeIn K (fxC K (af_23 K)) "Rack.of",
  fun K => PySem.W.keepIn K (.ref (af_23 K)),
  fun K => t1B K (akd_23 K) (ak_em_Rack_of K),
  fun K => t0B K (ak_em_Rack_of K),
  fun K => decide (PySem.W.nsIn K mainGlobals "_choices" = some (some (.ref (af_24 K)))),
  fun K => decide (fxD K (af_24 K) = Value.none),
  fun K => PySem.W.codeIn K (fxC K (af_24 K)) "_choices",
  fun K => PySem.W.keepIn K (.ref (af_24 K)),
  fun K => decide (PySem.W.nsIn K mainGlobals "liar_lots" = some (some (.ref (af_25 K)))),
  fun K => decide (fxD K (af_25 K) = Value.none),
  fun K => PySem.W.codeIn K (fxC K (af_25 K)) "liar_lots",
  fun K => PySem.W.keepIn K (.ref (af_25 K)),
  fun K => decide (PySem.W.nsIn K mainGlobals "_law_groups" = some (some (.ref (af_26 K)))),
  fun K => decide (fxD K (af_26 K) = Value.none),
  fun K => PySem.W.codeIn K (fxC K (af_26 K)) "_law_groups",
  fun K => PySem.W.keepIn K (.ref (af_26 K)),
  fun K => decide (PySem.W.nsIn K mainGlobals "_law_faults" = some (some (.ref (af_27 K)))),
  fun K => decide (fxD K (af_27 K) = Value.none),
  fun K => PySem.W.codeIn K (fxC K (af_27 K)) "_law_faults",
  fun K => PySem.W.keepIn K (.ref (af_27 K)),
  fun K => decide (PySem.W.nsIn K mainGlobals "_law_picks" = some (some (.ref (af_28 K)))),
  fun K => decide (fxD K (af_28 K) = Value.none),
  fun K => PySem.W.codeIn K (fxC K (af_28 K)) "_law_picks",
  fun K => PySem.W.keepIn K (.ref (af_28 K)),
  fun K => decide (PySem.W.nsIn K mainGlobals "_law_lots" = some (some (.ref (af_29 K)))),
  fun K => decide (fxD K (af_29 K) = Value.none),
  fun K => PySem.W.codeIn K (fxC K (af_29 K)) "_law_lots",
  fun K => PySem.W.keepIn K (.ref (af_29 K)),
  fun K => decide (PySem.W.nsIn K mainGlobals "law" = some (some (.ref (af_30 K)))),
  fun K => decide (fxD K (af_30 K) = Value.none),
  fun K => PySem.W.codeIn K (fxC K (af_30 K)) "law",
  fun K => PySem.W.keepIn K (.ref (af_30 K)),
  fun K => decide (PySem.W.specialIn K (.ref (ac_GaugeError K)) "__getattribute__" = some (some (.builtin "type.__getattribute__"))),
  fun K => PySem.W.readsIn K (ac_GaugeError K) (.type "type"),
  fun K => cbB K (ac_GaugeError K) "__init__" "ValueError.__init__",
  fun K => exB K (ac_BadGauge K) [.ref (ac_GaugeError K), .type "ValueError", .type "Exception", .type "BaseException", .type "object"],
  fun K => decide (PySem.W.findIn K (.ref (ac_BadGauge K)) "__setattr__" = some (some (.builtin "object.__setattr__"))),
  fun K => decide (PySem.W.findIn K (.ref (ac_BadGauge K)) "__getattribute__" = some (some (.builtin "BaseException.__getattribute__"))),
  fun K => decide (PySem.W.findIn K (.ref (ac_BadGauge K)) "__getattr__" = some none),
  fun K => PySem.W.keepIn K (.ref (ac_BadGauge K)),
  fun K => decide (PySem.W.subIn K (.ref (ac_BadGauge K)) (.type "BaseException") = some true),
  fun K => decide (PySem.W.typeIn K (.ref (ac_BadGauge K)) = some (.type "type")),
  fun K => PySem.W.hasDictIn K (ac_BadGauge K),
  fun K => PySem.W.isClsIn K (ac_BadGauge K),
  fun K => decide (PySem.W.findIn K (.ref (ac_BadGauge K)) "name" = some none)]
def ex_3 : List (PySem.W.Frag → Bool) := [
  fun K => exB K (ac_DuplicateGauge K) [.ref (ac_GaugeError K), .type "ValueError", .type "Exception", .type "BaseException", .type "object"],
  fun K => decide (PySem.W.findIn K (.ref (ac_DuplicateGauge K)) "__setattr__" = some (some (.builtin "object.__setattr__"))),
  fun K => decide (PySem.W.findIn K (.ref (ac_DuplicateGauge K)) "__getattribute__" = some (some (.builtin "BaseException.__getattribute__"))),
  fun K => decide (PySem.W.findIn K (.ref (ac_DuplicateGauge K)) "__getattr__" = some none),
  fun K => PySem.W.keepIn K (.ref (ac_DuplicateGauge K)),
  fun K => decide (PySem.W.subIn K (.ref (ac_DuplicateGauge K)) (.type "BaseException") = some true),
  fun K => decide (PySem.W.typeIn K (.ref (ac_DuplicateGauge K)) = some (.type "type")),
  fun K => PySem.W.hasDictIn K (ac_DuplicateGauge K),
  fun K => PySem.W.isClsIn K (ac_DuplicateGauge K),
  fun K => decide (PySem.W.findIn K (.ref (ac_DuplicateGauge K)) "name" = some none),
  fun K => exB K (ac_UnknownGauge K) [.ref (ac_GaugeError K), .type "ValueError", .type "Exception", .type "BaseException", .type "object"],
  fun K => decide (PySem.W.findIn K (.ref (ac_UnknownGauge K)) "__setattr__" = some (some (.builtin "object.__setattr__"))),
  fun K => decide (PySem.W.findIn K (.ref (ac_UnknownGauge K)) "__getattribute__" = some (some (.builtin "BaseException.__getattribute__"))),
  fun K => decide (PySem.W.findIn K (.ref (ac_UnknownGauge K)) "__getattr__" = some none),
  fun K => PySem.W.keepIn K (.ref (ac_UnknownGauge K)),
  fun K => decide (PySem.W.subIn K (.ref (ac_UnknownGauge K)) (.type "BaseException") = some true),
  fun K => decide (PySem.W.typeIn K (.ref (ac_UnknownGauge K)) = some (.type "type")),
  fun K => PySem.W.hasDictIn K (ac_UnknownGauge K),
  fun K => PySem.W.isClsIn K (ac_UnknownGauge K),
  fun K => decide (PySem.W.findIn K (.ref (ac_UnknownGauge K)) "name" = some none),
  fun K => PySem.W.plainGet K (ac_Gauge K) Str.empty,
  fun K => PySem.W.hasDictIn K (ac_Gauge K),
  fun K => PySem.W.plainOver K (ac_Gauge K),
  fun K => decide (PySem.W.findIn K (.ref (ac_Gauge K)) "__setattr__" = some (some (.builtin "object.__setattr__"))),
  fun K => decide (PySem.W.findIn K (.ref (ac_Gauge K)) "__class__" = some (some (.builtin "object.__class__"))),
  fun K => decide (PySem.W.specialIn K (.builtin "object.__class__") "__get__" = some (some (.builtin "getset_descriptor.__get__"))),
  fun K => decide (PySem.W.takesIn K (.builtin "object.__class__") = some true),
  fun K => decide (PySem.W.mroIn K (ac_Gauge K) (.type "object") = some true),
  fun K => decide (PySem.W.findIn K (.ref (ac_Gauge K)) "name" = some none),
  fun K => decide (PySem.W.findIn K (.ref (ac_Gauge K)) "radius" = some none),
  fun K => decide (PySem.W.findIn K (.ref (ac_Gauge K)) "step" = some none),
  fun K => decide (PySem.W.findIn K (.ref (ac_Gauge K)) "late" = some none),
  fun K => decide (PySem.W.findIn K (.ref (ac_Gauge K)) "pace" = some none),
  fun K => PySem.W.plainGet K (ac_CoarseGauge K) Str.empty,
  fun K => PySem.W.hasDictIn K (ac_CoarseGauge K),
  fun K => PySem.W.plainOver K (ac_CoarseGauge K),
  fun K => decide (PySem.W.findIn K (.ref (ac_CoarseGauge K)) "__setattr__" = some (some (.builtin "object.__setattr__"))),
  fun K => decide (PySem.W.findIn K (.ref (ac_CoarseGauge K)) "__class__" = some (some (.builtin "object.__class__"))),
  fun K => decide (PySem.W.mroIn K (ac_CoarseGauge K) (.type "object") = some true),
  fun K => decide (PySem.W.findIn K (.ref (ac_CoarseGauge K)) "name" = some none),
  fun K => decide (PySem.W.findIn K (.ref (ac_CoarseGauge K)) "radius" = some none),
  fun K => decide (PySem.W.findIn K (.ref (ac_CoarseGauge K)) "step" = some none),
  fun K => decide (PySem.W.findIn K (.ref (ac_CoarseGauge K)) "late" = some none),
  fun K => decide (PySem.W.findIn K (.ref (ac_CoarseGauge K)) "pace" = some none),
  fun K => PySem.W.plainGet K (ac_LateGauge K) Str.empty,
  fun K => PySem.W.hasDictIn K (ac_LateGauge K),
  fun K => PySem.W.plainOver K (ac_LateGauge K),
  fun K => decide (PySem.W.findIn K (.ref (ac_LateGauge K)) "__setattr__" = some (some (.builtin "object.__setattr__"))),
  fun K => decide (PySem.W.findIn K (.ref (ac_LateGauge K)) "__class__" = some (some (.builtin "object.__class__"))),
  fun K => decide (PySem.W.mroIn K (ac_LateGauge K) (.type "object") = some true),
  fun K => decide (PySem.W.findIn K (.ref (ac_LateGauge K)) "name" = some none),
  fun K => decide (PySem.W.findIn K (.ref (ac_LateGauge K)) "radius" = some none),
  fun K => decide (PySem.W.findIn K (.ref (ac_LateGauge K)) "step" = some none),
  fun K => decide (PySem.W.findIn K (.ref (ac_LateGauge K)) "late" = some none),
  fun K => decide (PySem.W.findIn K (.ref (ac_LateGauge K)) "pace" = some none),
  fun K => PySem.W.plainGet K (ac_LateCoarseGauge K) Str.empty,
  fun K => PySem.W.hasDictIn K (ac_LateCoarseGauge K),
  fun K => PySem.W.plainOver K (ac_LateCoarseGauge K),
  fun K => decide (PySem.W.findIn K (.ref (ac_LateCoarseGauge K)) "__setattr__" = some (some (.builtin "object.__setattr__"))),
  fun K => decide (PySem.W.findIn K (.ref (ac_LateCoarseGauge K)) "__class__" = some (some (.builtin "object.__class__")))]
def ex_4 : List (PySem.W.Frag → Bool) := [
  fun K => decide (PySem.W.mroIn K (ac_LateCoarseGauge K) (.type "object") = some true),
  fun K => decide (PySem.W.findIn K (.ref (ac_LateCoarseGauge K)) "name" = some none),
  fun K => decide (PySem.W.findIn K (.ref (ac_LateCoarseGauge K)) "radius" = some none),
  fun K => decide (PySem.W.findIn K (.ref (ac_LateCoarseGauge K)) "step" = some none),
  fun K => decide (PySem.W.findIn K (.ref (ac_LateCoarseGauge K)) "late" = some none),
  fun K => decide (PySem.W.findIn K (.ref (ac_LateCoarseGauge K)) "pace" = some none),
  fun K => PySem.W.plainGet K (ac_Rack K) Str.empty,
  fun K => PySem.W.hasDictIn K (ac_Rack K),
  fun K => PySem.W.plainOver K (ac_Rack K),
  fun K => decide (PySem.W.findIn K (.ref (ac_Rack K)) "__setattr__" = some (some (.builtin "object.__setattr__"))),
  fun K => decide (PySem.W.findIn K (.ref (ac_Rack K)) "__class__" = some (some (.builtin "object.__class__"))),
  fun K => decide (PySem.W.mroIn K (ac_Rack K) (.type "object") = some true),
  fun K => decide (PySem.W.findIn K (.ref (ac_Rack K)) "_gauges" = some none),
  fun K => decide (PySem.W.findIn K (.ref (ac_Rack K)) "_faults" = some none),
  fun K => decide (PySem.W.specialIn K (.ref (ac_CoarseGauge K)) "__getattribute__" = some (some (.builtin "type.__getattribute__"))),
  fun K => PySem.W.readsIn K (ac_CoarseGauge K) (.type "type"),
  fun K => cvB K (ac_CoarseGauge K) "__init__" (af_8 K),
  fun K => decide (PySem.W.specialIn K (.ref (ac_Gauge K)) "__getattribute__" = some (some (.builtin "type.__getattribute__"))),
  fun K => PySem.W.readsIn K (ac_Gauge K) (.type "type"),
  fun K => cvB K (ac_Gauge K) "__init__" (af_7 K),
  fun K => decide (PySem.W.specialIn K (.ref (ac_LateGauge K)) "__getattribute__" = some (some (.builtin "type.__getattribute__"))),
  fun K => PySem.W.readsIn K (ac_LateGauge K) (.type "type"),
  fun K => cvB K (ac_LateGauge K) "__init__" (af_9 K),
  fun K => decide (PySem.W.nsIn K mainGlobals "BARRED" = some (some (.ref (ak_BARRED K)))),
  fun K => tsB K (ak_BARRED K) ["rank", "trim", "weigh", "together"],
  fun K => gsB K "LETTERS" "abcdefghijklmnopqrstuvwxyz",
  fun K => ciB K (ac_Gauge K) "LONGEST" 12,
  fun K => decide (PySem.W.nsIn K mainGlobals "all" = some none),
  fun K => decide (PySem.W.nsIn K mainGlobals "int" = some none),
  fun K => decide (PySem.W.nsIn K mainGlobals "isinstance" = some none),
  fun K => decide (PySem.W.nsIn K mainGlobals "len" = some none),
  fun K => decide (PySem.W.nsIn K mainGlobals "list" = some none),
  fun K => decide (PySem.W.nsIn K mainGlobals "range" = some none),
  fun K => decide (PySem.W.nsIn K mainGlobals "str" = some none),
  fun K => decide (PySem.W.nsIn K mainGlobals "tuple" = some none)]
def exs : List (PySem.W.Frag → Bool) := ex_0 ++ ex_1 ++ ex_2 ++ ex_3 ++ ex_4
def fns : List FxS := [
  ⟨af_1, "_law_take", "_law_take", s_take, []⟩,
  ⟨af_2, "_law_box", "_law_box", s_box, []⟩,
  ⟨af_3, "_law_word", "_law_word", s_word, []⟩,
  ⟨af_4, "_law_words", "_law_words", s_words, []⟩,
  ⟨af_5, "is_gauge_name", "is_gauge_name", s_m_is_gauge_name, []⟩,
  ⟨af_6, "__init__", "BadGauge.__init__", s_BadGauge_init, []⟩,
  ⟨af_7, "__init__", "Gauge.__init__", s_Gauge_init, []⟩,
  ⟨af_8, "__init__", "CoarseGauge.__init__", s_CoarseGauge_init, []⟩,
  ⟨af_9, "__init__", "LateGauge.__init__", s_LateGauge_init, []⟩,
  ⟨af_10, "__init__", "LateCoarseGauge.__init__", s_LateCoarseGauge_init, []⟩,
  ⟨af_11, "_law_specs", "_law_specs", s_specs, []⟩,
  ⟨af_12, "_law_gauge", "_law_gauge", s_gauge, []⟩,
  ⟨af_13, "_law_gauges", "_law_gauges", s_gauges, []⟩,
  ⟨af_14, "__init__", "DuplicateGauge.__init__", s_DuplicateGauge_init, []⟩,
  ⟨af_15, "__init__", "UnknownGauge.__init__", s_UnknownGauge_init, []⟩,
  ⟨af_16, "names", "Rack.names", s_Rack_names, []⟩,
  ⟨af_17, "__contains__", "Rack.__contains__", s_Rack_contains, []⟩,
  ⟨af_18, "gauge", "Rack.gauge", s_Rack_gauge, []⟩,
  ⟨af_19, "faults", "Rack.faults", s_Rack_faults, []⟩,
  ⟨af_20, "_refuse_unknown", "Rack._refuse_unknown", s_Rack_refuse_unknown, []⟩,
  ⟨af_21, "_faults_of", "_faults_of", s_m_faults_of, []⟩,
  ⟨af_22, "__init__", "Rack.__init__", s_Rack_init, []⟩,
  ⟨af_23, "of", "Rack.of", s_Rack_of, []⟩,
  ⟨af_24, "_choices", "_choices", s_m_choices, []⟩,
  ⟨af_25, "liar_lots", "liar_lots", s_m_liar_lots, []⟩,
  ⟨af_26, "_law_groups", "_law_groups", s_groups, []⟩,
  ⟨af_27, "_law_faults", "_law_faults", s_faults, []⟩,
  ⟨af_28, "_law_picks", "_law_picks", s_picks, []⟩,
  ⟨af_29, "_law_lots", "_law_lots", s_lots, []⟩,
  ⟨af_30, "law", "law", s_law, []⟩]
theorem facts {l : PySem.W.OpenLaw} {w : World} {K : PySem.W.Frag} {h : Heap} {mg : Str → Option Value} {fa : Addr} (X : K.In h) (G : h.Ns mainGlobals mg) (hfa : mg "law" = some (.ref fa)) (xn_file : ((l.prog.main.file : Str) == (Str.ofString "/claim/cut.py")) = true) (xn_top : (l.prog.main.scope.names.lookup ("super" : Str)).isSome = false) (c : SaysB exs fns K) :
    ∃ fd : FuncData, (∀ (s : Shared) (v : Value), BindsTo s fd ⟨[v], []⟩ [("_law_script", v)]) ∧ ∀ base : Heap, K.In base → base.Ns mainGlobals mg → FnOk l.prog w K mg base CX0 10 fa fd ["_law_script"] (spLaw K) := by
  obtain ⟨oc1, od1, sl1, dc1, pm1, an1, ct1, l1⟩ := fx_ok (c.fnc 0)
  rw [show fxD K (af_1 K) = Value.none from of_decide_eq_true (c.fact 10)] at l1
  obtain ⟨oc2, od2, sl2, dc2, pm2, an2, ct2, l2⟩ := fx_ok (c.fnc 1)
  rw [show fxD K (af_2 K) = Value.none from of_decide_eq_true (c.fact 14)] at l2
  obtain ⟨oc3, od3, sl3, dc3, pm3, an3, ct3, l3⟩ := fx_ok (c.fnc 2)
  rw [show fxD K (af_3 K) = Value.none from of_decide_eq_true (c.fact 18)] at l3
  obtain ⟨oc4, od4, sl4, dc4, pm4, an4, ct4, l4⟩ := fx_ok (c.fnc 3)
  rw [show fxD K (af_4 K) = Value.none from of_decide_eq_true (c.fact 22)] at l4
  obtain ⟨oc5, od5, sl5, dc5, pm5, an5, ct5, l5⟩ := fx_ok (c.fnc 4)
  rw [show fxD K (af_5 K) = Value.none from of_decide_eq_true (c.fact 26)] at l5
  obtain ⟨oc6, od6, sl6, dc6, pm6, an6, ct6, l6⟩ := fx_ok (c.fnc 5)
  rw [show fxD K (af_6 K) = Value.none from of_decide_eq_true (c.fact 31)] at l6
  obtain ⟨oc7, od7, sl7, dc7, pm7, an7, ct7, l7⟩ := fx_ok (c.fnc 6)
  rw [show fxD K (af_7 K) = Value.none from of_decide_eq_true (c.fact 37)] at l7
  obtain ⟨oc8, od8, sl8, dc8, pm8, an8, ct8, l8⟩ := fx_ok (c.fnc 7)
  rw [show fxD K (af_8 K) = Value.none from of_decide_eq_true (c.fact 44)] at l8
  rw [show fxK K (af_8 K) = Value.none from of_decide_eq_true (c.fact 45)] at l8
  obtain ⟨oc9, od9, sl9, dc9, pm9, an9, ct9, l9⟩ := fx_ok (c.fnc 8)
  rw [show fxD K (af_9 K) = Value.none from of_decide_eq_true (c.fact 52)] at l9
  rw [show fxK K (af_9 K) = Value.none from of_decide_eq_true (c.fact 53)] at l9
  obtain ⟨oc10, od10, sl10, dc10, pm10, an10, ct10, l10⟩ := fx_ok (c.fnc 9)
  rw [show fxD K (af_10 K) = Value.none from of_decide_eq_true (c.fact 60)] at l10
  rw [show fxK K (af_10 K) = Value.none from of_decide_eq_true (c.fact 61)] at l10
  obtain ⟨oc11, od11, sl11, dc11, pm11, an11, ct11, l11⟩ := fx_ok (c.fnc 10)
  rw [show fxD K (af_11 K) = Value.none from of_decide_eq_true (c.fact 67)] at l11
  obtain ⟨oc12, od12, sl12, dc12, pm12, an12, ct12, l12⟩ := fx_ok (c.fnc 11)
  rw [show fxD K (af_12 K) = Value.none from of_decide_eq_true (c.fact 71)] at l12
  obtain ⟨oc13, od13, sl13, dc13, pm13, an13, ct13, l13⟩ := fx_ok (c.fnc 12)
  rw [show fxD K (af_13 K) = Value.none from of_decide_eq_true (c.fact 75)] at l13
  obtain ⟨oc14, od14, sl14, dc14, pm14, an14, ct14, l14⟩ := fx_ok (c.fnc 13)
  rw [show fxD K (af_14 K) = Value.none from of_decide_eq_true (c.fact 80)] at l14
  obtain ⟨oc15, od15, sl15, dc15, pm15, an15, ct15, l15⟩ := fx_ok (c.fnc 14)
  rw [show fxD K (af_15 K) = Value.none from of_decide_eq_true (c.fact 86)] at l15
  obtain ⟨oc16, od16, sl16, dc16, pm16, an16, ct16, l16⟩ := fx_ok (c.fnc 15)
  rw [show fxD K (af_16 K) = Value.none from of_decide_eq_true (c.fact 92)] at l16
  obtain ⟨oc17, od17, sl17, dc17, pm17, an17, ct17, l17⟩ := fx_ok (c.fnc 16)
  rw [show fxD K (af_17 K) = Value.none from of_decide_eq_true (c.fact 97)] at l17
  obtain ⟨oc18, od18, sl18, dc18, pm18, an18, ct18, l18⟩ := fx_ok (c.fnc 17)
  rw [show fxD K (af_18 K) = Value.none from of_decide_eq_true (c.fact 102)] at l18
  obtain ⟨oc19, od19, sl19, dc19, pm19, an19, ct19, l19⟩ := fx_ok (c.fnc 18)
  rw [show fxD K (af_19 K) = Value.none from of_decide_eq_true (c.fact 107)] at l19
  obtain ⟨oc20, od20, sl20, dc20, pm20, an20, ct20, l20⟩ := fx_ok (c.fnc 19)
  rw [show fxD K (af_20 K) = Value.none from of_decide_eq_true (c.fact 112)] at l20
  obtain ⟨oc21, od21, sl21, dc21, pm21, an21, ct21, l21⟩ := fx_ok (c.fnc 20)
  rw [show fxD K (af_21 K) = Value.none from of_decide_eq_true (c.fact 116)] at l21
  obtain ⟨oc22, od22, sl22, dc22, pm22, an22, ct22, l22⟩ := fx_ok (c.fnc 21)
  rw [show fxD K (af_22 K) = Value.none from of_decide_eq_true (c.fact 121)] at l22
  rw [show fxK K (af_22 K) = Value.ref (akd_22 K) from of_decide_eq_true (c.fact 122)] at l22
  obtain ⟨oem22, nem22, sem22, em22⟩ := t0B_ok (c.fact 126)
  obtain ⟨rs23, mr23⟩ := recB_ok (c.fact 132)
  obtain ⟨oc23, od23, sl23, dc23, pm23, an23, ct23, l23⟩ := fx_ok (c.fnc 22)
  rw [show fxD K (af_23 K) = Value.ref (akd_23 K) from of_decide_eq_true (c.fact 134)] at l23
  obtain ⟨okd23, nkd23, skd23, kw23⟩ := t1B_ok (c.fact 137)
  obtain ⟨oem23, nem23, sem23, em23⟩ := t0B_ok (c.fact 138)
  obtain ⟨oc24, od24, sl24, dc24, pm24, an24, ct24, l24⟩ := fx_ok (c.fnc 23)
  rw [show fxD K (af_24 K) = Value.none from of_decide_eq_true (c.fact 140)] at l24
  obtain ⟨oc25, od25, sl25, dc25, pm25, an25, ct25, l25⟩ := fx_ok (c.fnc 24)
  rw [show fxD K (af_25 K) = Value.none from of_decide_eq_true (c.fact 144)] at l25
  obtain ⟨oc26, od26, sl26, dc26, pm26, an26, ct26, l26⟩ := fx_ok (c.fnc 25)
  rw [show fxD K (af_26 K) = Value.none from of_decide_eq_true (c.fact 148)] at l26
  obtain ⟨oc27, od27, sl27, dc27, pm27, an27, ct27, l27⟩ := fx_ok (c.fnc 26)
  rw [show fxD K (af_27 K) = Value.none from of_decide_eq_true (c.fact 152)] at l27
  obtain ⟨oc28, od28, sl28, dc28, pm28, an28, ct28, l28⟩ := fx_ok (c.fnc 27)
  rw [show fxD K (af_28 K) = Value.none from of_decide_eq_true (c.fact 156)] at l28
  obtain ⟨oc29, od29, sl29, dc29, pm29, an29, ct29, l29⟩ := fx_ok (c.fnc 28)
  rw [show fxD K (af_29 K) = Value.none from of_decide_eq_true (c.fact 160)] at l29
  obtain ⟨oc30, od30, sl30, dc30, pm30, an30, ct30, l30⟩ := fx_ok (c.fnc 29)
  rw [show fxD K (af_30 K) = Value.none from of_decide_eq_true (c.fact 164)] at l30
  obtain ⟨_, _, _, _, _, _, _, _, _, _, _, _, _, _, xL_BadGauge⟩ := exB_ok (c.fact 170)
  obtain ⟨_, _, _, _, _, _, _, _, _, _, _, _, _, _, xL_DuplicateGauge⟩ := exB_ok (c.fact 180)
  obtain ⟨_, _, _, _, _, _, _, _, _, _, _, _, _, _, xL_UnknownGauge⟩ := exB_ok (c.fact 190)
  obtain ⟨_, _, _, ts_BARRED, hts_BARRED, kt_BARRED⟩ := tsB_ok (c.fact 264)
  obtain ⟨t0_BARRED, t1_BARRED, t2_BARRED, t3_BARRED, rfl⟩ : ∃ t0 t1 t2 t3, ts_BARRED = [t0, t1, t2, t3] := match ts_BARRED, hts_BARRED with | [t0, t1, t2, t3], _ => ⟨t0, t1, t2, t3, rfl⟩
  obtain ⟨_, kg_LETTERS⟩ := gsB_ok (c.fact 265)
  obtain ⟨_, h_kc_Gauge_LONGEST⟩ := ciB_ok (c.fact 266)
  exact all_mk X G hfa (of_decide_eq_true (c.fact 0))
    (of_decide_eq_true (c.fact 1))
    (of_decide_eq_true (c.fact 2))
    (of_decide_eq_true (c.fact 3))
    (of_decide_eq_true (c.fact 4))
    (of_decide_eq_true (c.fact 5))
    (of_decide_eq_true (c.fact 6))
    (of_decide_eq_true (c.fact 7))
    (of_decide_eq_true (c.fact 8))
    (of_decide_eq_true (c.fact 9))
    l1
    (c.fact 11)
    (c.fact 12)
    (of_decide_eq_true (c.fact 13))
    l2
    (c.fact 15)
    (c.fact 16)
    (of_decide_eq_true (c.fact 17))
    l3
    (c.fact 19)
    (c.fact 20)
    (of_decide_eq_true (c.fact 21))
    l4
    (c.fact 23)
    (c.fact 24)
    (of_decide_eq_true (c.fact 25))
    l5
    (c.fact 27)
    (c.fact 28)
    (of_decide_eq_true (c.fact 29))
    (c.fact 30)
    l6
    (c.fact 32)
    (c.fact 33)
    (of_decide_eq_true (c.fact 34))
    (of_decide_eq_true (c.fact 35))
    (c.fact 36)
    l7
    (c.fact 38)
    (c.fact 39)
    (c.fact 40)
    (c.fact 41)
    (of_decide_eq_true (c.fact 42))
    (c.fact 43)
    l8
    (c.fact 46)
    (c.fact 47)
    (c.fact 48)
    (c.fact 49)
    (of_decide_eq_true (c.fact 50))
    (c.fact 51)
    l9
    (c.fact 54)
    (c.fact 55)
    (c.fact 56)
    (c.fact 57)
    (of_decide_eq_true (c.fact 58))
    (c.fact 59)
    l10
    (c.fact 62)
    (c.fact 63)
    (c.fact 64)
    (c.fact 65)
    (of_decide_eq_true (c.fact 66))
    l11
    (c.fact 68)
    (c.fact 69)
    (of_decide_eq_true (c.fact 70))
    l12
    (c.fact 72)
    (c.fact 73)
    (of_decide_eq_true (c.fact 74))
    l13
    (c.fact 76)
    (c.fact 77)
    (of_decide_eq_true (c.fact 78))
    (c.fact 79)
    l14
    (c.fact 81)
    (c.fact 82)
    (of_decide_eq_true (c.fact 83))
    (of_decide_eq_true (c.fact 84))
    (c.fact 85)
    l15
    (c.fact 87)
    (c.fact 88)
    (of_decide_eq_true (c.fact 89))
    (of_decide_eq_true (c.fact 90))
    (c.fact 91)
    l16
    (c.fact 93)
    (c.fact 94)
    (of_decide_eq_true (c.fact 95))
    (c.fact 96)
    l17
    (c.fact 98)
    (c.fact 99)
    (of_decide_eq_true (c.fact 100))
    (c.fact 101)
    l18
    (c.fact 103)
    (c.fact 104)
    (of_decide_eq_true (c.fact 105))
    (c.fact 106)
    l19
    (c.fact 108)
    (c.fact 109)
    (of_decide_eq_true (c.fact 110))
    (c.fact 111)
    l20
    (c.fact 113)
    (c.fact 114)
    (of_decide_eq_true (c.fact 115))
    l21
    (c.fact 117)
    (c.fact 118)
    (of_decide_eq_true (c.fact 119))
    (c.fact 120)
    l22
    (c.fact 123)
    (c.fact 124)
    (of_decide_eq_true (c.fact 125))
    em22
    (c.fact 127)
    (c.fact 128)
    (of_decide_eq_true (c.fact 129))
    (c.fact 130)
    (cgB_ok (c.fact 131))
    mr23
    (c.fact 133)
    l23
    (c.fact 135)
    (c.fact 136)
    kw23
    em23
    (of_decide_eq_true (c.fact 139))
    l24
    (c.fact 141)
    (c.fact 142)
    (of_decide_eq_true (c.fact 143))
    l25
    (c.fact 145)
    (c.fact 146)
    (of_decide_eq_true (c.fact 147))
    l26
    (c.fact 149)
    (c.fact 150)
    (of_decide_eq_true (c.fact 151))
    l27
    (c.fact 153)
    (c.fact 154)
    (of_decide_eq_true (c.fact 155))
    l28
    (c.fact 157)
    (c.fact 158)
    (of_decide_eq_true (c.fact 159))
    l29
    (c.fact 161)
    (c.fact 162)
    (of_decide_eq_true (c.fact 163))
    l30
    (c.fact 165)
    (c.fact 166)
    (of_decide_eq_true (c.fact 167))
    (c.fact 168)
    (cbB_ok (c.fact 169))
    xL_BadGauge
    (of_decide_eq_true (c.fact 171))
    (of_decide_eq_true (c.fact 172))
    (of_decide_eq_true (c.fact 173))
    (c.fact 174)
    (of_decide_eq_true (c.fact 175))
    (of_decide_eq_true (c.fact 176))
    (c.fact 177)
    (c.fact 178)
    (of_decide_eq_true (c.fact 179))
    xL_DuplicateGauge
    (of_decide_eq_true (c.fact 181))
    (of_decide_eq_true (c.fact 182))
    (of_decide_eq_true (c.fact 183))
    (c.fact 184)
    (of_decide_eq_true (c.fact 185))
    (of_decide_eq_true (c.fact 186))
    (c.fact 187)
    (c.fact 188)
    (of_decide_eq_true (c.fact 189))
    xL_UnknownGauge
    (of_decide_eq_true (c.fact 191))
    (of_decide_eq_true (c.fact 192))
    (of_decide_eq_true (c.fact 193))
    (c.fact 194)
    (of_decide_eq_true (c.fact 195))
    (of_decide_eq_true (c.fact 196))
    (c.fact 197)
    (c.fact 198)
    (of_decide_eq_true (c.fact 199))
    (c.fact 200)
    (c.fact 201)
    (c.fact 202)
    (of_decide_eq_true (c.fact 203))
    (of_decide_eq_true (c.fact 204))
    (of_decide_eq_true (c.fact 205))
    (of_decide_eq_true (c.fact 206))
    (of_decide_eq_true (c.fact 207))
    (of_decide_eq_true (c.fact 208))
    (of_decide_eq_true (c.fact 209))
    (of_decide_eq_true (c.fact 210))
    (of_decide_eq_true (c.fact 211))
    (of_decide_eq_true (c.fact 212))
    (c.fact 213)
    (c.fact 214)
    (c.fact 215)
    (of_decide_eq_true (c.fact 216))
    (of_decide_eq_true (c.fact 217))
    (of_decide_eq_true (c.fact 218))
    (of_decide_eq_true (c.fact 219))
    (of_decide_eq_true (c.fact 220))
    (of_decide_eq_true (c.fact 221))
    (of_decide_eq_true (c.fact 222))
    (of_decide_eq_true (c.fact 223))
    (c.fact 224)
    (c.fact 225)
    (c.fact 226)
    (of_decide_eq_true (c.fact 227))
    (of_decide_eq_true (c.fact 228))
    (of_decide_eq_true (c.fact 229))
    (of_decide_eq_true (c.fact 230))
    (of_decide_eq_true (c.fact 231))
    (of_decide_eq_true (c.fact 232))
    (of_decide_eq_true (c.fact 233))
    (of_decide_eq_true (c.fact 234))
    (c.fact 235)
    (c.fact 236)
    (c.fact 237)
    (of_decide_eq_true (c.fact 238))
    (of_decide_eq_true (c.fact 239))
    (of_decide_eq_true (c.fact 240))
    (of_decide_eq_true (c.fact 241))
    (of_decide_eq_true (c.fact 242))
    (of_decide_eq_true (c.fact 243))
    (of_decide_eq_true (c.fact 244))
    (of_decide_eq_true (c.fact 245))
    (c.fact 246)
    (c.fact 247)
    (c.fact 248)
    (of_decide_eq_true (c.fact 249))
    (of_decide_eq_true (c.fact 250))
    (of_decide_eq_true (c.fact 251))
    (of_decide_eq_true (c.fact 252))
    (of_decide_eq_true (c.fact 253))
    (of_decide_eq_true (c.fact 254))
    (c.fact 255)
    (cvB_ok (c.fact 256))
    (of_decide_eq_true (c.fact 257))
    (c.fact 258)
    (cvB_ok (c.fact 259))
    (of_decide_eq_true (c.fact 260))
    (c.fact 261)
    (cvB_ok (c.fact 262))
    (of_decide_eq_true (c.fact 263))
    kt_BARRED
    kg_LETTERS
    h_kc_Gauge_LONGEST
    (of_decide_eq_true (c.fact 267))
    (of_decide_eq_true (c.fact 268))
    (of_decide_eq_true (c.fact 269))
    (of_decide_eq_true (c.fact 270))
    (of_decide_eq_true (c.fact 271))
    (of_decide_eq_true (c.fact 272))
    (of_decide_eq_true (c.fact 273))
    (of_decide_eq_true (c.fact 274))
    xn_file
    xn_top
def loose_0 : List PySem.Str := ["_wall", "__name__", "GaugeError", "BadStretch", "NoLevel", "Apart", "BadGauge", "DuplicateGauge", "UnknownGauge", "liar_lots", "_choices", "Stretch", "LETTERS", "BARRED", "is_gauge_name", "Gauge", "CoarseGauge", "LateGauge", "LateCoarseGauge", "_faults_of", "Rack", "_law_box", "_law_take", "_law_word", "_law_words", "_law_specs", "_law_gauge", "_law_gauges", "_law_groups", "_law_faults"]
def loose_1 : List PySem.Str := ["_law_picks", "_law_lots"]
def looseN : List PySem.Str := loose_0 ++ loose_1
abbrev RR : PySem.W.OpenRow := PySem.W.OpenLaw.row PySem.Challenge.rw_gaugemiss_k31_liar_lots
abbrev hkB : PySem.W.Hook := hookB 6 exs fns
def obR (s : PySem.W.SharedT) : Bool × List FxV := obsBG 6 exs fns (HandSHeadRun.getT s)
theorem obR_eq (s : PySem.W.SharedT) : obR s = hkB.obs s.abs := obsBG_eq (HandSHeadRun.getT_eq s)
set_option maxHeartbeats 0 in
theorem runA (w : World) (os : OsState) : (HandSHeadRun.endF (HandSHeadRun.stepQ (HandSHeadRun.denQ HandSHeadRun.tabQ) RR.prog w) 40000 RR.prog w os).map (fun s => (HandSHeadRun.looksF RR.prog (PySem.W.boot_heap w.params) s.abs, HandSHeadRun.seenQ (PySem.W.view RR.prog [36]) looseN (importedModules RR.prog.main.body) (fun s => PySem.W.xlAt (PySem.W.view RR.prog [36]) [] s && PySem.W.recOk RR.toRowW.records s) s.abs)) = some (true, PySem.W.openGood (PySem.W.view RR.prog [36]) looseN) := by
  kernel_rfl
set_option maxHeartbeats 0 in
theorem runB (w : World) (os : OsState) : (HandSHeadRun.endF (HandSHeadRun.stepQ (HandSHeadRun.denQ HandSHeadRun.tabQ) RR.prog w) 40000 RR.prog w os).map obR = some (valB fns) := by
  kernel_rfl
theorem runR (w : World) : HandSHeadRun.RunEq RR (PySem.W.view RR.prog [36]) hkB obR 40000 looseN w := by
  intro os
  obtain ⟨s, hs, ha⟩ := Option.map_eq_some_iff.mp (runA w os)
  obtain ⟨s2, hs2, hb⟩ := Option.map_eq_some_iff.mp (runB w os)
  rw [hs] at hs2
  cases hs2
  rw [hs]
  exact some3 (Prod.mk.inj ha).1 (Prod.mk.inj ha).2 hb
end Lw
open PySem PySem.W PyProof.Rows
set_option maxRecDepth 100000 in
set_option maxHeartbeats 0 in
theorem PySem.Challenge.cw_gaugemiss_k31_liar_lots_holds : PySem.Challenge.rw_gaugemiss_k31_liar_lots.Holds := by
  w_on; o_law
  refine HandSHeadRun.head_any (r := OpenLaw.row PySem.Challenge.rw_gaugemiss_k31_liar_lots) (q := view (OpenLaw.row PySem.Challenge.rw_gaugemiss_k31_liar_lots).prog [36]) (H := Lw.hkB) (ob := Lw.obR) (M := 40000) (loose := Lw.looseN) (d := HandSHeadRun.topDef (OpenLaw.row PySem.Challenge.rw_gaugemiss_k31_liar_lots).prog 36) (kwd := []) Lw.obR_eq
    (by kernel_rfl) (fun s => by kernel_rfl) Lw.runR (by kernel_rfl) (by kernel_rfl) (by kernel_rfl) (by rfl) (by first | assumption | decide +kernel) (by decide +kernel) ⟨rfl, rfl, rfl, rfl, rfl, by decide +kernel⟩ ?hw ?hc
  case hw => w_witness2
  case hc =>
    refine L2.walk_ofE (l := PySem.Challenge.rw_gaugemiss_k31_liar_lots) (n := 63) (k := 10) (x := "_law_script") (CX := L2.CX0) rfl (by decide) (by kernel_rfl) ⟨rfl, by decide, by decide⟩ ?F (fun _ _ _ _ z => z)
    intro w mg fa h Y G hmg0
    obtain ⟨K, KX, c⟩ := Y
    have hmg : mg ("law" : PySem.Str) = some (.ref fa) := by
      have e : (HandSHeadRun.topDef (OpenLaw.row PySem.Challenge.rw_gaugemiss_k31_liar_lots).prog 36).name = ("law" : PySem.Str) := by kernel_rfl
      rw [← e]
      exact hmg0
    obtain ⟨fd, hb, hF⟩ := Lw.facts (l := PySem.Challenge.rw_gaugemiss_k31_liar_lots) (w := w) KX G hmg (by first | rfl | decide +kernel) (by first | rfl | decide +kernel) c
    exact ⟨K, fd, Lw.spLaw K, KX, hb, fun H a ns hl _ hS => ⟨a, ns, rfl, hS, hl, fun _ => rfl⟩, hF⟩

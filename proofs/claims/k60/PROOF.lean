import PyProof.Rows.All
import Wide.All
import OpenK.AllK
import Wide.FinOn
import HandS.ForMost
import HandS.Wide
import HandS.IsInst
import HandS.Star
import HandS.Style
import HandS.TupAny
import HandS.Conv
import HandS.Zip
import HandS.DictComp
import HandS.More
import KE.KDictPairs
import HandS.TupMul
import HandS.SortKw
import KE.DataMinMax
import KE.KDictZip
import HandS.Zip0
import HandS.ListItems
import PyProof.ListNew
import HandS.SetKeys
import KE.KDictExact
import KE.KDictItemsList
import HandS.Flow
import KE.DataCmp
import KE.GoesEnum
import HandS.Iter
import HandS.SortRule
import HandS.OwnEq
import HandS.Codes
import HandS.MakeKwOnly
import HandS.FStr
import KE.KCallOwn
import PyProof.CollectIter
import PyProof.Comp
import HandS.CallLocal
import HandS.NoneIn
import HandS.Exc
import HandS.ExcOwn
import HandS.ExcInit
import HandS.ExcField
import HandS.ExcIs
import HandS.WordsExc
import KE.KExcIs
import HandS.Deep
import PyProof.AutoSeq1
import KE.KIntText
import PySem.Challenge.RW_leanround_k60_terms_and_claims_otherwise
set_option Elab.async false
set_option linter.all false
set_option autoImplicit false
set_option maxRecDepth 100000
/-! G: a layer over HandS: values as plain data (PyData), the heap out of sight.
A world: which addresses are frozen data (Fz), which are boxes (B: a list of three ints that calls may change), the abstract heap. -/
namespace G
open PySem L2

def boxD : PyData := .dict [(.none, .none)]
def Bx (H : Hp) (a : Addr) : Prop := ∃ x y z : Int, H a = some (.lst [.int x, .int y, .int z])

structure Wd where
  Fz : Addr → Prop
  B : Addr → Prop
  H : Hp

structure Ok (W : Wd) : Prop where
  fz : ∀ a, W.Fz a → W.H a ≠ none
  bx : ∀ a, W.B a → Bx W.H a
  fb : ∀ a, W.Fz a → ¬ W.B a

/-- grown: all that was is as it was, but for boxes -/
structure Le (W W' : Wd) : Prop where
  ok : Ok W'
  fz : ∀ a, W.Fz a → W'.Fz a
  b : ∀ a, W.B a → W'.B a
  ex : ∀ a o, W.H a = some o → ¬ W.B a → W'.H a = some o
  nf : ∀ a, W'.Fz a → ¬ W.Fz a → W.H a = none
  nb : ∀ a, W'.B a → ¬ W.B a → W.H a = none

theorem Le.refl {W : Wd} (o : Ok W) : Le W W :=
  ⟨o, fun _ h => h, fun _ h => h, fun _ _ h _ => h, fun _ h n => absurd h n, fun _ h n => absurd h n⟩
theorem Le.trans {W W1 W2 : Wd} (a : Le W W1) (b : Le W1 W2) : Le W W2 where
  ok := b.ok
  fz := fun x h => b.fz x (a.fz x h)
  b := fun x h => b.b x (a.b x h)
  ex := fun x o h n => b.ex x o (a.ex x o h n) fun h1 => by
    have := a.nb x h1 n
    rw [h] at this
    cases this
  nf := fun x h n => by
    by_cases h1 : W1.Fz x
    · exact a.nf x h1 n
    · have e := b.nf x h h1
      cases q : W.H x with
      | none => rfl
      | some o =>
        by_cases hb : W.B x
        · obtain ⟨_, _, _, e2⟩ := a.ok.bx x (a.b x hb)
          rw [e] at e2
          cases e2
        · have := a.ex x o q hb
          rw [e] at this
          cases this
  nb := fun x h n => by
    by_cases h1 : W1.B x
    · exact a.nb x h1 n
    · have e := b.nb x h h1
      cases q : W.H x with
      | none => rfl
      | some o =>
        have := a.ex x o q n
        rw [e] at this
        cases this

theorem Le.fresh {W W1 : Wd} (e : Le W W1) {p : Addr} (h2 : W1.H p = none) : W.H p = none := by
  cases q : W.H p with
  | none => rfl
  | some o =>
    by_cases hb : W.B p
    · obtain ⟨_, _, _, e2⟩ := e.ok.bx p (e.b p hb)
      rw [h2] at e2
      cases e2
    · have := e.ex p o q hb
      rw [h2] at this
      cases this
/-- what frozen things and things that never change keep -/
structure Lf (W W' : Wd) : Prop where
  ok : Ok W'
  fz : ∀ a, W.Fz a → W'.Fz a
  b : ∀ a, W.B a → W'.B a
  ex : ∀ a o, W.H a = some o → (W.Fz a ∨ ¬ Mut (some o)) → W'.H a = some o
theorem Lf.refl {W : Wd} (o : Ok W) : Lf W W := ⟨o, fun _ h => h, fun _ h => h, fun _ _ h _ => h⟩
theorem Lf.trans {W W1 W2 : Wd} (a : Lf W W1) (b : Lf W1 W2) : Lf W W2 :=
  ⟨b.ok, fun x h => b.fz x (a.fz x h), fun x h => b.b x (a.b x h), fun x o h m => b.ex x o (a.ex x o h m) (m.imp (a.fz x) id)⟩
theorem Le.lf {W W' : Wd} (o : Ok W) (e : Le W W') : Lf W W' :=
  ⟨e.ok, e.fz, e.b, fun x u h m => e.ex x u h fun hb => by
    rcases m with m | m
    · exact o.fb x m hb
    · obtain ⟨_, _, _, q⟩ := o.bx x hb
      rw [q] at h
      cases h
      exact m trivial⟩

/-- a dict's key as data -/
def keyD : Key → PyData
  | .inl i => .int i
  | .inr x => .str x
mutual
/-- the value v is the data d -/
inductive Df (K : PySem.W.Frag) (W : Wd) : V → PyData → Prop
  | non : Df K W .non .none
  | bl (b : Bool) : Df K W (.bl b) (.bool b)
  | int (i : Int) : Df K W (.int i) (.int i)
  | str (x : Str) : Df K W (.str x) (.str x)
  | bx {a : Addr} : W.B a → Df K W (.ref a) boxD
  | lst {a : Addr} {xs : List V} {ds : List PyData} : ((Rd W.H a (.lst xs) ∧ W.Fz a) ∨ ∀ H, SqL K H a xs) → Dfs K W xs ds → Df K W (.ref a) (.list ds)
  | tup {a : Addr} {xs : List V} {ds : List PyData} : SqT K W.H a xs → Dfs K W xs ds → Df K W (.ref a) (.tuple ds)
  | dct {a : Addr} {kvs : List (Key × V)} {ds : List (PyData × PyData)} : Rd W.H a (.dK kvs) → W.Fz a → Dps K W kvs ds → Df K W (.ref a) (.dict ds)
  | pt {a : Addr} {o : Obj} {xs : List V} {ds : List PyData} : W.H a = some (.frz o (.tup xs)) → o.dict = none → Dfs K W xs ds → Df K W (.ref a) (.dict [(.none, .tuple ds)])
  | ob {a C dx : Addr} {fs : List (Str × V)} {ds : List (PyData × PyData)} : W.H a = some (.ins C dx fs) → W.Fz a → Dps K W (fs.map fun p => (Sum.inr p.1, p.2)) ds → Df K W (.ref a) (.dict ((.none, .int (C : Nat)) :: ds))
  | dt {a : Addr} {kvs : List (List Key × V)} {es : List ((Int × Int) × Bool)} : Rd W.H a (.dT kvs) → W.Fz a → kvs = es.map (fun p => ([.inl p.1.1, .inl p.1.2], .bl p.2)) → Df K W (.ref a) (.dict ((.none, .str (Str.ofString "")) :: es.map fun p => (.tuple [.int p.1.1, .int p.1.2], .bool p.2)))
  | rf {a : Addr} : Df K W (.ref a) (.dict [(.none, .bool true), (.none, .int (a : Nat))])
inductive Dps (K : PySem.W.Frag) (W : Wd) : List (Key × V) → List (PyData × PyData) → Prop
  | nil : Dps K W [] []
  | cons {k : Key} {v : V} {kvs : List (Key × V)} {d : PyData} {ds : List (PyData × PyData)} : Df K W v d → Dps K W kvs ds → Dps K W ((k, v) :: kvs) ((keyD k, d) :: ds)
inductive Dfs (K : PySem.W.Frag) (W : Wd) : List V → List PyData → Prop
  | nil : Dfs K W [] []
  | cons {v : V} {vs : List V} {d : PyData} {ds : List PyData} : Df K W v d → Dfs K W vs ds → Dfs K W (v :: vs) (d :: ds)
end

section
variable {K : PySem.W.Frag} {W W' W0 : Wd}
theorem Lf.rdT (e : Lf W W') {a : Addr} {xs : List V} (h : SqT K W.H a xs) : SqT K W'.H a xs := by
  rcases h with (h | ⟨o, h⟩) | h
  · exact .inl (.inl (e.ex _ _ h (.inr fun m => m)))
  · exact .inl (.inr ⟨o, e.ex _ _ h (.inr fun m => m)⟩)
  · exact .inr h
theorem Lf.rdL (e : Lf W W') {a : Addr} {xs : HO} (h : Rd W.H a xs) (f : W.Fz a) : Rd W'.H a xs := by
  rcases h with h | ⟨o, h⟩
  · exact .inl (e.ex _ _ h (.inl f))
  · exact .inr ⟨o, e.ex _ _ h (.inl f)⟩
mutual
theorem Df.mono (e : Lf W W') : ∀ (d : PyData) (v : V), Df K W v d → Df K W' v d
  | _, _, .non => .non
  | _, _, .bl b => .bl b
  | _, _, .int i => .int i
  | _, _, .str x => .str x
  | _, _, .bx h => .bx (e.b _ h)
  | .list ds, _, .lst h t => .lst (h.imp (fun h => ⟨e.rdL h.1 h.2, e.fz _ h.2⟩) id) (Dfs.mono e ds _ t)
  | .tuple ds, _, .tup h t => .tup (e.rdT h) (Dfs.mono e ds _ t)
  | .dict ds, _, .dct h f t => .dct (e.rdL h f) (e.fz _ f) (Dps.mono e ds _ t)
  | .dict [(.none, .tuple ds)], _, .pt h n t => .pt (e.ex _ _ h (.inr fun m => m)) n (Dfs.mono e ds _ t)
  | .dict ((.none, .int _) :: ds), _, .ob h f t => .ob (e.ex _ _ h (.inl f)) (e.fz _ f) (Dps.mono e ds _ t)
  | .dict ((.none, .str _) :: _), _, .dt h f t => .dt (e.rdL h f) (e.fz _ f) t
  | .dict [(.none, .bool _), _], _, .rf => .rf
theorem Dps.mono (e : Lf W W') : ∀ (ds : List (PyData × PyData)) (kvs : List (Key × V)), Dps K W kvs ds → Dps K W' kvs ds
  | [], _, .nil => .nil
  | (_, d) :: ds, _, .cons h t => .cons (Df.mono e d _ h) (Dps.mono e ds _ t)
theorem Dfs.mono (e : Lf W W') : ∀ (ds : List PyData) (vs : List V), Dfs K W vs ds → Dfs K W' vs ds
  | [], _, .nil => .nil
  | d :: ds, _, .cons h t => .cons (Df.mono e d _ h) (Dfs.mono e ds _ t)
end
theorem Dps.key {kvs : List (Key × V)} {x d : PyData} {ds : List (PyData × PyData)} (h : Dps K W kvs ((x, d) :: ds)) : ∃ k, x = keyD k := by
  generalize e : (x, d) :: ds = l at h
  cases h with
  | nil => cases e
  | @cons k =>
    cases e
    exact ⟨k, rfl⟩
theorem Dfs.length : ∀ {vs : List V} {ds : List PyData}, Dfs K W vs ds → vs.length = ds.length
  | _, _, .nil => rfl
  | _, _, .cons _ t => by rw [List.length_cons, List.length_cons, Dfs.length t]
theorem Dfs.get : ∀ {vs : List V} {ds : List PyData} {i : Nat} {d : PyData}, Dfs K W vs ds → ds[i]? = some d → ∃ v, vs[i]? = some v ∧ Df K W v d
  | _, _, _, _, .nil, e => by simp at e
  | _, _, 0, _, .cons h _, e => by
    simp at e
    subst e
    exact ⟨_, rfl, h⟩
  | _, _, i + 1, d, .cons _ t, e => by
    obtain ⟨v, h1, h2⟩ := Dfs.get (i := i) (d := d) t (by simpa using e)
    exact ⟨v, by simpa using h1, h2⟩
theorem Dfs.getV : ∀ {vs : List V} {ds : List PyData} {i : Nat} {v : V}, Dfs K W vs ds → vs[i]? = some v → ∃ d, ds[i]? = some d ∧ Df K W v d
  | _, _, _, _, .nil, e => by simp at e
  | _, _, 0, _, .cons h _, e => by
    simp at e
    subst e
    exact ⟨_, rfl, h⟩
  | _, _, i + 1, d, .cons _ t, e => by
    obtain ⟨v, h1, h2⟩ := Dfs.getV (i := i) (v := d) t (by simpa using e)
    exact ⟨v, by simpa using h1, h2⟩
theorem Dfs.append : ∀ {vs us : List V} {ds es : List PyData}, Dfs K W vs ds → Dfs K W us es → Dfs K W (vs ++ us) (ds ++ es)
  | _, _, _, _, .nil, s => s
  | _, _, _, _, .cons h t, s => .cons h (Dfs.append t s)
theorem Dfs.take : ∀ {vs : List V} {ds : List PyData} (n : Nat), Dfs K W vs ds → Dfs K W (vs.take n) (ds.take n)
  | _, _, 0, _ => by rw [List.take_zero, List.take_zero]; exact .nil
  | _, _, n + 1, .nil => by rw [List.take_nil, List.take_nil]; exact .nil
  | _, _, n + 1, .cons h t => .cons h (Dfs.take n t)
theorem Dfs.drop : ∀ {vs : List V} {ds : List PyData} (n : Nat), Dfs K W vs ds → Dfs K W (vs.drop n) (ds.drop n)
  | _, _, 0, h => h
  | _, _, n + 1, .nil => by rw [List.drop_nil, List.drop_nil]; exact .nil
  | _, _, n + 1, .cons h t => Dfs.drop n t
theorem Dfs.reverse : ∀ {vs : List V} {ds : List PyData}, Dfs K W vs ds → Dfs K W vs.reverse ds.reverse
  | _, _, .nil => .nil
  | _, _, .cons h t => by
    rw [List.reverse_cons, List.reverse_cons]
    exact Dfs.append (Dfs.reverse t) (.cons h .nil)
theorem Dfs.set : ∀ {vs : List V} {ds : List PyData} {v : V} {d : PyData} (n : Nat), Df K W v d → Dfs K W vs ds → Dfs K W (vs.set n v) (ds.set n d)
  | _, _, _, _, _, _, .nil => .nil
  | _, _, _, _, 0, h, .cons _ t => .cons h t
  | _, _, _, _, n + 1, h, .cons g t => .cons g (Dfs.set n h t)
theorem Dfs.dropLast {vs : List V} {ds : List PyData} (h : Dfs K W vs ds) : Dfs K W vs.dropLast ds.dropLast := by
  rw [List.dropLast_eq_take, List.dropLast_eq_take, h.length]
  exact h.take _
theorem dfs_ints : ∀ {vs : List V} {ns : List Int}, Dfs K W vs (ns.map PyData.int) → vs = ns.map V.int
  | _, [], .nil => rfl
  | _, n :: ns, .cons (.int _) t => by rw [dfs_ints t]; rfl
theorem dfs_bools : ∀ {vs : List V} {ns : List Bool}, Dfs K W vs (ns.map PyData.bool) → vs = ns.map V.bl
  | _, [], .nil => rfl
  | _, n :: ns, .cons (.bl _) t => by rw [dfs_bools t]; rfl
theorem dfs_strs : ∀ {vs : List V} {ns : List Str}, Dfs K W vs (ns.map PyData.str) → vs = ns.map V.str
  | _, [], .nil => rfl
  | _, n :: ns, .cons (.str _) t => by rw [dfs_strs t]; rfl
theorem ints_dfs : ∀ {ns : List Int}, Dfs K W (ns.map V.int) (ns.map PyData.int)
  | [] => .nil
  | n :: ns => .cons (.int n) ints_dfs
theorem strs_dfs : ∀ {ns : List Str}, Dfs K W (ns.map V.str) (ns.map PyData.str)
  | [] => .nil
  | n :: ns => .cons (.str n) strs_dfs

-- data that == may be asked of
mutual
theorem Df.dp : ∀ (d : PyData) (v : V), d.canLay0 = true → Df K W v d → Dp K W.H v d
  | _, _, _, .non => .non
  | _, _, _, .bl b => .bl b
  | _, _, _, .int i => .int i
  | _, _, _, .str x => .str x
  | .list ds, _, h, .lst q t => .lst (q.elim (fun q => .inl q.1) fun q => q _) (Dfs.dp ds _ (by simpa [PyData.canLay0] using h) t)
  | .tuple ds, _, h, .tup q t => .tup q (Dfs.dp ds _ (by simpa [PyData.canLay0] using h) t)
  | .dict _, _, h, _ => by simp [PyData.canLay0] at h
theorem Dfs.dp : ∀ (ds : List PyData) (vs : List V), PyData.canLayAll0 ds = true → Dfs K W vs ds → DpAll K W.H vs ds
  | [], _, _, .nil => .nil
  | d :: ds, _, h, .cons q t => by
    have h' : d.canLay0 = true ∧ PyData.canLayAll0 ds = true := by simpa [PyData.canLayAll0] using h
    exact .cons (Df.dp d _ h'.1 q) (Dfs.dp ds _ h'.2 t)
end
end

/-! ### what the slots hold -/
inductive Sl where
  | no
  | d (x : PyData)
  | l (xs : List PyData)
  | k (ds : List (PyData × PyData))
def Sl.own : Sl → Bool
  | .l _ => true
  | .k _ => true
  | _ => false
abbrev Gm := List Sl
def SlOk (K : PySem.W.Frag) (W0 W : Wd) : Option V → Sl → Prop
  | _, .no => True
  | some v, .d x => Df K W v x
  | some v, .l xs => ∃ a vs, v = .ref a ∧ W0.H a = none ∧ ¬ W.Fz a ∧ ¬ W.B a ∧ W.H a = some (.lst vs) ∧ Dfs K W vs xs
  | some v, .k ds => ∃ a kvs, v = .ref a ∧ W0.H a = none ∧ ¬ W.Fz a ∧ ¬ W.B a ∧ W.H a = some (.dK kvs) ∧ Dps K W kvs ds
  | none, _ => False
structure Sat (K : PySem.W.Frag) (W0 W : Wd) (σ : L2.St) (Γ : Gm) : Prop where
  le : Le W0 W
  sl : ∀ (i : Nat) (s : Sl), Γ[i]? = some s → ∃ o, σ[i]? = some o ∧ SlOk K W0 W o s
  sep : ∀ (i j : Nat) (s t : Sl) (a : Addr), i ≠ j → Γ[i]? = some s → s.own = true → Γ[j]? = some t → t.own = true → σ[i]? = some (some (.ref a)) → σ[j]? = some (some (.ref a)) → False

section
variable {K : PySem.W.Frag} {W0 W W' : Wd} {σ : L2.St} {Γ : Gm}
theorem Sat.ok (S : Sat K W0 W σ Γ) : Ok W := S.le.ok
theorem SlOk.mono {o : Option V} {s : Sl} (ok : Ok W) (e : Le W W') (h : SlOk K W0 W o s) : SlOk K W0 W' o s := by
  cases s with
  | no => cases o <;> trivial
  | d x =>
    cases o with
    | none => exact h
    | some v => exact Df.mono (e.lf ok) _ _ h
  | l xs =>
    cases o with
    | none => exact h
    | some v =>
      obtain ⟨a, vs, h1, h2, h3, h4, h5, h6⟩ := h
      refine ⟨a, vs, h1, h2, fun f => ?_, fun f => ?_, e.ex _ _ h5 h4, Dfs.mono (e.lf ok) _ _ h6⟩
      · have := e.nf a f h3
        rw [h5] at this
        cases this
      · have := e.nb a f h4
        rw [h5] at this
        cases this
  | k xs =>
    cases o with
    | none => exact h
    | some v =>
      obtain ⟨a, vs, h1, h2, h3, h4, h5, h6⟩ := h
      refine ⟨a, vs, h1, h2, fun f => ?_, fun f => ?_, e.ex _ _ h5 h4, Dps.mono (e.lf ok) _ _ h6⟩
      · have := e.nf a f h3
        rw [h5] at this
        cases this
      · have := e.nb a f h4
        rw [h5] at this
        cases this
theorem Sat.mono (S : Sat K W0 W σ Γ) (e : Le W W') : Sat K W0 W' σ Γ :=
  ⟨S.le.trans e, fun i s h => by
    obtain ⟨o, h1, h2⟩ := S.sl i s h
    exact ⟨o, h1, h2.mono S.ok e⟩, S.sep⟩
theorem Sat.var (S : Sat K W0 W σ Γ) {i : Nat} {x : PyData} (h : Γ[i]? = some (.d x)) : ∃ v, σ[i]? = some (some v) ∧ Df K W v x := by
  obtain ⟨o, h1, h2⟩ := S.sl i _ h
  cases o with
  | none => exact h2.elim
  | some v => exact ⟨v, h1, h2⟩
theorem Sat.varL (S : Sat K W0 W σ Γ) {i : Nat} {xs : List PyData} (h : Γ[i]? = some (.l xs)) :
    ∃ a vs, σ[i]? = some (some (.ref a)) ∧ W0.H a = none ∧ ¬ W.Fz a ∧ ¬ W.B a ∧ W.H a = some (.lst vs) ∧ Dfs K W vs xs := by
  obtain ⟨o, h1, h2⟩ := S.sl i _ h
  cases o with
  | none => exact h2.elim
  | some v =>
    obtain ⟨a, vs, rfl, h⟩ := h2
    exact ⟨a, vs, h1, h⟩
theorem Sat.varK (S : Sat K W0 W σ Γ) {i : Nat} {xs : List (PyData × PyData)} (h : Γ[i]? = some (.k xs)) :
    ∃ a vs, σ[i]? = some (some (.ref a)) ∧ W0.H a = none ∧ ¬ W.Fz a ∧ ¬ W.B a ∧ W.H a = some (.dK vs) ∧ Dps K W vs xs := by
  obtain ⟨o, h1, h2⟩ := S.sl i _ h
  cases o with
  | none => exact h2.elim
  | some v =>
    obtain ⟨a, vs, rfl, h⟩ := h2
    exact ⟨a, vs, h1, h⟩
theorem Sat.there (S : Sat K W0 W σ Γ) {i : Nat} {s : Sl} (h : Γ[i]? = some s) (ho : s.own = true) {a : Addr} (hσ : σ[i]? = some (some (.ref a))) : W.H a ≠ none := by
  cases s with
  | no => cases ho
  | d _ => cases ho
  | l xs =>
    obtain ⟨b, vs, g1, g2, g3, g4, g5, g6⟩ := S.varL h
    rw [hσ] at g1
    cases g1
    rw [g5]
    exact fun z => nomatch z
  | k xs =>
    obtain ⟨b, vs, g1, g2, g3, g4, g5, g6⟩ := S.varK h
    rw [hσ] at g1
    cases g1
    rw [g5]
    exact fun z => nomatch z

theorem get_set {α : Type} {l : List α} {i j : Nat} {x y : α} (h : (l.set i x)[j]? = some y) : (i = j ∧ i < l.length ∧ y = x) ∨ (i ≠ j ∧ l[j]? = some y) := by
  rw [List.getElem?_set] at h
  split at h
  · rename_i e
    split at h
    · rename_i g
      exact .inl ⟨e, g, (Option.some.inj h).symm⟩
    · cases h
  · rename_i e
    exact .inr ⟨e, h⟩
theorem Sat.len (S : Sat K W0 W σ Γ) {i : Nat} (h : i < Γ.length) : i < σ.length := by
  obtain ⟨o, h1, _⟩ := S.sl i _ (List.getElem?_eq_getElem h)
  exact (List.getElem?_eq_some_iff.mp h1).1
/-- a slot is stored -/
theorem Sat.set (S : Sat K W0 W σ Γ) (i : Nat) {v : V} {s : Sl} (h : SlOk K W0 W (some v) s)
    (hs : s.own = true → ∀ j t a, i ≠ j → Γ[j]? = some t → t.own = true → σ[j]? = some (some (.ref a)) → v ≠ .ref a) : Sat K W0 W (σ.set i (some v)) (Γ.set i s) := by
  refine ⟨S.le, fun j t hj => ?_, fun j k u t a ne h1 o1 h2 o2 h3 h4 => ?_⟩
  · rcases get_set hj with ⟨e, g, rfl⟩ | ⟨e, g⟩
    · subst e
      exact ⟨some v, by rw [List.getElem?_set, if_pos rfl, if_pos (S.len g)], h⟩
    · obtain ⟨o, h1, h2⟩ := S.sl j t g
      exact ⟨o, by rw [List.getElem?_set, if_neg e]; exact h1, h2⟩
  · rcases get_set h1 with ⟨e, g, rfl⟩ | ⟨e, g⟩
    · subst e
      rcases get_set h2 with ⟨e2, _, _⟩ | ⟨e2, g2⟩
      · exact ne e2
      · rcases get_set h3 with ⟨_, _, e3⟩ | ⟨e3, _⟩
        · rcases get_set h4 with ⟨e4, _, _⟩ | ⟨_, e4⟩
          · exact ne e4
          · exact hs o1 k t a e2 g2 o2 e4 (Option.some.inj e3).symm
        · exact e3 rfl
    · rcases get_set h3 with ⟨e3, _, _⟩ | ⟨_, e3⟩
      · exact e e3
      · rcases get_set h2 with ⟨e2, _, rfl⟩ | ⟨e2, g2⟩
        · subst e2
          rcases get_set h4 with ⟨_, _, e4⟩ | ⟨e4, _⟩
          · exact hs o2 j u a e g o1 e3 (Option.some.inj e4).symm
          · exact e4 rfl
        · rcases get_set h4 with ⟨e4, _, _⟩ | ⟨_, e4⟩
          · exact e2 e4
          · exact S.sep j k u t a ne g o1 g2 o2 e3 e4
theorem Sat.setD (S : Sat K W0 W σ Γ) (i : Nat) {v : V} {x : PyData} (h : Df K W v x) : Sat K W0 W (σ.set i (some v)) (Γ.set i (.d x)) :=
  S.set i (show SlOk K W0 W (some v) (.d x) from h) fun e => by cases e
/-- slots may be forgotten -/
theorem Sat.forget (S : Sat K W0 W σ Γ) (i : Nat) : Sat K W0 W σ (Γ.set i .no) := by
  refine ⟨S.le, fun j t hj => ?_, fun j k u t a ne h1 o1 h2 o2 h3 h4 => ?_⟩
  · rcases get_set hj with ⟨e, g, rfl⟩ | ⟨e, g⟩
    · subst e
      obtain ⟨o, h1, _⟩ := S.sl i _ (List.getElem?_eq_getElem g)
      exact ⟨o, h1, by cases o <;> trivial⟩
    · exact S.sl j t g
  · rcases get_set h1 with ⟨_, _, rfl⟩ | ⟨_, g⟩
    · cases o1
    · rcases get_set h2 with ⟨_, _, rfl⟩ | ⟨_, g2⟩
      · cases o2
      · exact S.sep j k u t a ne g o1 g2 o2 h3 h4
/-- a list of one's own becomes data -/
theorem Sat.freeze (S : Sat K W0 W σ Γ) {i : Nat} {xs : List PyData} (h : Γ[i]? = some (.l xs)) : ∃ W', W'.H = W.H ∧ Lf W W' ∧ Sat K W0 W' σ (Γ.set i (.d (.list xs))) := by
  obtain ⟨a, vs, h1, h2, h3, h4, h5, h6⟩ := S.varL h
  have ok' : Ok ⟨fun b => W.Fz b ∨ b = a, W.B, W.H⟩ := ⟨fun b hb => hb.elim (S.ok.fz b) (fun e => by rw [e, h5]; exact fun z => nomatch z), S.ok.bx, fun b hb => hb.elim (S.ok.fb b) (fun e => by rw [e]; exact h4)⟩
  have lf : Lf W ⟨fun b => W.Fz b ∨ b = a, W.B, W.H⟩ := ⟨ok', fun b hb => .inl hb, fun b hb => hb, fun b o q _ => q⟩
  refine ⟨⟨fun b => W.Fz b ∨ b = a, W.B, W.H⟩, rfl, lf, ⟨⟨ok', fun b hb => .inl (S.le.fz b hb), S.le.b, S.le.ex, fun b hb n => ?_, S.le.nb⟩, fun j t hj => ?_, fun j k u t b ne g1 o1 g2 o2 g3 g4 => ?_⟩⟩
  · rcases hb with hb | rfl
    · exact S.le.nf b hb n
    · exact h2
  · rcases get_set hj with ⟨e, g, rfl⟩ | ⟨e, g⟩
    · subst e
      exact ⟨_, h1, .lst (.inl ⟨.inl h5, .inr rfl⟩) (Dfs.mono lf _ _ h6)⟩
    · obtain ⟨o, q1, q2⟩ := S.sl j t g
      refine ⟨o, q1, ?_⟩
      cases t with
      | no => cases o <;> trivial
      | d x =>
        cases o with
        | none => exact q2
        | some v => exact Df.mono lf _ _ q2
      | l ys =>
        cases o with
        | none => exact q2
        | some v =>
          obtain ⟨b, us, rfl, p2, p3, p4, p5, p6⟩ := q2
          refine ⟨b, us, rfl, p2, fun hb => ?_, p4, p5, Dfs.mono lf _ _ p6⟩
          rcases hb with hb | rfl
          · exact p3 hb
          · exact S.sep i j _ _ b e h rfl g rfl h1 q1
      | k ys =>
        cases o with
        | none => exact q2
        | some v =>
          obtain ⟨b, us, rfl, p2, p3, p4, p5, p6⟩ := q2
          refine ⟨b, us, rfl, p2, fun hb => ?_, p4, p5, Dps.mono lf _ _ p6⟩
          rcases hb with hb | rfl
          · exact p3 hb
          · exact S.sep i j _ _ b e h rfl g rfl h1 q1
  · rcases get_set g1 with ⟨_, _, rfl⟩ | ⟨_, g1⟩
    · cases o1
    · rcases get_set g2 with ⟨_, _, rfl⟩ | ⟨_, g2⟩
      · cases o2
      · exact S.sep j k u t b ne g1 o1 g2 o2 g3 g4
end

/-! ### what an expression comes to -/
section
variable (K : PySem.W.Frag) (W0 : Wd)
/-- data that P holds of -/
def wpE (te : TE) (Γ : Gm) (P : PyData → Prop) : Prop := ∀ W σ, Sat K W0 W σ Γ → ∀ Q : VK, (∀ v W' d, Le W W' → Df K W' v d → P d → Q v W'.H) → te σ W.H Q
/-- a list to be read -/
def Lv (W : Wd) (v : V) (ds : List PyData) : Prop := ∃ a vs, v = .ref a ∧ ((Rd W.H a (.lst vs) ∧ ¬ W.B a) ∨ ∀ H, SqL K H a vs) ∧ Dfs K W vs ds
def wpL (te : TE) (Γ : Gm) (P : List PyData → Prop) : Prop := ∀ W σ, Sat K W0 W σ Γ → ∀ Q : VK, (∀ v W' ds, Le W W' → Lv K W' v ds → P ds → Q v W'.H) → te σ W.H Q
/-- a new list -/
def Nw (W W' : Wd) (v : V) (ds : List PyData) : Prop := ∃ p vs, v = .ref p ∧ W.H p = none ∧ ¬ W'.Fz p ∧ ¬ W'.B p ∧ W'.H p = some (.lst vs) ∧ Dfs K W' vs ds
def wpN (te : TE) (Γ : Gm) (P : List PyData → Prop) : Prop := ∀ W σ, Sat K W0 W σ Γ → ∀ Q : VK, (∀ v W' ds, Le W W' → Nw K W W' v ds → P ds → Q v W'.H) → te σ W.H Q
def wpA (t : TA) (Γ : Gm) (P : List PyData → Prop) : Prop := ∀ W σ, Sat K W0 W σ Γ → ∀ Q : List V → Hp → Prop, (∀ vs W' ds, Le W W' → Dfs K W' vs ds → P ds → Q vs W'.H) → t σ W.H Q
def wpT (t : TT) (Γ : Gm) (P : Bool → Prop) : Prop := ∀ W σ, Sat K W0 W σ Γ → ∀ Q : Bool → Hp → Prop, (∀ W' b, Le W W' → P b → Q b W'.H) → t σ W.H Q
/-- operations by values: two places, one, a call's arguments -/
def opR (r : R2) (x y : PyData) (P : PyData → Prop) : Prop := ∀ W v u, Ok W → Df K W v x → Df K W u y → ∀ Q : VK, (∀ z W' d, Le W W' → Df K W' z d → P d → Q z W'.H) → r v u W.H Q
def opU (r : V → Hp → VK → Prop) (x : PyData) (P : PyData → Prop) : Prop := ∀ W v, Ok W → Df K W v x → ∀ Q : VK, (∀ z W' d, Le W W' → Df K W' z d → P d → Q z W'.H) → r v W.H Q
def opC (r : List V → Hp → VK → Prop) (xs : List PyData) (P : PyData → Prop) : Prop := ∀ W vs, Ok W → Dfs K W vs xs → ∀ Q : VK, (∀ z W' d, Le W W' → Df K W' z d → P d → Q z W'.H) → r vs W.H Q
end
section
variable {K : PySem.W.Frag} {W0 W W' W1 : Wd} {σ : L2.St} {Γ : Gm} {te ta tb tc : TE} {t u : TT} {r r' : R2}
theorem Lv.mono {v : V} {ds : List PyData} (ok : Ok W) (e : Le W W') (h : Lv K W v ds) : Lv K W' v ds := by
  obtain ⟨a, vs, rfl, h, q⟩ := h
  refine ⟨a, vs, rfl, h.imp (fun h => ⟨?_, fun hb => ?_⟩) id, Dfs.mono (e.lf ok) _ _ q⟩
  · rcases h.1 with g | ⟨o, g⟩
    · exact .inl (e.ex _ _ g h.2)
    · exact .inr ⟨o, e.ex _ _ g h.2⟩
  · have n := e.nb a hb h.2
    rcases h.1 with g | ⟨o, g⟩ <;> · rw [n] at g; cases g
theorem Lv.sq {v : V} {ds : List PyData} (h : Lv K W v ds) : ∃ a vs, v = .ref a ∧ SqL K W.H a vs ∧ Dfs K W vs ds := by
  obtain ⟨a, vs, rfl, h, q⟩ := h
  exact ⟨a, vs, rfl, h.elim (fun h => .inl h.1) fun h => h _, q⟩
theorem Df.lv {v : V} {ds : List PyData} (ok : Ok W) (h : Df K W v (.list ds)) : Lv K W v ds := by
  cases h with
  | lst h q => exact ⟨_, _, rfl, h.imp (fun h => ⟨h.1, ok.fb _ h.2⟩) id, q⟩
theorem Nw.lv {v : V} {ds : List PyData} (h : Nw K W W' v ds) : Lv K W' v ds := by
  obtain ⟨p, vs, rfl, _, _, h4, h5, h6⟩ := h
  exact ⟨p, vs, rfl, .inl ⟨.inl h5, h4⟩, h6⟩
/-- a new list becomes data -/
theorem Nw.freeze {v : V} {ds : List PyData} (e : Le W W') (h : Nw K W W' v ds) : ∃ W2, W2.H = W'.H ∧ Le W W2 ∧ Df K W2 v (.list ds) := by
  obtain ⟨p, vs, rfl, h2, h3, h4, h5, h6⟩ := h
  have ok' : Ok ⟨fun b => W'.Fz b ∨ b = p, W'.B, W'.H⟩ := ⟨fun b hb => hb.elim (e.ok.fz b) (fun e => by rw [e, h5]; exact fun z => nomatch z), e.ok.bx, fun b hb => hb.elim (e.ok.fb b) (fun e => by rw [e]; exact h4)⟩
  have lf : Lf W' ⟨fun b => W'.Fz b ∨ b = p, W'.B, W'.H⟩ := ⟨ok', fun b hb => .inl hb, fun b hb => hb, fun b o q _ => q⟩
  refine ⟨⟨fun b => W'.Fz b ∨ b = p, W'.B, W'.H⟩, rfl, ⟨ok', fun b hb => .inl (e.fz b hb), e.b, e.ex, fun b hb n => ?_, e.nb⟩, .lst (.inl ⟨.inl h5, .inr rfl⟩) (Dfs.mono lf _ _ h6)⟩
  rcases hb with hb | rfl
  · exact e.nf b hb n
  · exact h2

theorem wpE.imp {P Q : PyData → Prop} (h : wpE K W0 te Γ P) (i : ∀ d, P d → Q d) : wpE K W0 te Γ Q := fun W σ S R k => h W σ S R fun v W' d e f p => k v W' d e f (i d p)
theorem wpN.imp {P Q : List PyData → Prop} (h : wpN K W0 te Γ P) (i : ∀ d, P d → Q d) : wpN K W0 te Γ Q := fun W σ S R k => h W σ S R fun v W' d e f p => k v W' d e f (i d p)
theorem wpE_of_N {P : PyData → Prop} (h : wpN K W0 te Γ fun ds => P (.list ds)) : wpE K W0 te Γ P := fun W σ S Q k => h W σ S Q fun v W' ds e n p => by
  obtain ⟨W2, h1, h2, h3⟩ := n.freeze e
  rw [← h1]
  exact k v W2 _ h2 h3 p
theorem wpL_of_N {P : List PyData → Prop} (h : wpN K W0 te Γ P) : wpL K W0 te Γ P := fun W σ S Q k => h W σ S Q fun v W' ds e n p => k v W' ds e n.lv p
theorem wpL_of_E {P : List PyData → Prop} (h : wpE K W0 te Γ fun d => ∃ ds, d = .list ds ∧ P ds) : wpL K W0 te Γ P := fun W σ S Q k => h W σ S Q fun v W' d e f ⟨ds, h1, p⟩ => by
  subst h1
  exact k v W' ds e (f.lv e.ok) p

/-! names, constants -/
theorem wpE_var {i : Nat} {x : PyData} {P : PyData → Prop} (h : Γ[i]? = some (.d x)) (p : P x) : wpE K W0 (tVar i) Γ P := fun W σ S Q k => by
  obtain ⟨v, h1, h2⟩ := S.var h
  exact ⟨v, h1, k v W x (.refl S.ok) h2 p⟩
theorem wpL_var {i : Nat} {xs : List PyData} {P : List PyData → Prop} (h : Γ[i]? = some (.l xs)) (p : P xs) : wpL K W0 (tVar i) Γ P := fun W σ S Q k => by
  obtain ⟨a, vs, h1, h2, h3, h4, h5, h6⟩ := S.varL h
  exact ⟨_, h1, k _ W xs (.refl S.ok) ⟨a, vs, rfl, .inl ⟨.inl h5, h4⟩, h6⟩ p⟩
theorem wpE_c {v : V} {x : PyData} {P : PyData → Prop} (h : ∀ W, Df K W v x) (p : P x) : wpE K W0 (tC v) Γ P := fun W σ S Q k => k v W x (.refl S.ok) (h W) p
theorem wpE_int {i : Int} {P : PyData → Prop} (p : P (.int i)) : wpE K W0 (tC (.int i)) Γ P := wpE_c (fun _ => .int i) p
theorem wpE_str {i : Str} {P : PyData → Prop} (p : P (.str i)) : wpE K W0 (tC (.str i)) Γ P := wpE_c (fun _ => .str i) p
theorem wpE_bl {i : Bool} {P : PyData → Prop} (p : P (.bool i)) : wpE K W0 (tC (.bl i)) Γ P := wpE_c (fun _ => .bl i) p
theorem wpE_non {P : PyData → Prop} (p : P .none) : wpE K W0 (tC .non) Γ P := wpE_c (fun _ => .non) p

/-- a tuple of texts of the module's own -/
theorem Dfs.of_strs {W : Wd} : ∀ (ss : List Str), Dfs K W (ss.map V.str) (ss.map PyData.str)
  | [] => .nil
  | s :: ss => .cons (.str s) (Dfs.of_strs ss)
theorem wpE_kt {a : Addr} {ss : List Str} {P : PyData → Prop} (h : ∀ H, SqT K H a (ss.map V.str)) (p : P (.tuple (ss.map PyData.str))) : wpE K W0 (tC (.ref a)) Γ P := wpE_c (fun W => .tup (h _) (Dfs.of_strs ss)) p
/-! operations -/
theorem wpE_op {P : PyData → Prop} (h : wpE K W0 ta Γ fun x => wpE K W0 tb Γ fun y => opR K r x y P) : wpE K W0 (tOp r ta tb) Γ P := fun W σ S Q k =>
  h W σ S _ fun v W1 x e1 f1 h1 => h1 W1 σ (S.mono e1) _ fun u W2 y e2 f2 h2 => h2 W2 v u e2.ok (Df.mono (e2.lf e1.ok) _ _ f1) f2 _ fun z W3 d e3 f3 p => k z W3 d ((e1.trans e2).trans e3) f3 p
theorem wpE_un {r : V → Hp → VK → Prop} {P : PyData → Prop} (h : wpE K W0 ta Γ fun x => opU K r x P) : wpE K W0 (tUn r ta) Γ P := fun W σ S Q k =>
  h W σ S _ fun v W1 x e1 f1 h1 => h1 W1 v e1.ok f1 _ fun z W3 d e3 f3 p => k z W3 d (e1.trans e3) f3 p
theorem Df.int_inv {v : V} {i : Int} (h : Df K W v (.int i)) : v = .int i := by cases h; rfl
theorem Df.str_inv {v : V} {i : Str} (h : Df K W v (.str i)) : v = .str i := by cases h; rfl
theorem Df.bool_inv {v : V} {i : Bool} (h : Df K W v (.bool i)) : v = .bl i := by cases h; rfl
theorem Df.none_inv {v : V} (h : Df K W v .none) : v = .non := by cases h; rfl
theorem Df.tup_inv {v : V} {ds : List PyData} (h : Df K W v (.tuple ds)) : ∃ a vs, v = .ref a ∧ SqT K W.H a vs ∧ Dfs K W vs ds := by
  cases h with
  | tup h q => exact ⟨_, _, rfl, h, q⟩
theorem opR_II {C : Int → Int → Prop} {g : Int → Int → Int} {i j : Int} {P : PyData → Prop} (c : C i j) (p : P (.int (g i j))) : opR K (rI C fun i j => .int (g i j)) (.int i) (.int j) P := fun W v u ok f1 f2 Q k => by
  cases f1.int_inv
  cases f2.int_inv
  exact ⟨i, j, rfl, rfl, c, k _ W _ (.refl ok) (.int _) p⟩
theorem opR_I0I {g : Int → Int → Int} {i j : Int} {P : PyData → Prop} (p : P (.int (g i j))) : opR K (rI0 fun i j => .int (g i j)) (.int i) (.int j) P := fun W v u ok f1 f2 Q k => by
  cases f1.int_inv
  cases f2.int_inv
  exact ⟨i, j, rfl, rfl, k _ W _ (.refl ok) (.int _) p⟩
theorem opR_I0B {g : Int → Int → Bool} {i j : Int} {P : PyData → Prop} (p : P (.bool (g i j))) : opR K (rI0 fun i j => .bl (g i j)) (.int i) (.int j) P := fun W v u ok f1 f2 Q k => by
  cases f1.int_inv
  cases f2.int_inv
  exact ⟨i, j, rfl, rfl, k _ W _ (.refl ok) (.bl _) p⟩
theorem opR_eqD {x y : PyData} {P : PyData → Prop} (hx : SeqAt.shaped x = true) (hy : SeqAt.shaped y = true) (p : P (.bool (PyData.eqv x y))) : opR K (rEqD K) x y P := fun W v u ok f1 f2 Q k =>
  ⟨x, y, Df.dp _ _ (SeqAt.canLay_of_shaped hx) f1, Df.dp _ _ (SeqAt.canLay_of_shaped hy) f2, hx, hy, k _ W _ (.refl ok) (.bl _) p⟩
theorem eq_int {i j : Int} {P : PyData → Prop} (p : P (.bool (decide (i = j)))) : opR K (rEqD K) (.int i) (.int j) P := opR_eqD rfl rfl (by
  rw [show PyData.eqv (.int i) (.int j) = decide (i = j) from Bool.beq_eq_decide_eq i j]
  exact p)
theorem ne_int {i j : Int} {P : PyData → Prop} (p : P (.bool (!decide (i = j)))) : opR K (rNeD K) (.int i) (.int j) P := fun W v u ok f1 f2 Q k =>
  ⟨.int i, .int j, Df.dp _ _ rfl f1, Df.dp _ _ rfl f2, rfl, rfl, k _ W _ (.refl ok) (.bl _) (by
    rw [show PyData.eqv (.int i) (.int j) = decide (i = j) from Bool.beq_eq_decide_eq i j]
    exact p)⟩
theorem opU_neg {i : Int} {P : PyData → Prop} (p : P (.int (-i))) : opU K (rU fun i => .int (-i)) (.int i) P := fun W v ok f Q k => by
  cases f.int_inv
  exact ⟨i, rfl, k _ W _ (.refl ok) (.int _) p⟩
theorem opR_neD {x y : PyData} {P : PyData → Prop} (hx : SeqAt.shaped x = true) (hy : SeqAt.shaped y = true) (p : P (.bool (!PyData.eqv x y))) : opR K (rNeD K) x y P := fun W v u ok f1 f2 Q k =>
  ⟨x, y, Df.dp _ _ (SeqAt.canLay_of_shaped hx) f1, Df.dp _ _ (SeqAt.canLay_of_shaped hy) f2, hx, hy, k _ W _ (.refl ok) (.bl _) p⟩

theorem opR_or1 {x y : PyData} {P : PyData → Prop} (h : opR K r x y P) : opR K (fun x y H Q => r x y H Q ∨ r' x y H Q) x y P := fun W v u ok f1 f2 Q k => .inl (h W v u ok f1 f2 Q k)
theorem opR_or2 {x y : PyData} {P : PyData → Prop} (h : opR K r' x y P) : opR K (fun x y H Q => r x y H Q ∨ r' x y H Q) x y P := fun W v u ok f1 f2 Q k => .inr (h W v u ok f1 f2 Q k)
theorem opC_or1 {r r' : List V → Hp → VK → Prop} {x : List PyData} {P : PyData → Prop} (h : opC K r x P) : opC K (fun x H Q => r x H Q ∨ r' x H Q) x P := fun W v ok f1 Q k => .inl (h W v ok f1 Q k)
theorem opC_or2 {r r' : List V → Hp → VK → Prop} {x : List PyData} {P : PyData → Prop} (h : opC K r' x P) : opC K (fun x H Q => r x H Q ∨ r' x H Q) x P := fun W v ok f1 Q k => .inr (h W v ok f1 Q k)
theorem Dfs.all1 {vs : List V} {d : PyData} (h : Dfs K W vs [d]) : ∃ v, vs = [v] ∧ Df K W v d := by
  cases h with
  | cons h t =>
    cases t
    exact ⟨_, rfl, h⟩
theorem Dfs.all2 {vs : List V} {d e : PyData} (h : Dfs K W vs [d, e]) : ∃ v u, vs = [v, u] ∧ Df K W v d ∧ Df K W u e := by
  cases h with
  | cons h t =>
    obtain ⟨u, rfl, q⟩ := t.all1
    exact ⟨_, _, rfl, h, q⟩

/-! arguments, tests -/
theorem wpA_nil {P : List PyData → Prop} (p : P []) : wpA K W0 tNil Γ P := fun W σ S Q k => k [] W [] (.refl S.ok) .nil p
theorem wpA_cons {tr : TA} {P : List PyData → Prop} (h : wpE K W0 ta Γ fun d => wpA K W0 tr Γ fun ds => P (d :: ds)) : wpA K W0 (tCons ta tr) Γ P := fun W σ S Q k =>
  h W σ S _ fun v W1 d e1 f1 h1 => h1 W1 σ (S.mono e1) _ fun vs W2 ds e2 f2 p => k (v :: vs) W2 (d :: ds) (e1.trans e2) (.cons (Df.mono (e2.lf e1.ok) _ _ f1) f2) p
theorem wpT_B {P : Bool → Prop} (h : wpE K W0 te Γ fun d => ∃ b, d = .bool b ∧ P b) : wpT K W0 (tB te) Γ P := fun W σ S Q k => h W σ S _ fun v W1 d e1 f1 ⟨b, hb, p⟩ => by
  subst hb
  cases f1.bool_inv
  exact ⟨b, rfl, k W1 b e1 p⟩
theorem wpT_test {P : Bool → Prop} (h : wpE K W0 te Γ fun d => ∃ b, d = .bool b ∧ P b) : wpT K W0 (tTest te) Γ P := fun W σ S Q k => h W σ S _ fun v W1 d e1 f1 ⟨b, hb, p⟩ => by
  subst hb
  cases f1.bool_inv
  exact ⟨b, rfl, k W1 b e1 p⟩
theorem wpT_not {P : Bool → Prop} (h : wpT K W0 t Γ fun b => P (!b)) : wpT K W0 (tNot t) Γ P := fun W σ S Q k => h W σ S _ fun W1 b e1 p => k W1 (!b) e1 p
theorem wpT_and {P : Bool → Prop} (h : wpT K W0 t Γ fun b => (b = true → wpT K W0 u Γ P) ∧ (b = false → P false)) : wpT K W0 (tAnd t u) Γ P := fun W σ S Q k => h W σ S _ fun W1 b e1 p => by
  cases b with
  | true =>
    show u σ W1.H Q
    exact p.1 rfl W1 σ (S.mono e1) Q fun W2 c e2 q => k W2 c (e1.trans e2) q
  | false => exact k W1 false e1 (p.2 rfl)
theorem wpT_or {P : Bool → Prop} (h : wpT K W0 t Γ fun b => (b = true → P true) ∧ (b = false → wpT K W0 u Γ P)) : wpT K W0 (tOr t u) Γ P := fun W σ S Q k => h W σ S _ fun W1 b e1 p => by
  cases b with
  | false =>
    show u σ W1.H Q
    exact p.2 rfl W1 σ (S.mono e1) Q fun W2 c e2 q => k W2 c (e1.trans e2) q
  | true => exact k W1 true e1 (p.1 rfl)
theorem wpT_imp {P Q : Bool → Prop} (h : wpT K W0 t Γ P) (i : ∀ b, P b → Q b) : wpT K W0 t Γ Q := fun W σ S R k => h W σ S R fun W1 b e p => k W1 b e (i b p)
theorem wpE_andV {P : PyData → Prop} (h : wpE K W0 ta Γ fun d => ∃ b, d = .bool b ∧ (b = true → wpE K W0 tb Γ P) ∧ (b = false → P (.bool false))) : wpE K W0 (tAndV ta tb) Γ P := fun W σ S Q k => h W σ S _ fun v W1 d e1 f1 ⟨b, hb, p⟩ => by
  subst hb
  cases f1.bool_inv
  refine ⟨b, rfl, ?_⟩
  cases b with
  | true =>
    show tb σ W1.H Q
    exact p.1 rfl W1 σ (S.mono e1) Q fun v W2 c e2 f2 q => k v W2 c (e1.trans e2) f2 q
  | false => exact k _ W1 _ e1 (.bl false) (p.2 rfl)
theorem wpE_orV {P : PyData → Prop} (h : wpE K W0 ta Γ fun d => ∃ b, d = .bool b ∧ (b = true → P (.bool true)) ∧ (b = false → wpE K W0 tb Γ P)) : wpE K W0 (tOrV ta tb) Γ P := fun W σ S Q k => h W σ S _ fun v W1 d e1 f1 ⟨b, hb, p⟩ => by
  subst hb
  cases f1.bool_inv
  refine ⟨b, rfl, ?_⟩
  cases b with
  | false =>
    show tb σ W1.H Q
    exact p.2 rfl W1 σ (S.mono e1) Q fun v W2 c e2 f2 q => k v W2 c (e1.trans e2) f2 q
  | true => exact k _ W1 _ e1 (.bl true) (p.1 rfl)
theorem wpE_notV {P : PyData → Prop} (h : wpE K W0 ta Γ fun d => ∃ b, d = .bool b ∧ P (.bool (!b))) : wpE K W0 (tNotV ta) Γ P := fun W σ S Q k => h W σ S _ fun v W1 d e1 f1 ⟨b, hb, p⟩ => by
  subst hb
  cases f1.bool_inv
  exact ⟨b, rfl, k _ W1 _ e1 (.bl _) p⟩
theorem wpE_if {P : PyData → Prop} (h : wpT K W0 t Γ fun b => (b = true → wpE K W0 ta Γ P) ∧ (b = false → wpE K W0 tb Γ P)) : wpE K W0 (tIf t ta tb) Γ P := fun W σ S Q k => h W σ S _ fun W1 b e1 p => by
  cases b with
  | true =>
    show ta σ W1.H Q
    exact p.1 rfl W1 σ (S.mono e1) Q fun v W2 c e2 f2 q => k v W2 c (e1.trans e2) f2 q
  | false =>
    show tb σ W1.H Q
    exact p.2 rfl W1 σ (S.mono e1) Q fun v W2 c e2 f2 q => k v W2 c (e1.trans e2) f2 q
/-- a < b < c -/
theorem wpE_chain {P : PyData → Prop} (h : wpE K W0 ta Γ fun x => wpE K W0 tb Γ fun y => opR K r x y fun d => ∃ b, d = .bool b ∧ (b = true → wpE K W0 tc Γ fun z => opR K r' y z P) ∧ (b = false → P (.bool false))) : wpE K W0 (tChain r r' ta tb tc) Γ P := fun W σ S Q k =>
  h W σ S _ fun v W1 x e1 f1 h1 => h1 W1 σ (S.mono e1) _ fun u W2 y e2 f2 h2 => h2 W2 v u e2.ok (Df.mono (e2.lf e1.ok) _ _ f1) f2 _ fun z W3 d e3 f3 ⟨b, hb, p⟩ => by
    subst hb
    cases f3.bool_inv
    refine ⟨b, rfl, ?_⟩
    cases b with
    | true =>
      show tc σ W3.H _
      exact p.1 rfl W3 σ (S.mono ((e1.trans e2).trans e3)) _ fun w W4 dw e4 f4 h4 => h4 W4 u w e4.ok (Df.mono ((e3.trans e4).lf e2.ok) _ _ f2) f4 Q fun q W5 dq e5 f5 pq => k q W5 dq ((((e1.trans e2).trans e3).trans e4).trans e5) f5 pq
    | false => exact k _ W3 _ ((e1.trans e2).trans e3) (.bl false) (p.2 rfl)

/-! new objects -/
theorem Ok.new (o : Ok W) {p : Addr} {u : HO} (h : W.H p = none) : Le W ⟨W.Fz, W.B, upd W.H p u⟩ := by
  have ne : ∀ a x, W.H a = some x → a ≠ p := fun a x e => ne_of_none e h
  have ok' : Ok ⟨W.Fz, W.B, upd W.H p u⟩ := ⟨fun a f => by
      show upd W.H p u a ≠ none
      by_cases e : a = p
      · subst e; rw [upd_same]; exact fun z => nomatch z
      · rw [upd_ne e]; exact o.fz a f, fun a b => by
      obtain ⟨x, y, z, e⟩ := o.bx a b
      exact ⟨x, y, z, by show upd W.H p u a = _; rw [upd_ne (ne a _ e)]; exact e⟩, o.fb⟩
  exact ⟨ok', fun _ h => h, fun _ h => h, fun a x e _ => by show upd W.H p u a = _; rw [upd_ne (ne a _ e)]; exact e, fun _ h n => absurd h n, fun _ h n => absurd h n⟩
theorem Ok.newL (o : Ok W) {p : Addr} {vs : List V} {ds : List PyData} (h : W.H p = none) (f : Dfs K W vs ds) : Le W ⟨W.Fz, W.B, upd W.H p (.lst vs)⟩ ∧ Nw K W ⟨W.Fz, W.B, upd W.H p (.lst vs)⟩ (.ref p) ds :=
  ⟨o.new h, p, vs, rfl, h, fun z => o.fz p z h, fun z => (by obtain ⟨_, _, _, e⟩ := o.bx p z; rw [h] at e; cases e), upd_same, Dfs.mono ((o.new h).lf o) _ _ f⟩
theorem Ok.newT (o : Ok W) {p : Addr} {vs : List V} {ds : List PyData} (h : W.H p = none) (f : Dfs K W vs ds) : Le W ⟨W.Fz, W.B, upd W.H p (.tup vs)⟩ ∧ Df K ⟨W.Fz, W.B, upd W.H p (.tup vs)⟩ (.ref p) (.tuple ds) :=
  ⟨o.new h, .tup (.inl (.inl upd_same)) (Dfs.mono ((o.new h).lf o) _ _ f)⟩
theorem Nw.up {v : V} {ds : List PyData} (ok : Ok W) (e : Le W W1) (h : Nw K W1 W' v ds) : Nw K W W' v ds := by
  obtain ⟨p, vs, rfl, h2, h⟩ := h
  exact ⟨p, vs, rfl, e.fresh h2, h⟩
theorem wpE_tup {t : TA} {P : PyData → Prop} (h : wpA K W0 t Γ fun ds => ds.length ≤ sizeLine ∧ P (.tuple ds)) : wpE K W0 (tTup t) Γ P := fun W σ S Q k => h W σ S _ fun vs W1 ds e1 f1 ⟨hz, p⟩ =>
  ⟨by rw [f1.length]; exact hz, fun q hq => by
    obtain ⟨e, f⟩ := e1.ok.newT hq f1
    exact k _ _ _ (e1.trans e) f p⟩
theorem wpN_lst {t : TA} {P : List PyData → Prop} (h : wpA K W0 t Γ fun ds => ds.length ≤ sizeLine ∧ P ds) : wpN K W0 (tLst t) Γ P := fun W σ S Q k => h W σ S _ fun vs W1 ds e1 f1 ⟨hz, p⟩ =>
  ⟨by rw [f1.length]; exact hz, fun q hq => by
    obtain ⟨e, f⟩ := e1.ok.newL hq f1
    exact k _ _ _ (e1.trans e) (f.up S.ok e1) p⟩

/-! what lists tell -/
/-- an operation on a list (read) and data -/
def opLR (K : PySem.W.Frag) (r : R2) (ds : List PyData) (y : PyData) (P : PyData → Prop) : Prop := ∀ W v u, Ok W → Lv K W v ds → Df K W u y → ∀ Q : VK, (∀ z W' d, Le W W' → Df K W' z d → P d → Q z W'.H) → r v u W.H Q
theorem wpE_opL {P : PyData → Prop} (h : wpL K W0 ta Γ fun x => wpE K W0 tb Γ fun y => opLR K r x y P) : wpE K W0 (tOp r ta tb) Γ P := fun W σ S Q k =>
  h W σ S _ fun v W1 x e1 f1 h1 => h1 W1 σ (S.mono e1) _ fun u W2 y e2 f2 h2 => h2 W2 v u e2.ok (f1.mono e1.ok e2) f2 _ fun z W3 d e3 f3 p => k z W3 d ((e1.trans e2).trans e3) f3 p
theorem Dfs.at {vs : List V} {ds : List PyData} {i : Int} {d : PyData} (h : Dfs K W vs ds) (e : atI ds i = some d) : ∃ v, atI vs i = some v ∧ Df K W v d := by
  unfold atI at e ⊢
  rw [h.length]
  cases q : ixN ds.length i with
  | none => rw [q] at e; cases e
  | some j =>
    rw [q] at e
    obtain ⟨v, h1, h2⟩ := h.get e
    exact ⟨v, h1, h2⟩
theorem opLR_ix {ds : List PyData} {i : Int} {d : PyData} {P : PyData → Prop} (e : atI ds i = some d) (p : P d) : opLR K (rIx K) ds (.int i) P := fun W v u ok f1 f2 Q k => by
  cases f2.int_inv
  obtain ⟨a, vs, rfl, q, f⟩ := f1.sq
  obtain ⟨x, h1, h2⟩ := f.at e
  exact .inl ⟨a, vs, i, x, rfl, rfl, q, h1, k x W d (.refl ok) h2 p⟩
theorem opR_ixT {ds : List PyData} {i : Int} {d : PyData} {P : PyData → Prop} (e : atI ds i = some d) (p : P d) : opR K (rIx K) (.tuple ds) (.int i) P := fun W v u ok f1 f2 Q k => by
  cases f2.int_inv
  obtain ⟨a, vs, rfl, q, f⟩ := f1.tup_inv
  obtain ⟨x, h1, h2⟩ := f.at e
  exact .inr (.inl ⟨a, vs, i, x, rfl, rfl, q, h1, k x W d (.refl ok) h2 p⟩)
theorem opR_ixS {z : Str} {i : Int} {c : Nat} {P : PyData → Prop} (hz : z.length ≤ sizeLine) (e : atI z.cps.toList i = some c) (p : P (.str ⟨#[c]⟩)) : opR K (rIx K) (.str z) (.int i) P := fun W v u ok f1 f2 Q k => by
  cases f1.str_inv
  cases f2.int_inv
  exact .inr (.inr ⟨z, i, c, rfl, rfl, hz, e, k _ W _ (.refl ok) (.str _) p⟩)
theorem opR_ixL {ds : List PyData} {i : Int} {d : PyData} {P : PyData → Prop} (e : atI ds i = some d) (p : P d) : opR K (rIx K) (.list ds) (.int i) P := fun W v u ok f1 f2 Q k =>
  opLR_ix e p W v u ok (f1.lv ok) f2 Q k
/-- len(x) -/
abbrev rLen (K : PySem.W.Frag) : List V → Hp → VK → Prop := fun xs H Q => ∃ x n, xs = [x] ∧ LenV K x H n ∧ Q (.int n) H
theorem wpE_CB {r : List V → Hp → VK → Prop} {t : TA} {P : PyData → Prop} (h : wpA K W0 t Γ fun ds => opC K r ds P) : wpE K W0 (tCB r t) Γ P := fun W σ S Q k =>
  h W σ S _ fun vs W1 ds e1 f1 h1 => h1 W1 vs e1.ok f1 _ fun z W2 d e2 f2 p => k z W2 d (e1.trans e2) f2 p
theorem opC_lenS {z : Str} {P : PyData → Prop} (hz : z.length ≤ sizeLine) (p : P (.int z.length)) : opC K (rLen K) [.str z] P := fun W vs ok f Q k => by
  obtain ⟨v, rfl, f1⟩ := f.all1
  cases f1.str_inv
  exact ⟨_, z.length, rfl, ⟨hz, rfl⟩, k _ W _ (.refl ok) (.int _) p⟩
theorem opC_lenT {ds : List PyData} {P : PyData → Prop} (p : P (.int ds.length)) : opC K (rLen K) [.tuple ds] P := fun W vs ok f Q k => by
  obtain ⟨v, rfl, f1⟩ := f.all1
  obtain ⟨a, vs, rfl, q, f⟩ := f1.tup_inv
  exact ⟨_, ds.length, rfl, .inr ⟨vs, q, f.length.symm⟩, k _ W _ (.refl ok) (.int _) p⟩
theorem opC_lenL {ds : List PyData} {P : PyData → Prop} (p : P (.int ds.length)) : opC K (rLen K) [.list ds] P := fun W vs ok f Q k => by
  obtain ⟨v, rfl, f1⟩ := f.all1
  obtain ⟨a, vs, rfl, q, f⟩ := (f1.lv ok).sq
  exact ⟨_, ds.length, rfl, .inl ⟨vs, q, f.length.symm⟩, k _ W _ (.refl ok) (.int _) p⟩
theorem wpE_lenL {P : PyData → Prop} (h : wpL K W0 te Γ fun ds => P (.int ds.length)) : wpE K W0 (tCB (rLen K) (tCons te tNil)) Γ P := fun W σ S Q k => h W σ S _ fun v W1 ds e1 f1 p => by
  obtain ⟨a, vs, rfl, q, f⟩ := f1.sq
  exact ⟨_, ds.length, rfl, .inl ⟨vs, q, f.length.symm⟩, k _ W1 _ e1 (.int _) p⟩
/-- x in xs -/
def rIN (K : PySem.W.Frag) : R2 := fun x y H Q => (∃ (c : Nat) (z : Str), x = .str ⟨#[c]⟩ ∧ y = .str z ∧ Q (.bl (decide (c ∈ z.cps.toList))) H) ∨ rIn K false x y H Q
def rNIN (K : PySem.W.Frag) : R2 := fun x y H Q => (∃ (c : Nat) (z : Str), x = .str ⟨#[c]⟩ ∧ y = .str z ∧ Q (.bl (!decide (c ∈ z.cps.toList))) H) ∨ rIn K true x y H Q
theorem op_IN {X : Cx} : OpR X (compareOp .In) (rIN X.K) := OpR.or op_in_sign op_in_seq
theorem op_NIN {X : Cx} : OpR X (compareOp .NotIn) (rNIN X.K) := OpR.or op_notIn_sign op_notIn_seq
theorem opR_inS {c : Nat} {z : Str} {P : PyData → Prop} (p : P (.bool (decide (c ∈ z.cps.toList)))) : opR K (rIN K) (.str ⟨#[c]⟩) (.str z) P := fun W v u ok f1 f2 Q k => by
  cases f1.str_inv
  cases f2.str_inv
  exact .inl ⟨c, z, rfl, rfl, k _ W _ (.refl ok) (.bl _) p⟩
theorem opR_ninS {c : Nat} {z : Str} {P : PyData → Prop} (p : P (.bool (!decide (c ∈ z.cps.toList)))) : opR K (rNIN K) (.str ⟨#[c]⟩) (.str z) P := fun W v u ok f1 f2 Q k => by
  cases f1.str_inv
  cases f2.str_inv
  exact .inl ⟨c, z, rfl, rfl, k _ W _ (.refl ok) (.bl _) p⟩
theorem inV_strs (x : Str) : ∀ xs : List Str, inV (.str x) (xs.map V.str) = decide (x ∈ xs)
  | [] => rfl
  | y :: ys => by
    have ih := inV_strs x ys
    unfold inV at ih ⊢
    rw [List.map_cons, List.any_cons, ih]
    have e : eqV (V.str y) (V.str x) = decide (y = x) := rfl
    rw [e]
    by_cases h : x = y
    · subst h; simp
    · have h' : ¬ y = x := fun z => h z.symm
      simp [h, h']
theorem flat_strs (xs : List Str) : (xs.map V.str).all flatV = true := by simp [flatV]
theorem opR_inT {x : Str} {xs : List Str} {P : PyData → Prop} (p : P (.bool (decide (x ∈ xs)))) : opR K (rIN K) (.str x) (.tuple (xs.map PyData.str)) P := fun W v u ok f1 f2 Q k => by
  cases f1.str_inv
  obtain ⟨a, vs, rfl, q, f⟩ := f2.tup_inv
  have e := dfs_strs f
  subst e
  refine .inr ⟨a, _, rfl, .inr q, rfl, flat_strs xs, ?_⟩
  have e : (if false = true then !inV (V.str x) (xs.map V.str) else inV (V.str x) (xs.map V.str)) = decide (x ∈ xs) := inV_strs x xs
  rw [e]
  exact k _ W _ (.refl ok) (.bl _) p

/-! texts, lists put together -/
def rADD (K : PySem.W.Frag) : R2 := fun x y H Q => rI0 (fun i j => .int (i + j)) x y H Q ∨ (∃ i j, x = .str i ∧ y = .str j ∧ i.length + j.length ≤ sizeLine ∧ Q (.str (i ++ j)) H) ∨ rCat x y H Q ∨ rCatT K x y H Q
theorem op_ADD {X : Cx} : OpR X (binaryOp .Add) (rADD X.K) := OpR.or op_add (OpR.or op_add_str (OpR.or op_cat op_catT))
theorem add_int {i j : Int} {P : PyData → Prop} (p : P (.int (i + j))) : opR K (rADD K) (.int i) (.int j) P := fun W v u ok f1 f2 Q k => .inl (opR_I0I p W v u ok f1 f2 Q k)
theorem add_str {i j : Str} {P : PyData → Prop} (hz : i.length + j.length ≤ sizeLine) (p : P (.str (i ++ j))) : opR K (rADD K) (.str i) (.str j) P := fun W v u ok f1 f2 Q k => by
  cases f1.str_inv
  cases f2.str_inv
  exact .inr (.inl ⟨i, j, rfl, rfl, hz, k _ W _ (.refl ok) (.str _) p⟩)
def rMUL : R2 := fun x y H Q => rI CMul (fun i j => .int (i * j)) x y H Q ∨ rI CMulW (fun i j => .int (i * j)) x y H Q ∨ (∃ z k, x = .str z ∧ y = .int k ∧ 0 ≤ k ∧ k ≤ 1000 ∧ z.length ≤ 1000 ∧ ∀ u : Str, u.length = z.length * k.toNat → (∀ c ∈ u.cps.toList, c ∈ z.cps.toList) → Q (.str u) H)
theorem fold_size (x : Array Nat) : ∀ (n : Nat) (a : Array Nat), ((List.replicate n x).foldl (· ++ ·) a).size = a.size + x.size * n
  | 0, a => by simp
  | n + 1, a => by
    rw [List.replicate_succ, List.foldl_cons, fold_size x n, Array.size_append, Nat.mul_succ]
    omega
theorem fold_mem (x : Array Nat) (c : Nat) : ∀ (n : Nat) (a : Array Nat), c ∈ ((List.replicate n x).foldl (· ++ ·) a).toList → c ∈ x.toList ∨ c ∈ a.toList
  | 0, a, h => .inr h
  | n + 1, a, h => by
    rw [List.replicate_succ, List.foldl_cons] at h
    rcases fold_mem x c n _ h with h | h
    · exact .inl h
    · rw [Array.toList_append] at h
      rcases List.mem_append.mp h with h | h
      · exact .inr h
      · exact .inl h
theorem op_mul_sl {X : Cx} : OpR X (binaryOp .Mult) (fun x y H Q => ∃ z k, x = .str z ∧ y = .int k ∧ 0 ≤ k ∧ k ≤ 1000 ∧ z.length ≤ 1000 ∧ ∀ u : Str, u.length = z.length * k.toNat → (∀ c ∈ u.cps.toList, c ∈ z.cps.toList) → Q (.str u) H) := by
  intro pins s σ H x y v u Q I rx ry h
  obtain ⟨z, k, rfl, rfl, h1, h2, h3, q⟩ := h
  obtain ⟨t, rfl⟩ := rx
  obtain ⟨t', rfl⟩ := ry
  have hs : sizeLine = 16777216 := sizeLine_eq
  have hm : z.length * k.toNat ≤ 1000 * 1000 := Nat.mul_le_mul h3 (by omega)
  have tl : Builtin.Str.tooLong (z.length * k.toNat) = false := by
    unfold Builtin.Str.tooLong
    exact decide_eq_false (by omega)
  refine PySem.P.mul_str ?_ (fun hk0 _ => ?_) (fun _ _ => tl) ?_
  · have a1 : ¬ k < -(2 ^ 63 : Int) := by omega
    have a2 : ¬ k ≥ (2 ^ 63 : Int) := by omega
    rw [decide_eq_false a1, decide_eq_false a2]
    rfl
  · have hk : (0 : Int) < k := by omega
    intro hgt
    have h5 : (1000 : Int) ≤ (2 ^ 63 - 1) / k := by
      rw [Int.le_ediv_iff_mul_le hk]
      omega
    omega
  · by_cases hk0 : k < 1
    · rw [if_pos hk0]
      have e0 : k = 0 := by omega
      subst e0
      refine ⟨by decide, ⟨.str _, H, I.tok _, ⟨_, rfl⟩, q Str.empty (by simp [Str.length, Str.empty]) fun c h => by simp [Str.empty] at h⟩⟩
    · rw [if_neg hk0]
      by_cases hz : (k == 1 || z.length == 0) = true
      · rw [if_pos hz]
        refine ⟨.str z, H, I, ⟨t, rfl⟩, q z ?_ fun c h => h⟩
        rw [Bool.or_eq_true, beq_iff_eq, beq_iff_eq] at hz
        rcases hz with hz | hz
        · rw [hz]
          simp
        · rw [hz, Nat.zero_mul]
      · rw [if_neg hz]
        have e : (⟨(List.replicate k.toNat z.cps).foldl (· ++ ·) #[]⟩ : Str).length = z.length * k.toNat := by
          show ((List.replicate k.toNat z.cps).foldl (· ++ ·) #[]).size = z.cps.size * k.toNat
          rw [fold_size]
          simp
        refine ⟨?_, ⟨.str _, H, I.tok _, ⟨_, rfl⟩, q _ e fun c h => (fold_mem z.cps c k.toNat #[] h).resolve_right (by simp)⟩⟩
        rw [e]
        omega
theorem op_MUL {X : Cx} : OpR X (binaryOp .Mult) rMUL := OpR.or op_mul (OpR.or op_mulW op_mul_sl)
theorem mul_int {i j : Int} {P : PyData → Prop} (c : CMul i j) (p : P (.int (i * j))) : opR K rMUL (.int i) (.int j) P := fun W v u ok f1 f2 Q k => .inl (opR_II c p W v u ok f1 f2 Q k)
theorem mul_str {z : Str} {k : Int} {P : PyData → Prop} (h1 : 0 ≤ k) (h2 : k ≤ 1000) (h3 : z.length ≤ 1000) (p : ∀ u : Str, u.length = z.length * k.toNat → (∀ c ∈ u.cps.toList, c ∈ z.cps.toList) → P (.str u)) : opR K rMUL (.str z) (.int k) P := fun W v u ok f1 f2 Q q => by
  cases f1.str_inv
  cases f2.int_inv
  exact .inr (.inr ⟨z, k, rfl, rfl, h1, h2, h3, fun w hw hc => q _ W _ (.refl ok) (.str _) (p w hw hc)⟩)
/-- on two lists that are read -/
theorem wpN_addL {P : List PyData → Prop} (h : wpN K W0 ta Γ fun xs => wpN K W0 tb Γ fun ys => xs.length + ys.length ≤ sizeLine ∧ P (xs ++ ys)) : wpN K W0 (tOp (rADD K) ta tb) Γ P := fun W σ S Q k =>
  h W σ S _ fun v W1 xs e1 n1 h1 => h1 W1 σ (S.mono e1) _ fun u W2 ys e2 n2 ⟨hz, p⟩ => by
    obtain ⟨a, vs, rfl, a2, a3, a4, a5, a6⟩ := n1
    obtain ⟨b, us, rfl, b2, b3, b4, b5, b6⟩ := n2
    have f1 := Dfs.mono (e2.lf e1.ok) _ _ a6
    refine .inr (.inr (.inl ⟨a, b, vs, us, rfl, rfl, e2.ex _ _ a5 a4, b5, by rw [f1.length, b6.length]; exact hz, fun p' hp => ?_⟩))
    obtain ⟨e, f⟩ := e2.ok.newL hp (f1.append b6)
    exact k _ _ _ ((e1.trans e2).trans e) (f.up S.ok (e1.trans e2)) p
/-- an own list's items, written anew (xs + ys reads them) -/
theorem wpN_addVL {i : Nat} {xs : List PyData} {P : List PyData → Prop} (hx : Γ[i]? = some (.l xs)) (h : wpN K W0 tb Γ fun ys => xs.length + ys.length ≤ sizeLine ∧ P (xs ++ ys)) : wpN K W0 (tOp (rADD K) (tVar i) tb) Γ P := fun W σ S Q k => by
  obtain ⟨a, vs, h1, h2, h3, h4, h5, h6⟩ := S.varL hx
  refine ⟨_, h1, h W σ S _ fun u W2 ys e2 n2 ⟨hz, p⟩ => ?_⟩
  obtain ⟨b, us, rfl, b2, b3, b4, b5, b6⟩ := n2
  have f1 := Dfs.mono (e2.lf S.ok) _ _ h6
  refine .inr (.inr (.inl ⟨a, b, vs, us, rfl, rfl, e2.ex _ _ h5 h4, b5, by rw [f1.length, b6.length]; exact hz, fun p' hp => ?_⟩))
  obtain ⟨e, f⟩ := e2.ok.newL hp (f1.append b6)
  exact k _ _ _ (e2.trans e) (f.up S.ok e2) p

/-! slices -/
def rSL (K : PySem.W.Frag) : V → Option Int → Option Int → Hp → VK → Prop := fun x lo hi H Q => rSlS x lo hi H Q ∨ rSlA K x lo hi H Q ∨ rSlL K x lo hi H Q
theorem sl_SL {X : Cx} : SlR X (rSL X.K) := SlR.or sl_str (SlR.or sl_tupA sl_list)
def wpO (K : PySem.W.Frag) (W0 : Wd) (t : TO) (Γ : Gm) (P : Option Int → Prop) : Prop := ∀ W σ, Sat K W0 W σ Γ → ∀ Q : Option Int → Hp → Prop, (∀ W' o, Le W W' → P o → Q o W'.H) → t σ W.H Q
theorem wpO_no {P : Option Int → Prop} (p : P none) : wpO K W0 tNoPart Γ P := fun W σ S Q k => k W none (.refl S.ok) p
theorem wpO_some {P : Option Int → Prop} (h : wpE K W0 te Γ fun d => ∃ i, d = .int i ∧ P (some i)) : wpO K W0 (tPart te) Γ P := fun W σ S Q k => h W σ S _ fun v W1 d e1 f1 ⟨i, hi, p⟩ => by
  subst hi
  cases f1.int_inv
  exact ⟨i, rfl, k W1 _ e1 p⟩
theorem wpE_slS {tl th : TO} {P : PyData → Prop} (h : wpE K W0 te Γ fun d => ∃ z, d = .str z ∧ z.length ≤ sizeLine ∧ wpO K W0 tl Γ fun lo => wpO K W0 th Γ fun hi => P (.str (cutS z lo hi))) : wpE K W0 (tSl (rSL K) te tl th) Γ P := fun W σ S Q k =>
  h W σ S _ fun v W1 d e1 f1 ⟨z, hd, hz, h1⟩ => h1 W1 σ (S.mono e1) _ fun W2 lo e2 h2 => h2 W2 σ (S.mono (e1.trans e2)) _ fun W3 hi e3 p => by
    subst hd
    cases f1.str_inv
    exact .inl ⟨z, rfl, hz, k _ W3 _ ((e1.trans e2).trans e3) (.str _) p⟩
theorem cutS_le (z : Str) (lo hi : Option Int) : (cutS z lo hi).length ≤ z.length := by
  unfold cutS
  show (List.toArray _).size ≤ z.cps.size
  rw [List.size_toArray, List.length_take, List.length_drop, Array.length_toList]
  omega
/-- a text of at most n signs, all of them code points -/
def Tx (n : Nat) (x : Str) : Prop := x.length ≤ n ∧ ∀ c ∈ x.cps.toList, c < 1114112
theorem Tx.le {n m : Nat} {x : Str} (h : Tx n x) (e : n ≤ m) : Tx m x := ⟨Nat.le_trans h.1 e, h.2⟩
theorem Tx.app {n m : Nat} {x y : Str} (h : Tx n x) (g : Tx m y) : Tx (n + m) (x ++ y) :=
  ⟨by rw [Str.length_append]; exact Nat.add_le_add h.1 g.1, fun c hc => by
    have hc' : c ∈ (x.cps ++ y.cps).toList := hc
    rw [Array.toList_append] at hc'
    exact (List.mem_append.mp hc').elim (h.2 c) (g.2 c)⟩
theorem Tx.cut {n : Nat} {x : Str} (h : Tx n x) (lo hi : Option Int) : Tx n (cutS x lo hi) :=
  ⟨Nat.le_trans (cutS_le x lo hi) h.1, fun c hc => h.2 c (by
    unfold cutS at hc
    exact List.mem_of_mem_drop (List.mem_of_mem_take (by simpa using hc)))⟩
theorem Tx.one {c : Nat} (h : c < 1114112) : Tx 1 ⟨#[c]⟩ := ⟨Nat.le_refl 1, fun d hd => by
  have : d = c := by simpa using hd
  omega⟩
def txB (n : Nat) (x : Str) : Bool := decide (x.length ≤ n) && x.cps.toList.all fun c => decide (c < 1114112)
theorem Tx.of {n : Nat} {x : Str} (h : txB n x = true) : Tx n x := by
  unfold txB at h
  rw [Bool.and_eq_true] at h
  exact ⟨of_decide_eq_true h.1, fun c hc => of_decide_eq_true (List.all_eq_true.mp h.2 c hc)⟩
theorem Tx.ok {n : Nat} {x : Str} (h : Tx n x) : (PyData.str x).canLay0 = true := by
  unfold PyData.canLay0 PyData.strOk
  rw [← Array.all_toList, List.all_eq_true]
  intro c hc
  exact decide_eq_true (h.2 c hc)
/-- a slice of a text, of which alone is told that it is one of at most so many signs -/
theorem wpE_slA {tl th : TO} {P : PyData → Prop} (h : wpE K W0 te Γ fun d => ∃ z, d = .str z ∧ ∃ n, (Tx n z ∧ n ≤ 1000000) ∧ wpO K W0 tl Γ fun _ => wpO K W0 th Γ fun _ => ∀ u : Str, Tx n u → P (.str u)) : wpE K W0 (tSl (rSL K) te tl th) Γ P :=
  wpE_slS (h.imp fun d ⟨z, hd, n, ⟨hz, hn⟩, h1⟩ => ⟨z, hd, (by have := hz.1; have hs : sizeLine = 16777216 := sizeLine_eq; omega), fun W σ S Q k => h1 W σ S Q fun W' lo e h2 => k W' lo e fun W σ S Q k => h2 W σ S Q fun W' hi e p => k W' hi e (p _ (hz.cut lo hi))⟩)
def cutD (xs : List PyData) (lo hi : Option Int) : List PyData := (xs.drop (HT.sIx xs.length 0 lo)).take (HT.sIx xs.length xs.length hi - HT.sIx xs.length 0 lo)
theorem Dfs.cut {vs : List V} {ds : List PyData} (h : Dfs K W vs ds) (lo hi : Option Int) : Dfs K W (cutV vs lo hi) (cutD ds lo hi) := by
  unfold cutV cutD
  rw [h.length]
  exact (h.drop _).take _
theorem wpN_slL {tl th : TO} {P : List PyData → Prop} (h : wpL K W0 te Γ fun ds => wpO K W0 tl Γ fun lo => wpO K W0 th Γ fun hi => P (cutD ds lo hi)) : wpN K W0 (tSl (rSL K) te tl th) Γ P := fun W σ S Q k =>
  h W σ S _ fun v W1 ds e1 f1 h1 => h1 W1 σ (S.mono e1) _ fun W2 lo e2 h2 => h2 W2 σ (S.mono (e1.trans e2)) _ fun W3 hi e3 p => by
    obtain ⟨a, vs, rfl, q, f⟩ := (f1.mono e1.ok (e2.trans e3)).sq
    refine .inr (.inr ⟨a, vs, rfl, q, fun r hr => ?_⟩)
    obtain ⟨e, g⟩ := e3.ok.newL hr (f.cut lo hi)
    exact k _ _ _ (((e1.trans e2).trans e3).trans e) (g.up S.ok ((e1.trans e2).trans e3)) p

/-! sep.join(xs) -/
abbrev rJoin (K : PySem.W.Frag) : V → List V → Hp → VK → Prop := fun x xs H Q => ∃ a p, ∃ ys : List Str, x = .str a ∧ xs = [.ref p] ∧ (SqL K H p (ys.map V.str) ∨ SqT K H p (ys.map V.str)) ∧ (ys.map (·.length)).sum + ys.length * a.length ≤ 16777216 ∧ Q (.str (Txt.join a ys)) H
theorem wpE_join {P : PyData → Prop} (h : wpE K W0 ta Γ fun d => ∃ a, d = .str a ∧ wpL K W0 te Γ fun ds => ∃ ys : List Str, ds = ys.map PyData.str ∧ (ys.map (·.length)).sum + ys.length * a.length ≤ 16777216 ∧ P (.str (Txt.join a ys))) : wpE K W0 (tM1 (rJoin K) ta te) Γ P := fun W σ S Q k =>
  h W σ S _ fun v W1 d e1 f1 ⟨a, hd, h1⟩ => by
    subst hd
    cases f1.str_inv
    refine ⟨⟨a, rfl⟩, h1 W1 σ (S.mono e1) _ fun u W2 ds e2 l2 ⟨ys, hy, hz, p⟩ => ?_⟩
    subst hy
    obtain ⟨b, vs, rfl, q, f⟩ := l2.sq
    have e := dfs_strs f
    subst e
    exact ⟨a, b, ys, rfl, rfl, .inl q, hz, k _ W2 _ (e1.trans e2) (.str _) p⟩

/-! all, any of a list of truths; max, min of two; int -/
theorem wpE_all {P : PyData → Prop} (h : wpL K W0 te Γ fun ds => ∃ bs : List Bool, ds = bs.map PyData.bool ∧ P (.bool (bs.all id))) : wpE K W0 (tCB (rAll K) (tCons te tNil)) Γ P := fun W σ S Q k => h W σ S _ fun v W1 ds e1 l1 ⟨bs, hb, p⟩ => by
  subst hb
  obtain ⟨a, vs, rfl, q, f⟩ := l1.sq
  have e := dfs_bools f
  subst e
  exact ⟨a, bs, rfl, q, k _ W1 _ e1 (.bl _) p⟩
theorem wpE_any {P : PyData → Prop} (h : wpL K W0 te Γ fun ds => ∃ bs : List Bool, ds = bs.map PyData.bool ∧ P (.bool (bs.any id))) : wpE K W0 (tCB (rAny K) (tCons te tNil)) Γ P := fun W σ S Q k => h W σ S _ fun v W1 ds e1 l1 ⟨bs, hb, p⟩ => by
  subst hb
  obtain ⟨a, vs, rfl, q, f⟩ := l1.sq
  have e := dfs_bools f
  subst e
  exact ⟨a, bs, rfl, q, k _ W1 _ e1 (.bl _) p⟩
theorem opC_II {g : Int → Int → Int} {i j : Int} {P : PyData → Prop} (p : P (.int (g i j))) : opC K (fun xs H Q => ∃ i j, xs = [.int i, .int j] ∧ Q (.int (g i j)) H) [.int i, .int j] P := fun W vs ok f Q k => by
  obtain ⟨v, u, rfl, f1, f2⟩ := f.all2
  cases f1.int_inv
  cases f2.int_inv
  exact ⟨i, j, rfl, k _ W _ (.refl ok) (.int _) p⟩
abbrev rInt : List V → Hp → VK → Prop := fun xs H Q => (∃ i, xs = [.int i] ∧ Q (.int i) H) ∨ ∃ k, xs = [.bl k] ∧ Q (.int (if k then 1 else 0)) H
theorem opC_intB {b : Bool} {P : PyData → Prop} (p : P (.int (if b then 1 else 0))) : opC K rInt [.bool b] P := fun W vs ok f Q k => by
  obtain ⟨v, rfl, f1⟩ := f.all1
  cases f1.bool_inv
  exact .inr ⟨b, rfl, k _ W _ (.refl ok) (.int _) p⟩
end

/-! ### slots forgotten, targets, what is walked -/
def wipeG (Γ : Gm) : List Nat → Gm
  | [] => Γ
  | v :: vs => (wipeG Γ vs).set v .no
section
variable {K : PySem.W.Frag} {W0 W W' W1 : Wd} {σ : L2.St} {Γ : Gm}
theorem Sat.wipe1 (S : Sat K W0 W σ Γ) (i : Nat) : Sat K W0 W (σ.set i none) (Γ.set i .no) := by
  refine ⟨S.le, fun j t hj => ?_, fun j k u t a ne h1 o1 h2 o2 h3 h4 => ?_⟩
  · rcases get_set hj with ⟨e, g, rfl⟩ | ⟨e, g⟩
    · subst e
      exact ⟨none, by rw [List.getElem?_set, if_pos rfl, if_pos (S.len g)], trivial⟩
    · obtain ⟨o, h1, h2⟩ := S.sl j t g
      exact ⟨o, by rw [List.getElem?_set, if_neg e]; exact h1, h2⟩
  · rcases get_set h1 with ⟨_, _, rfl⟩ | ⟨e, g⟩
    · cases o1
    · rcases get_set h2 with ⟨_, _, rfl⟩ | ⟨e2, g2⟩
      · cases o2
      · rw [List.getElem?_set, if_neg e] at h3
        rw [List.getElem?_set, if_neg e2] at h4
        exact S.sep j k u t a ne g o1 g2 o2 h3 h4
theorem Sat.wipe (S : Sat K W0 W σ Γ) : ∀ vs : List Nat, Sat K W0 W (wipe σ vs) (wipeG Γ vs)
  | [] => S
  | v :: vs => (S.wipe vs).wipe1 v
theorem wipe_set {j : Nat} {o : Option V} : ∀ {vs : List Nat} {σ : L2.St}, j ∈ vs → wipe (σ.set j o) vs = wipe σ vs
  | v :: vs, σ, h => by
    show (wipe (σ.set j o) vs).set v none = (wipe σ vs).set v none
    by_cases hv : j ∈ vs
    · rw [wipe_set hv]
    · have e : j = v := by simpa [hv] using h
      subst e
      have out : ∀ (ws : List Nat) (τ : L2.St), j ∉ ws → wipe (τ.set j o) ws = (wipe τ ws).set j o := by
        intro ws
        induction ws with
        | nil => intro τ _; rfl
        | cons w ws ih =>
          intro τ hn
          show (wipe (τ.set j o) ws).set w none = ((wipe τ ws).set w none).set j o
          rw [ih τ (fun z => hn (List.mem_cons_of_mem _ z)), List.set_comm _ _ (fun z => hn (by rw [z]; exact List.mem_cons_self))]
      rw [out vs σ hv, List.set_set]
theorem wipe_wipe {vs : List Nat} : ∀ {ws : List Nat} {σ : L2.St}, (∀ j ∈ ws, j ∈ vs) → wipe (wipe σ ws) vs = wipe σ vs
  | [], _, _ => rfl
  | w :: ws, σ, h => by
    show wipe ((wipe σ ws).set w none) vs = wipe σ vs
    rw [wipe_set (h w List.mem_cons_self), wipe_wipe fun j hj => h j (List.mem_cons_of_mem _ hj)]

/-- a target, its slots among vs -/
def wpG (K : PySem.W.Frag) (W0 : Wd) (vs : List Nat) (g : TG) (d : PyData) (Γ : Gm) (P : Gm → Prop) : Prop := ∀ W σ, Sat K W0 W σ Γ → ∀ v, Df K W v d → ∀ Q : L2.St → Hp → Prop,
  (∀ σ' Γ' W', Le W W' → Sat K W0 W' σ' Γ' → wipe σ' vs = wipe σ vs → P Γ' → Q σ' W'.H) → g v σ W.H Q
theorem wpG_name {vs : List Nat} {j : Nat} {d : PyData} {P : Gm → Prop} (hj : j ∈ vs) (p : P (Γ.set j (.d d))) : wpG K W0 vs (gName j) d Γ P := fun W σ S v f Q k =>
  k _ _ W (.refl S.ok) (S.setD j f) (wipe_set hj) p
def wpGs (K : PySem.W.Frag) (W0 : Wd) (vs : List Nat) (g : TGs) (ds : List PyData) (Γ : Gm) (P : Gm → Prop) : Prop := ∀ W σ, Sat K W0 W σ Γ → ∀ us, Dfs K W us ds → ∀ Q : L2.St → Hp → Prop,
  (∀ σ' Γ' W', Le W W' → Sat K W0 W' σ' Γ' → wipe σ' vs = wipe σ vs → P Γ' → Q σ' W'.H) → g us σ W.H Q
theorem wpGs_nil {vs : List Nat} {P : Gm → Prop} (p : P Γ) : wpGs K W0 vs gNil [] Γ P := fun W σ S us f Q k => by
  cases f
  exact ⟨rfl, k σ Γ W (.refl S.ok) S rfl p⟩
theorem wpGs_cons {vs : List Nat} {g : TG} {gs : TGs} {d : PyData} {ds : List PyData} {P : Gm → Prop} (h : wpG K W0 vs g d Γ fun Γ' => wpGs K W0 vs gs ds Γ' P) : wpGs K W0 vs (gCons g gs) (d :: ds) Γ P := fun W σ S us f Q k => by
  cases f with
  | cons f fs =>
    exact ⟨_, _, rfl, h W σ S _ f _ fun σ' Γ' W1 e1 S1 w1 h1 => h1 W1 σ' S1 _ (Dfs.mono (e1.lf S.ok) _ _ fs) Q fun σ2 Γ2 W2 e2 S2 w2 p => k σ2 Γ2 W2 (e1.trans e2) S2 (w2.trans w1) p⟩
theorem wpG_tup {vs : List Nat} {n : Nat} {gs : TGs} {ds : List PyData} {P : Gm → Prop} (hn : ds.length = n) (h : wpGs K W0 vs gs ds Γ P) : wpG K W0 vs (gTup K n gs) (.tuple ds) Γ P := fun W σ S v f Q k => by
  obtain ⟨a, us, rfl, q, f⟩ := f.tup_inv
  exact ⟨a, us, rfl, q, by rw [f.length]; exact hn, h W σ S us f Q k⟩

/-- an iterator over the data ds, while G holds -/
structure ItD (K : PySem.W.Frag) (G : Wd → Prop) (J : It) (ds : List PyData) : Prop where
  go : ∀ W i, G W → i < ds.length → J.go i W.H
  stop : ∀ W i, G W → ds.length ≤ i → J.stop i W.H
  yld : ∀ W i x H' d, G W → Ok W → ds[i]? = some d → J.yld i W.H x H' → ∃ W', W'.H = H' ∧ Le W W' ∧ Df K W' x d
def wpI (K : PySem.W.Frag) (W0 : Wd) (wi : TI) (Γ : Gm) (P : List PyData → Prop) : Prop := ∀ W σ, Sat K W0 W σ Γ → ∀ R : It → Hp → Prop, (∀ W' J ds, Le W W' → ItD K (Lf W') J ds → P ds → R J W'.H) → wi σ W.H R
def wpIc (K : PySem.W.Frag) (W0 : Wd) (wi : TI) (Γ : Gm) (P : List PyData → Prop) : Prop := ∀ W σ, Sat K W0 W σ Γ → ∀ R : It → Hp → Prop, (∀ W' J ds, Le W W' → ItD K (Le W') J ds → P ds → R J W'.H) → wi σ W.H R
theorem wpIc_of {wi : TI} {P : List PyData → Prop} (h : wpI K W0 wi Γ P) : wpIc K W0 wi Γ P := fun W σ S R k => h W σ S R fun W' J ds e i p =>
  k W' J ds e ⟨fun W2 n g => i.go W2 n (g.lf e.ok), fun W2 n g => i.stop W2 n (g.lf e.ok), fun W2 n x H' d g => i.yld W2 n x H' d (g.lf e.ok)⟩ p
theorem itd_tup {a : Addr} {vs : List V} {ds : List PyData} (h : SqT K W.H a vs) (f : Dfs K W vs ds) : ItD K (Lf W) (Itt K a) ds where
  go := fun W2 i g hi => ⟨vs, vs[i]'(by rw [f.length]; exact hi), g.rdT h, by simp [f.length, hi]⟩
  stop := fun W2 i g hi => ⟨vs, g.rdT h, by rw [f.length]; exact hi⟩
  yld := fun W2 i x H' d g ok hd ⟨e, y⟩ => by
    obtain ⟨v, h1, h2⟩ := f.get hd
    have h3 := y vs (g.rdT h)
    rw [h1] at h3
    cases h3
    exact ⟨W2, e.symm, .refl ok, Df.mono g _ _ h2⟩
theorem itd_list {G : Wd → Prop} {a : Addr} {vs : List V} {ds : List PyData} (hG : ∀ W', G W' → SqL K W'.H a vs ∧ Dfs K W' vs ds) (hl : vs.length = ds.length) : ItD K G (Itl K a) ds where
  go := fun W2 i g hi => ⟨vs, vs[i]'(by rw [hl]; exact hi), (hG W2 g).1, by simp [hl, hi]⟩
  stop := fun W2 i g hi => ⟨vs, (hG W2 g).1, by rw [hl]; exact hi⟩
  yld := fun W2 i x H' d g ok hd ⟨e, y⟩ => by
    obtain ⟨v, h1, h2⟩ := (hG W2 g).2.get hd
    have h3 := y vs (hG W2 g).1
    rw [h1] at h3
    cases h3
    exact ⟨W2, e.symm, .refl ok, h2⟩
theorem wpI_tup {te : TE} {P : List PyData → Prop} (h : wpE K W0 te Γ fun d => ∃ ds, d = .tuple ds ∧ P ds) : wpI K W0 (iTup K te) Γ P := fun W σ S R k => h W σ S _ fun v W1 d e1 f1 ⟨ds, hd, p⟩ => by
  subst hd
  obtain ⟨a, vs, rfl, q, f⟩ := f1.tup_inv
  exact ⟨a, rfl, ⟨vs, q⟩, k W1 _ ds e1 (itd_tup q f) p⟩
theorem wpI_list {te : TE} {P : List PyData → Prop} (h : wpE K W0 te Γ fun d => ∃ ds, d = .list ds ∧ P ds) : wpI K W0 (iList K te) Γ P := fun W σ S R k => h W σ S _ fun v W1 d e1 f1 ⟨ds, hd, p⟩ => by
  subst hd
  cases f1 with
  | @lst a vs _ q f =>
    have hG : ∀ W', Lf W1 W' → SqL K W'.H a vs ∧ Dfs K W' vs ds := fun W' g => ⟨q.elim (fun q => .inl (g.rdL q.1 q.2)) fun q => q _, Dfs.mono g _ _ f⟩
    exact ⟨a, rfl, ⟨vs, (hG W1 (.refl e1.ok)).1⟩, k W1 _ ds e1 (itd_list hG f.length) p⟩
theorem wpIc_list {te : TE} {P : List PyData → Prop} (h : wpL K W0 te Γ P) : wpIc K W0 (iList K te) Γ P := fun W σ S R k => h W σ S _ fun v W1 ds e1 l1 p => by
  obtain ⟨a, vs, ev, q, f⟩ := id l1
  subst ev
  have hG : ∀ W', Le W1 W' → SqL K W'.H a vs ∧ Dfs K W' vs ds := fun W' g => by
    refine ⟨?_, Dfs.mono (g.lf e1.ok) _ _ f⟩
    rcases q with ⟨q | ⟨o, q⟩, b⟩ | q
    · exact .inl (.inl (g.ex _ _ q b))
    · exact .inl (.inr ⟨o, g.ex _ _ q b⟩)
    · exact q _
  exact ⟨a, rfl, ⟨vs, (hG W1 (.refl e1.ok)).1⟩, k W1 _ ds e1 (itd_list hG f.length) p⟩
def rngD (lo : Int) (n : Nat) : List PyData := (List.range n).map fun i => .int (lo + (i : Nat))
theorem rngD_len (lo : Int) (n : Nat) : (rngD lo n).length = n := by simp [rngD]
theorem rngD_get {lo : Int} {n i : Nat} {d : PyData} (h : (rngD lo n)[i]? = some d) : i < n ∧ d = .int (lo + i) := by
  have g : i < n := by
    have := (List.getElem?_eq_some_iff.mp h).1
    rw [rngD_len] at this
    exact this
  unfold rngD at h
  rw [List.getElem?_map, List.getElem?_eq_getElem (by simpa using g)] at h
  simp at h
  exact ⟨g, h.symm⟩
theorem itd_rng {G : Wd → Prop} {lo : Int} {n : Nat} : ItD K G (Itr lo n) (rngD lo n) where
  go := fun W2 i g hi => by rw [rngD_len] at hi; exact hi
  stop := fun W2 i g hi => by rw [rngD_len] at hi; exact hi
  yld := fun W2 i x H' d g ok hd ⟨e, y⟩ => by
    obtain ⟨_, rfl⟩ := rngD_get hd
    subst y
    exact ⟨W2, e.symm, .refl ok, .int _⟩
theorem wpI_rng1 {ta : TE} {P : List PyData → Prop} (h : wpE K W0 ta Γ fun d => ∃ j : Int, d = .int j ∧ -(2 ^ 62) ≤ j ∧ j < 2 ^ 62 ∧ P (rngD 0 j.toNat)) : wpI K W0 (iRng1 (tCons ta tNil)) Γ P := fun W σ S R k => h W σ S _ fun v W1 d e1 f1 ⟨j, hd, h1, h2, p⟩ => by
  subst hd
  cases f1.int_inv
  exact ⟨j, rfl, h1, h2, k W1 _ _ e1 itd_rng p⟩
theorem wpI_rng2 {ta tb : TE} {P : List PyData → Prop} (h : wpE K W0 ta Γ fun c => wpE K W0 tb Γ fun d => ∃ i j : Int, c = .int i ∧ d = .int j ∧ (-(2 ^ 62) ≤ i ∧ i < 2 ^ 62 ∧ -(2 ^ 62) ≤ j ∧ j < 2 ^ 62) ∧ P (rngD i (j - i).toNat)) : wpI K W0 (iRng2 (tCons ta (tCons tb tNil))) Γ P := fun W σ S R k =>
  h W σ S _ fun v W1 c e1 f1 h1 => h1 W1 σ (S.mono e1) _ fun u W2 d e2 f2 ⟨i, j, hc, hd, hb, p⟩ => by
    subst hc hd
    cases f1.int_inv
    cases f2.int_inv
    exact ⟨i, j, rfl, hb, k W2 _ _ (e1.trans e2) itd_rng p⟩
def signsD (x : Str) : List PyData := x.cps.toList.map fun c => .str ⟨#[c]⟩
theorem itd_str {G : Wd → Prop} {x : Str} : ItD K G (Its x) (signsD x) where
  go := fun W2 i g hi => by
    show i < x.cps.size
    simpa [signsD] using hi
  stop := fun W2 i g hi => by
    show x.cps.size ≤ i
    simpa [signsD] using hi
  yld := fun W2 i v H' d g ok hd ⟨e, c, hc, hv⟩ => by
    unfold signsD at hd
    rw [List.getElem?_map, Array.getElem?_toList, hc] at hd
    cases hd
    subst hv
    exact ⟨W2, e.symm, .refl ok, .str _⟩
theorem wpI_str {te : TE} {P : List PyData → Prop} (h : wpE K W0 te Γ fun d => ∃ x, d = .str x ∧ P (signsD x)) : wpI K W0 (iStr te) Γ P := fun W σ S R k => h W σ S _ fun v W1 d e1 f1 ⟨x, hd, p⟩ => by
  subst hd
  cases f1.str_inv
  exact ⟨x, rfl, k W1 _ _ e1 itd_str p⟩

/-! an own object is changed -/
theorem Ok.mut (ok : Ok W) {a : Addr} {o o' : HO} (h : W.H a = some o) (hb : ¬ W.B a) : Ok ⟨W.Fz, W.B, upd W.H a o'⟩ :=
  ⟨fun b f => by
    show upd W.H a o' b ≠ none
    by_cases e : b = a
    · subst e; rw [upd_same]; exact fun z => nomatch z
    · rw [upd_ne e]; exact ok.fz b f, fun b f => by
    obtain ⟨x, y, z, e⟩ := ok.bx b f
    exact ⟨x, y, z, by show upd W.H a o' b = _; rw [upd_ne (fun z => hb (by rw [← z]; exact f))]; exact e⟩, ok.fb⟩
theorem Ok.mutLf (ok : Ok W) {a : Addr} {o o' : HO} (h : W.H a = some o) (hm : Mut (some o)) (hf : ¬ W.Fz a) (hb : ¬ W.B a) : Lf W ⟨W.Fz, W.B, upd W.H a o'⟩ :=
  ⟨ok.mut h hb, fun _ h => h, fun _ h => h, fun b u e m => by
    show upd W.H a o' b = some u
    by_cases q : b = a
    · subst q
      rcases m with m | m
      · exact absurd m hf
      · rw [h] at e
        cases e
        exact absurd hm m
    · rw [upd_ne q]; exact e⟩
theorem Le.mut (e : Le W0 W) {a : Addr} {o o' : HO} (h : W.H a = some o) (hb : ¬ W.B a) (h0 : W0.H a = none) : Le W0 ⟨W.Fz, W.B, upd W.H a o'⟩ :=
  ⟨e.ok.mut h hb, e.fz, e.b, fun b u q n => by
    show upd W.H a o' b = some u
    rw [upd_ne (ne_of_none q h0)]
    exact e.ex b u q n, e.nf, e.nb⟩

theorem Sat.mutO (S1 : Sat K W0 W σ Γ) {i : Nat} {a : Addr} {s s' : Sl} {o o' : HO} (hi : Γ[i]? = some s) (ho : s.own = true) (ho' : s'.own = true) (h1 : σ[i]? = some (some (.ref a))) (g2 : W0.H a = none) (g3 : ¬ W.Fz a) (g4 : ¬ W.B a) (g5 : W.H a = some o)
    (lf : Lf W ⟨W.Fz, W.B, upd W.H a o'⟩) (f : SlOk K W0 ⟨W.Fz, W.B, upd W.H a o'⟩ (some (.ref a)) s') : Sat K W0 ⟨W.Fz, W.B, upd W.H a o'⟩ σ (Γ.set i s') := by
  refine ⟨S1.le.mut g5 g4 g2, fun j s hj => ?_, fun j k u t b ne q1 o1 q2 o2 q3 q4 => ?_⟩
  · rcases get_set hj with ⟨e1, g, rfl⟩ | ⟨e1, g⟩
    · subst e1
      exact ⟨_, h1, f⟩
    · obtain ⟨o, q1, q2⟩ := S1.sl j s g
      refine ⟨o, q1, ?_⟩
      cases s with
      | no => cases o <;> trivial
      | d x =>
        cases o with
        | none => exact q2
        | some y => exact Df.mono lf _ _ q2
      | l ys =>
        cases o with
        | none => exact q2
        | some y =>
          obtain ⟨b, us, rfl, p2, p3, p4, p5, p6⟩ := q2
          have nb : b ≠ a := fun z => by
            subst z
            exact S1.sep i j _ _ b e1 hi ho g rfl h1 q1
          exact ⟨b, us, rfl, p2, p3, p4, by show upd W.H a _ b = _; rw [upd_ne nb]; exact p5, Dfs.mono lf _ _ p6⟩
      | k ys =>
        cases o with
        | none => exact q2
        | some y =>
          obtain ⟨b, us, rfl, p2, p3, p4, p5, p6⟩ := q2
          have nb : b ≠ a := fun z => by
            subst z
            exact S1.sep i j _ _ b e1 hi ho g rfl h1 q1
          exact ⟨b, us, rfl, p2, p3, p4, by show upd W.H a _ b = _; rw [upd_ne nb]; exact p5, Dps.mono lf _ _ p6⟩
  · have get : ∀ {n : Nat} {z : Sl}, (Γ.set i s')[n]? = some z → z.own = true → ∃ z', Γ[n]? = some z' ∧ z'.own = true := fun {n z} q oz => by
      rcases get_set q with ⟨e1, _, _⟩ | ⟨_, g⟩
      · subst e1; exact ⟨_, hi, ho⟩
      · exact ⟨z, g, oz⟩
    obtain ⟨ys', w1, v1⟩ := get q1 o1
    obtain ⟨zs', w2, v2⟩ := get q2 o2
    exact S1.sep j k ys' zs' b ne w1 v1 w2 v2 q3 q4
theorem Sat.mutL (S1 : Sat K W0 W σ Γ) {i : Nat} {a : Addr} {xs ys : List PyData} {vs us : List V} (hi : Γ[i]? = some (.l xs)) (h1 : σ[i]? = some (some (.ref a))) (g2 : W0.H a = none) (g3 : ¬ W.Fz a) (g4 : ¬ W.B a) (g5 : W.H a = some (.lst vs))
    (lf : Lf W ⟨W.Fz, W.B, upd W.H a (.lst us)⟩) (f : Dfs K ⟨W.Fz, W.B, upd W.H a (.lst us)⟩ us ys) : Sat K W0 ⟨W.Fz, W.B, upd W.H a (.lst us)⟩ σ (Γ.set i (.l ys)) :=
  S1.mutO hi rfl rfl h1 g2 g3 g4 g5 lf ⟨a, _, rfl, g2, g3, g4, upd_same, f⟩
theorem Sat.mutK (S1 : Sat K W0 W σ Γ) {i : Nat} {a : Addr} {xs ys : List (PyData × PyData)} {vs us : List (Key × V)} (hi : Γ[i]? = some (.k xs)) (h1 : σ[i]? = some (some (.ref a))) (g2 : W0.H a = none) (g3 : ¬ W.Fz a) (g4 : ¬ W.B a) (g5 : W.H a = some (.dK vs))
    (lf : Lf W ⟨W.Fz, W.B, upd W.H a (.dK us)⟩) (f : Dps K ⟨W.Fz, W.B, upd W.H a (.dK us)⟩ us ys) : Sat K W0 ⟨W.Fz, W.B, upd W.H a (.dK us)⟩ σ (Γ.set i (.k ys)) :=
  S1.mutO hi rfl rfl h1 g2 g3 g4 g5 lf ⟨a, _, rfl, g2, g3, g4, upd_same, f⟩

/-- a list comprehension -/
theorem wpN_lc {wi : TI} {g : TG} {tt : TT} {te : TE} {vs : List Nat} {P : List PyData → Prop} 
    (h : wpIc K W0 wi Γ fun ds => ds.length < 10000000 ∧ ∃ Iv : Nat → List PyData → Prop, Iv 0 [] ∧ (∀ i d acc, ds[i]? = some d → Iv i acc → acc.length ≤ i → wpG K W0 vs g d (wipeG Γ vs) fun Γ' => wpT K W0 tt Γ' fun b => (b = true → wpE K W0 te Γ' fun y => Iv (i + 1) (acc ++ [y])) ∧ (b = false → Iv (i + 1) acc)) ∧
      ∀ acc, Iv ds.length acc → acc.length ≤ ds.length → P acc) : wpN K W0 (tLc wi g tt te vs) Γ P := fun W σ S Q k => h W σ S _ fun W1 J ds e1 it ⟨hz, Iv, i0, hs, hd⟩ => by
  intro D hD
  have hsz : sizeLine = 16777216 := sizeLine_eq
  have S1 := S.mono e1
  obtain ⟨n1, n2⟩ := e1.ok.newL (K := K) (ds := []) (vs := []) hD .nil
  refine ⟨fun i m H => m = ds.length - i ∧ i ≤ ds.length ∧ ∃ W2 acc us, W2.H = H ∧ Le W1 W2 ∧ ¬ W2.Fz D ∧ ¬ W2.B D ∧ H D = some (.lst us) ∧ Dfs K W2 us acc ∧ Iv i acc ∧ acc.length ≤ i, ⟨ds.length, by simp, Nat.zero_le _, _, [], [], rfl, n1, ?_, ?_, upd_same, .nil, i0, Nat.le_refl _⟩, ?_⟩
  · exact fun z => e1.ok.fz D z hD
  · intro z
    obtain ⟨_, _, _, e⟩ := e1.ok.bx D z
    rw [hD] at e
    cases e
  · rintro i m H ⟨rfl, hi, W2, acc, us, rfl, e2, nf, nb, hl, hf, hI, hal⟩
    by_cases hlt : i < ds.length
    · refine .inr ⟨it.go W2 i e2 hlt, fun H' => ∃ W2 acc us, W2.H = H' ∧ Le W1 W2 ∧ ¬ W2.Fz D ∧ ¬ W2.B D ∧ H' D = some (.lst us) ∧ Dfs K W2 us acc ∧ Iv (i + 1) acc ∧ acc.length ≤ i + 1, fun H' q => ⟨ds.length - (i + 1), by omega, rfl, hlt, q⟩, fun x H' hy => ?_⟩
      obtain ⟨W3, rfl, e3, f3⟩ := it.yld W2 i x H' ds[i] e2 e2.ok (List.getElem?_eq_getElem hlt) hy
      have S3 : Sat K W0 W3 (wipe σ vs) (wipeG Γ vs) := (S1.mono (e2.trans e3)).wipe vs
      have keep : ∀ W', Le W2 W' → ¬ W'.Fz D ∧ ¬ W'.B D ∧ W'.H D = some (.lst us) := fun W' e => ⟨fun z => (by
        have := e.nf D z nf
        rw [hl] at this
        cases this), fun z => (by
        have := e.nb D z nb
        rw [hl] at this
        cases this), e.ex D _ hl nb⟩
      refine hs i ds[i] acc (List.getElem?_eq_getElem hlt) hI hal W3 _ S3 x f3 _ fun σ' Γ' W4 e4 S4 w4 ht => ⟨w4.trans (wipe_wipe fun _ h => h), ?_⟩
      refine ht W4 σ' S4 _ fun W5 b e5 hb => ?_
      cases b with
      | false =>
        obtain ⟨k1, k2, k3⟩ := keep W5 ((e3.trans e4).trans e5)
        exact ⟨W5, acc, us, rfl, ((e2.trans e3).trans e4).trans e5, k1, k2, k3, Dfs.mono (((e3.trans e4).trans e5).lf e2.ok) _ _ hf, hb.2 rfl, by omega⟩
      | true =>
        show te σ' W5.H _
        refine hb.1 rfl W5 σ' (S4.mono e5) _ fun y W6 d6 e6 f6 hI6 => ?_
        have e26 : Le W2 W6 := ((e3.trans e4).trans e5).trans e6
        obtain ⟨k1, k2, k3⟩ := keep W6 e26
        refine ⟨us, k3, by rw [hf.length]; omega, ⟨W6.Fz, W6.B, upd W6.H D (.lst (us ++ [y]))⟩, acc ++ [d6], us ++ [y], rfl, (e2.trans e26).mut k3 k2 hD, k1, k2, upd_same, ?_, hI6, by rw [List.length_append, List.length_singleton]; omega⟩
        have lf := e6.ok.mutLf (o' := .lst (us ++ [y])) k3 trivial k1 k2
        exact (Dfs.mono lf _ _ (Dfs.mono (e26.lf e2.ok) _ _ hf)).append (.cons (Df.mono lf _ _ f6) .nil)
    · have e : i = ds.length := by omega
      subst e
      refine .inl ⟨it.stop W2 _ e2 (Nat.le_refl _), k _ W2 acc (e1.trans e2) ?_ (hd acc hI hal)⟩
      have : Nw K W1 W2 (.ref D) acc := ⟨D, us, rfl, hD, nf, nb, hl, hf⟩
      exact this.up S.ok e1
end

/-! ### statements -/
inductive Rs where
  | d (x : PyData)
  | l (xs : List PyData)
def Rs.data : Rs → PyData
  | .d x => x
  | .l xs => .list xs
def RsOk (K : PySem.W.Frag) (W0 W : Wd) (v : V) : Rs → Prop
  | .d x => Df K W v x
  | .l xs => Nw K W0 W v xs
structure AE where
  nx : Gm → Prop
  rt : Rs → Prop
  bk : Gm → Prop := fun _ => False
  ct : Gm → Prop := fun _ => False
structure Cn (K : PySem.W.Frag) (W0 W : Wd) (D : Ends) (A : AE) : Prop where
  nx : ∀ Γ' W' σ', Lf W W' → Sat K W0 W' σ' Γ' → A.nx Γ' → D.nx σ' W'.H
  rt : ∀ v W' r, Le W0 W' → RsOk K W0 W' v r → A.rt r → D.rt v W'.H
  bk : ∀ Γ' W' σ', Lf W W' → Sat K W0 W' σ' Γ' → A.bk Γ' → D.bk σ' W'.H
  ct : ∀ Γ' W' σ', Lf W W' → Sat K W0 W' σ' Γ' → A.ct Γ' → D.ct σ' W'.H
def go (K : PySem.W.Frag) (W0 : Wd) (ts : TS) (Γ : Gm) (A : AE) : Prop := ∀ W σ D, Sat K W0 W σ Γ → Cn K W0 W D A → ts D σ W.H
section
variable {K : PySem.W.Frag} {W0 W W' W1 : Wd} {σ : L2.St} {Γ : Gm} {D : Ends} {A : AE} {ta tb te : TE} {t u : TS} {tt : TT}
theorem Cn.later (c : Cn K W0 W D A) (e : Lf W W') : Cn K W0 W' D A :=
  ⟨fun Γ' W2 σ' f => c.nx Γ' W2 σ' (e.trans f), c.rt, fun Γ' W2 σ' f => c.bk Γ' W2 σ' (e.trans f), fun Γ' W2 σ' f => c.ct Γ' W2 σ' (e.trans f)⟩
theorem go_seq (h : go K W0 t Γ { A with nx := fun Γ' => go K W0 u Γ' A }) : go K W0 (tSeq t u) Γ A := fun W σ D S c =>
  h W σ { D with nx := u D } S ⟨fun Γ' W' σ' f S' g => g W' σ' D S' (c.later f), c.rt, c.bk, c.ct⟩
theorem go_next (p : A.nx Γ) : go K W0 tNext Γ A := fun W σ D S c => c.nx Γ W σ (.refl S.ok) S p
theorem go_brk (p : A.bk Γ) : go K W0 tBreak Γ A := fun W σ D S c => c.bk Γ W σ (.refl S.ok) S p
theorem go_cont (p : A.ct Γ) : go K W0 tCont Γ A := fun W σ D S c => c.ct Γ W σ (.refl S.ok) S p
theorem go_asg {i : Nat} (h : wpE K W0 te Γ fun d => A.nx (Γ.set i (.d d))) : go K W0 (tAsg te (gName i)) Γ A := fun W σ D S c =>
  h W σ S _ fun v W' d e f p => c.nx _ W' _ (e.lf S.ok) ((S.mono e).setD i f) p
/-- a new list is kept as one's own -/
theorem go_asgN {i : Nat} (h : wpN K W0 te Γ fun ds => A.nx (Γ.set i (.l ds))) : go K W0 (tAsg te (gName i)) Γ A := fun W σ D S c =>
  h W σ S _ fun v W' ds e n p => by
    obtain ⟨a, vs, rfl, h2, h3, h4, h5, h6⟩ := n
    have h0 : W0.H a = none := S.le.fresh h2
    refine c.nx _ W' _ (e.lf S.ok) ((S.mono e).set i (show SlOk K W0 W' (some (.ref a)) (.l ds) from ⟨a, vs, rfl, h0, h3, h4, h5, h6⟩) fun _ j t b _ hj ot hσ q => ?_) p
    cases q
    exact S.there hj ot hσ h2
theorem go_asgG {vs : List Nat} {g : TG} (h : wpE K W0 te Γ fun d => wpG K W0 vs g d Γ A.nx) : go K W0 (tAsg te g) Γ A := fun W σ D S c =>
  h W σ S _ fun v W1 d e f p => p W1 σ (S.mono e) v f D.nx fun σ' Γ' W2 e2 S2 _ q => c.nx Γ' W2 σ' ((e.trans e2).lf S.ok) S2 q
theorem go_par {i j : Nat} {t : TA} (h : wpA K W0 t Γ fun ds => ∃ x y, ds = [x, y] ∧ A.nx ((Γ.set i (.d x)).set j (.d y))) : go K W0 (tPar i j t) Γ A := fun W σ D S c =>
  h W σ S _ fun vs W' ds e f ⟨x, y, hd, p⟩ => by
    subst hd
    obtain ⟨v, u, rfl, f1, f2⟩ := f.all2
    exact ⟨v, u, rfl, c.nx _ W' _ (e.lf S.ok) (((S.mono e).setD i f1).setD j f2) p⟩
theorem go_drop (h : wpE K W0 te Γ fun _ => A.nx Γ) : go K W0 (tDrop te) Γ A := fun W σ D S c =>
  h W σ S _ fun v W' d e f p => c.nx _ W' _ (e.lf S.ok) (S.mono e) p
theorem go_ret (h : wpE K W0 te Γ fun d => A.rt (.d d)) : go K W0 (tRet te) Γ A := fun W σ D S c =>
  h W σ S _ fun v W' d e f p => c.rt v W' (.d d) (S.le.trans e) f p
theorem go_retN (p : A.rt (.d .none)) : go K W0 tRetN Γ A := fun W σ D S c => c.rt .non W (.d .none) S.le Df.non p
theorem go_retL (h : wpN K W0 te Γ fun ds => A.rt (.l ds)) : go K W0 (tRet te) Γ A := fun W σ D S c =>
  h W σ S _ fun v W' ds e n p => c.rt v W' (.l ds) (S.le.trans e) (show Nw K W0 W' v ds by
    obtain ⟨a, vs, rfl, h2, h⟩ := n
    exact ⟨a, vs, rfl, S.le.fresh h2, h⟩) p
/-- return x, x a list of one's own -/
theorem go_retV {i : Nat} {xs : List PyData} (h : Γ[i]? = some (.l xs)) (p : A.rt (.l xs)) : go K W0 (tRet (tVar i)) Γ A := fun W σ D S c => by
  obtain ⟨a, vs, h1, h2, h3, h4, h5, h6⟩ := S.varL h
  exact ⟨_, h1, c.rt _ W (.l xs) S.le ⟨a, vs, rfl, h2, h3, h4, h5, h6⟩ p⟩
theorem go_if (h : wpT K W0 tt Γ fun b => (b = true → go K W0 t Γ A) ∧ (b = false → go K W0 u Γ A)) : go K W0 (tIfS tt t u) Γ A := fun W σ D S c =>
  h W σ S _ fun W' b e p => by
    cases b with
    | true =>
      show t D σ W'.H
      exact p.1 rfl W' σ D (S.mono e) (c.later (e.lf S.ok))
    | false =>
      show u D σ W'.H
      exact p.2 rfl W' σ D (S.mono e) (c.later (e.lf S.ok))
/-- slots may be forgotten, own lists become data -/
theorem go_forget (i : Nat) (h : go K W0 t (Γ.set i .no) A) : go K W0 t Γ A := fun W σ D S c => h W σ D (S.forget i) c
theorem go_freeze {i : Nat} {xs : List PyData} (hi : Γ[i]? = some (.l xs)) (h : go K W0 t (Γ.set i (.d (.list xs))) A) : go K W0 t Γ A := fun W σ D S c => by
  obtain ⟨W', h1, lf, S'⟩ := S.freeze hi
  rw [← h1]
  exact h W' σ D S' (c.later lf)
/-- x.append(e) -/
theorem go_append {i : Nat} {xs : List PyData} (hi : Γ[i]? = some (.l xs)) (h : wpE K W0 te Γ fun d => xs.length < 10000000 ∧ A.nx (Γ.set i (.l (xs ++ [d])))) : go K W0 (tDrop (tBM K "list" rAppend (tVar i) (tCons te tNil))) Γ A := fun W σ D S c => by
  have hsz : sizeLine = 16777216 := sizeLine_eq
  obtain ⟨a, vs, h1, h2, h3, h4, h5, h6⟩ := S.varL hi
  refine ⟨_, h1, .inl ⟨rfl, vs, .inl (.inl h5)⟩, h W σ S _ fun v W1 d e f ⟨hz, p⟩ => ?_⟩
  have S1 := S.mono e
  obtain ⟨a', vs', g1, g2, g3, g4, g5, g6⟩ := S1.varL hi
  rw [h1] at g1
  cases g1
  have hvs : vs' = vs := by
    have := e.ex _ _ h5 h4
    rw [g5] at this
    cases this
    rfl
  subst hvs
  refine ⟨a, vs', v, rfl, rfl, g5, by rw [g6.length]; omega, ?_⟩
  have lf := e.ok.mutLf (o' := .lst (vs' ++ [v])) g5 trivial g3 g4
  exact c.nx _ ⟨W1.Fz, W1.B, upd W1.H a (.lst (vs' ++ [v]))⟩ σ ((e.lf S.ok).trans lf) (S1.mutL hi h1 g2 g3 g4 g5 lf ((Dfs.mono lf _ _ g6).append (.cons (Df.mono lf _ _ f) .nil))) p

/-! loops -/
theorem go_for {wi : TI} {g : TG} (vs : List Nat)
    (h : wpI K W0 wi Γ fun ds => ∃ Iv : Nat → Gm → Prop, Iv 0 Γ ∧ (∀ i d Γ', ds[i]? = some d → Iv i Γ' → wpG K W0 vs g d Γ' fun Γ2 => go K W0 t Γ2 ⟨Iv (i + 1), A.rt, A.nx, Iv (i + 1)⟩) ∧ ∀ Γ', Iv ds.length Γ' → A.nx Γ') : go K W0 (tFor wi g t) Γ A := fun W σ D S c =>
  h W σ S _ fun W1 J ds e1 it ⟨Iv, i0, hs, hd⟩ => by
    refine ⟨fun i m σ' H => m = ds.length - i ∧ i ≤ ds.length ∧ ∃ W2 Γ', W2.H = H ∧ Lf W1 W2 ∧ Sat K W0 W2 σ' Γ' ∧ Iv i Γ', ⟨ds.length, by simp, Nat.zero_le _, W1, Γ, rfl, .refl e1.ok, S.mono e1, i0⟩, ?_⟩
    rintro i m σ' H ⟨rfl, hi, W2, Γ', rfl, f2, S2, hI⟩
    have c2 := c.later ((e1.lf S.ok).trans f2)
    by_cases hlt : i < ds.length
    · refine .inr ⟨it.go W2 i f2 hlt, fun σ' H' => ∃ W2 Γ', W2.H = H' ∧ Lf W1 W2 ∧ Sat K W0 W2 σ' Γ' ∧ Iv (i + 1) Γ', fun σ' H' q => ⟨ds.length - (i + 1), by omega, rfl, hlt, q⟩, fun x H' hy => ?_⟩
      obtain ⟨W3, rfl, e3, f3⟩ := it.yld W2 i x H' ds[i] f2 S2.ok (List.getElem?_eq_getElem hlt) hy
      refine hs i ds[i] Γ' (List.getElem?_eq_getElem hlt) hI W3 σ' (S2.mono e3) x f3 _ fun σ4 Γ4 W4 e4 S4 _ hgo => ?_
      have f4 : Lf W1 W4 := f2.trans ((e3.trans e4).lf S2.ok)
      refine hgo W4 σ4 _ S4 ⟨fun Γ5 W5 σ5 f5 S5 q => ⟨W5, Γ5, rfl, f4.trans f5, S5, q⟩, fun v W5 r e5 r5 q => c2.rt v W5 r e5 r5 q, fun Γ5 W5 σ5 f5 S5 q => c2.nx Γ5 W5 σ5 (((e3.trans e4).lf S2.ok).trans f5) S5 q, fun Γ5 W5 σ5 f5 S5 q => ⟨W5, Γ5, rfl, f4.trans f5, S5, q⟩⟩
    · have e : i = ds.length := by omega
      subst e
      exact .inl ⟨it.stop W2 _ f2 (Nat.le_refl _), c2.nx Γ' W2 σ' (.refl S2.ok) S2 (hd Γ' hI)⟩
theorem go_while (Iv : Nat → Gm → Prop) (m0 : Nat) (h0 : Iv m0 Γ)
    (hs : ∀ m Γ', Iv m Γ' → wpT K W0 tt Γ' fun b => (b = true → go K W0 t Γ' ⟨fun Γ2 => ∃ m', m' < m ∧ Iv m' Γ2, A.rt, A.nx, fun Γ2 => ∃ m', m' < m ∧ Iv m' Γ2⟩) ∧ (b = false → A.nx Γ')) : go K W0 (tWhile tt t) Γ A := fun W σ D S c => by
  refine ⟨fun m σ' H => ∃ W2 Γ', W2.H = H ∧ Lf W W2 ∧ Sat K W0 W2 σ' Γ' ∧ Iv m Γ', ⟨m0, W, Γ, rfl, .refl S.ok, S, h0⟩, ?_⟩
  rintro m σ' H ⟨W2, Γ', rfl, f2, S2, hI⟩
  have c2 := c.later f2
  refine hs m Γ' hI W2 σ' S2 _ fun W3 b e3 p => ?_
  cases b with
  | true =>
    show ∃ N : L2.St → Hp → Prop, _
    have f3 := f2.trans (e3.lf S2.ok)
    refine ⟨fun σ' H' => ∃ m', m' < m ∧ ∃ W2 Γ', W2.H = H' ∧ Lf W W2 ∧ Sat K W0 W2 σ' Γ' ∧ Iv m' Γ', fun σ' H' q => q, ?_⟩
    refine p.1 rfl W3 σ' _ (S2.mono e3) ⟨fun Γ5 W5 σ5 f5 S5 ⟨m', l, q⟩ => ⟨m', l, W5, Γ5, rfl, f3.trans f5, S5, q⟩, fun v W5 r e5 r5 q => c2.rt v W5 r e5 r5 q, fun Γ5 W5 σ5 f5 S5 q => c2.nx Γ5 W5 σ5 ((e3.lf S2.ok).trans f5) S5 q, fun Γ5 W5 σ5 f5 S5 ⟨m', l, q⟩ => ⟨m', l, W5, Γ5, rfl, f3.trans f5, S5, q⟩⟩
  | false =>
    show D.nx σ' W3.H
    exact c2.nx Γ' W3 σ' (e3.lf S2.ok) (S2.mono e3) (p.2 rfl)

/-! ### defs -/
/-- the promise of a def: of arguments (data) of which pre holds, a result of which post holds -/
def spF (K : PySem.W.Frag) (pre : List PyData → Prop) (post : List PyData → Rs → Prop) : Sp := fun vs H Q _ =>
  ∃ (W : Wd) (ds : List PyData), W.H = H ∧ Ok W ∧ Dfs K W vs ds ∧ pre ds ∧ ∀ v W' r, Le W W' → RsOk K W W' v r → post ds r → Q v W'.H
theorem wpE_call {pre : List PyData → Prop} {post : List PyData → Rs → Prop} {E : XK} {t : TA} {P : PyData → Prop}
    (h : wpA K W0 t Γ fun ds => pre ds ∧ ∀ r, post ds r → P r.data) : wpE K W0 (tCall (spF K pre post) [] E t) Γ P := fun W σ S Q k =>
  h W σ S _ fun vs W1 ds e1 f1 ⟨hp, hq⟩ => by
    refine ⟨W1, ds, rfl, e1.ok, by rw [List.append_nil]; exact f1, hp, fun v W2 r e2 r2 hr => ?_⟩
    cases r with
    | d x => exact k v W2 x (e1.trans e2) r2 (hq _ hr)
    | l xs =>
      obtain ⟨W3, h1, h2, h3⟩ := Nw.freeze e2 r2
      rw [← h1]
      exact k v W3 _ (e1.trans h2) h3 (hq _ hr)
theorem wpN_call {pre : List PyData → Prop} {post : List PyData → Rs → Prop} {E : XK} {t : TA} {P : List PyData → Prop}
    (h : wpA K W0 t Γ fun ds => pre ds ∧ ∀ r, post ds r → ∃ xs, r = .l xs ∧ P xs) : wpN K W0 (tCall (spF K pre post) [] E t) Γ P := fun W σ S Q k =>
  h W σ S _ fun vs W1 ds e1 f1 ⟨hp, hq⟩ => by
    refine ⟨W1, ds, rfl, e1.ok, by rw [List.append_nil]; exact f1, hp, fun v W2 r e2 r2 hr => ?_⟩
    obtain ⟨xs, rfl, p⟩ := hq _ hr
    exact k v W2 xs (e1.trans e2) (Nw.up S.ok e1 r2) p
def startG (N : List Str) (ds : List PyData) : Gm := ds.map Sl.d ++ List.replicate (N.length - ds.length) .no
theorem sat_start {N : List Str} {vs : List V} {ds : List PyData} (ok : Ok W) (f : Dfs K W vs ds) : Sat K W W (L2.start N vs) (startG N ds) := by
  unfold L2.start startG
  have hl := f.length
  refine ⟨.refl ok, fun i s h => ?_, fun i j xs ys a _ h o _ _ _ _ => ?_⟩
  · by_cases hi : i < ds.length
    · rw [List.getElem?_append_left (by simpa using hi), List.getElem?_map] at h
      rw [List.getElem?_append_left (by simpa [hl] using hi), List.getElem?_map]
      rw [List.getElem?_eq_getElem hi] at h
      cases h
      obtain ⟨v, h1, h2⟩ := f.get (List.getElem?_eq_getElem hi)
      exact ⟨some v, by rw [h1]; rfl, h2⟩
    · rw [List.getElem?_append_right (by simpa using Nat.le_of_not_lt hi), List.getElem?_replicate] at h
      rw [List.getElem?_append_right (by simpa [hl] using Nat.le_of_not_lt hi), List.getElem?_replicate]
      rw [List.length_map] at h ⊢
      rw [hl]
      split at h
      · rename_i q
        cases h
        exact ⟨none, by rw [if_pos q], trivial⟩
      · cases h
  · by_cases hi : i < ds.length
    · rw [List.getElem?_append_left (by simpa using hi), List.getElem?_map, List.getElem?_eq_getElem hi] at h
      cases h
      cases o
    · rw [List.getElem?_append_right (by simpa using Nat.le_of_not_lt hi), List.getElem?_replicate] at h
      split at h
      · cases h
        cases o
      · cases h
/-- a def keeps its promise: its body as a term of rules (t), and what that comes to -/
theorem fn_ok {P : Program} {w : World} {mg : Str → Option Value} {base : Heap} {x qual : Str} {st : Stmt} {f : Addr} {fd : FuncData} {N ps : List Str} {k : Nat} {pre : List PyData → Prop} {post : List PyData → Rs → Prop}
    (F : Fun K x qual st f fd) (S : FnScope N ps (defScope st)) (len : ∀ ds, pre ds → ds.length = ps.length)
    (h : ∀ (cdv : Value) (A : Around) (outer : List PySem.Env) (s : Shared) (H : Hp) (E : XK), Room k (A.deeper (PyProof.Rows.envOfC qual (defScope st) s.heap.objs.size f cdv)) →
      ∃ t, PSs (cxOf CX0 P w K mg base N qual (defScope st) f cdv A outer s H E).nox (defBody st) t ∧ ∀ W0 ds, pre ds → go K W0 t (startG N ds) ⟨fun _ => post ds (.d .none), post ds, fun _ => False, fun _ => False⟩) :
    FnOk P w K mg base CX0 (k + 1) f fd ps (spF K pre post) := by
  refine F.ok S (fun vs H Q E hs => ?_) (fun cdv A outer s H vs Q E hr hs => ?_)
  · obtain ⟨W, ds, _, _, f, hp, _⟩ := hs
    rw [f.length, len ds hp]
  · obtain ⟨t, h1, h2⟩ := h cdv A outer s H E hr
    refine ⟨t, h1, ?_⟩
    obtain ⟨W, ds, rfl, ok, f, hp, hq⟩ := hs
    exact h2 W ds hp W _ _ (sat_start ok f) ⟨fun Γ' W' σ' _ S' q => hq .non W' (.d .none) S'.le Df.non q, fun v W' r e r' q => hq v W' r e r' q, fun _ _ _ _ _ z => z.elim, fun _ _ _ _ _ z => z.elim⟩
/-! boxes -/
theorem Df.box_inv {v : V} (h : Df K W v boxD) : ∃ a, v = .ref a ∧ W.B a := by
  unfold boxD at h
  cases h with
  | bx h => exact ⟨_, rfl, h⟩
  | dct _ _ t =>
    obtain ⟨k, e⟩ := t.key
    cases k <;> cases e
/-- a tuple that is known to have no dict of its own, as data; it is the tuple, too -/
def tagP (ds : List PyData) : PyData := .dict [(.none, .tuple ds)]
/-- boxes and such tuples: dicts that are none -/
def isTag : List (PyData × PyData) → Bool
  | (.none, _) :: _ => true
  | _ => false
theorem Df.pt_inv {v : V} {ds : List PyData} (h : Df K W v (tagP ds)) : ∃ a o xs, v = .ref a ∧ W.H a = some (.frz o (.tup xs)) ∧ o.dict = none ∧ Dfs K W xs ds := by
  unfold tagP at h
  cases h with
  | pt h1 h2 h3 => exact ⟨_, _, _, rfl, h1, h2, h3⟩
  | dct _ _ t =>
    obtain ⟨k, e⟩ := t.key
    cases k <;> cases e
theorem Df.pt_tup {v : V} {ds : List PyData} (h : Df K W v (tagP ds)) : Df K W v (.tuple ds) := by
  obtain ⟨a, o, xs, rfl, h1, h2, h3⟩ := h.pt_inv
  exact .tup (.inl (.inr ⟨o, h1⟩)) h3
theorem opR_box {i : Int} {P : PyData → Prop} (h0 : 0 ≤ i) (h1 : i < 3) (p : ∀ x : Int, P (.int x)) : opR K (rIx K) boxD (.int i) P := fun W v u ok f1 f2 Q k => by
  obtain ⟨a, rfl, hb⟩ := f1.box_inv
  cases f2.int_inv
  obtain ⟨x, y, z, e⟩ := ok.bx a hb
  have c : i = 0 ∨ i = 1 ∨ i = 2 := by omega
  rcases c with rfl | rfl | rfl
  · exact .inl ⟨a, _, 0, _, rfl, rfl, .inl (.inl e), rfl, k _ W _ (.refl ok) (.int x) (p x)⟩
  · exact .inl ⟨a, _, 1, _, rfl, rfl, .inl (.inl e), rfl, k _ W _ (.refl ok) (.int y) (p y)⟩
  · exact .inl ⟨a, _, 2, _, rfl, rfl, .inl (.inl e), rfl, k _ W _ (.refl ok) (.int z) (p z)⟩
theorem Ok.mutB (ok : Ok W) {a : Addr} {x y z : Int} (hb : W.B a) : Le W ⟨W.Fz, W.B, upd W.H a (.lst [.int x, .int y, .int z])⟩ := by
  refine ⟨⟨fun b f => ?_, fun b f => ?_, ok.fb⟩, fun _ h => h, fun _ h => h, fun b o e n => ?_, fun _ h n => absurd h n, fun _ h n => absurd h n⟩
  · show upd W.H a _ b ≠ none
    by_cases e : b = a
    · subst e; rw [upd_same]; exact fun z => nomatch z
    · rw [upd_ne e]; exact ok.fz b f
  · show Bx (upd W.H a _) b
    by_cases e : b = a
    · subst e; exact ⟨x, y, z, upd_same⟩
    · obtain ⟨x', y', z', q⟩ := ok.bx b f
      exact ⟨x', y', z', by rw [upd_ne e]; exact q⟩
  · show upd W.H a _ b = some o
    rw [upd_ne (fun z => n (by rw [z]; exact hb))]
    exact e
theorem go_asgBox {i : Nat} {j : Int} (hi : Γ[i]? = some (.d boxD)) (h0 : 0 ≤ j) (h1 : j < 3) (h : wpE K W0 te Γ fun d => ∃ x, d = .int x ∧ A.nx Γ) : go K W0 (tAsg te (gSub (tVar i) (tC (.int j)) rSetL)) Γ A := fun W σ D S c =>
  h W σ S _ fun v W1 d e1 f1 ⟨x', hd, p⟩ => by
    subst hd
    cases f1.int_inv
    have S1 := S.mono e1
    obtain ⟨u, h2, h3⟩ := S1.var hi
    obtain ⟨a, rfl, hb⟩ := h3.box_inv
    obtain ⟨x, y, z, e⟩ := e1.ok.bx a hb
    refine ⟨_, h2, ?_⟩
    have q : j = 0 ∨ j = 1 ∨ j = 2 := by omega
    rcases q with rfl | rfl | rfl
    · have e2 := e1.ok.mutB (x := x') (y := y) (z := z) hb
      exact ⟨a, _, 0, 0, rfl, rfl, e, rfl, c.nx Γ _ σ ((e1.trans e2).lf S.ok) (S1.mono e2) p⟩
    · have e2 := e1.ok.mutB (x := x) (y := x') (z := z) hb
      exact ⟨a, _, 1, 1, rfl, rfl, e, rfl, c.nx Γ _ σ ((e1.trans e2).lf S.ok) (S1.mono e2) p⟩
    · have e2 := e1.ok.mutB (x := x) (y := y) (z := x') hb
      exact ⟨a, _, 2, 2, rfl, rfl, e, rfl, c.nx Γ _ σ ((e1.trans e2).lf S.ok) (S1.mono e2) p⟩
/-- a new list of three ints is handed back as a box -/
theorem go_retBox (h : wpN K W0 te Γ fun ds => ∃ x y z : Int, ds = [.int x, .int y, .int z] ∧ A.rt (.d boxD)) : go K W0 (tRet te) Γ A := fun W σ D S c =>
  h W σ S _ fun v W' ds e n ⟨x, y, z, hd, p⟩ => by
    subst hd
    obtain ⟨a, vs, rfl, h2, h3, h4, h5, h6⟩ := n
    have hv : vs = [.int x, .int y, .int z] := dfs_ints (ns := [x, y, z]) h6
    subst hv
    have ok' : Ok ⟨W'.Fz, fun b => W'.B b ∨ b = a, W'.H⟩ := ⟨e.ok.fz, fun b hb => hb.elim (e.ok.bx b) (fun q => by rw [q]; exact ⟨x, y, z, h5⟩), fun b hb q => q.elim (e.ok.fb b hb) (fun q => h3 (by rw [← q]; exact hb))⟩
    have e2 : Le W ⟨W'.Fz, fun b => W'.B b ∨ b = a, W'.H⟩ := ⟨ok', e.fz, fun b hb => .inl (e.b b hb), e.ex, e.nf, fun b hb n => hb.elim (fun hb => e.nb b hb n) (fun q => by rw [q]; exact h2)⟩
    exact c.rt (.ref a) ⟨W'.Fz, fun b => W'.B b ∨ b = a, W'.H⟩ (.d boxD) (S.le.trans e2) (Df.bx (.inr rfl)) p
theorem hu64 {k : Nat} {B : Around} (hr : Room k B) : B.units + 64 < cLine := Nat.lt_of_le_of_lt (by omega) hr.un
theorem cx_K {CX : CXT} {P : Program} {w : World} {mg : Str → Option Value} {base : Heap} {N : List Str} {q : Str} {sc : Scope} {f : Addr} {cdv : Value} {B : Around} {outer : List PySem.Env} {s : Shared} {H : Hp} {E : XK} :
    (cxOf CX P w K mg base N q sc f cdv B outer s H E).nox.K = K := rfl
theorem cx_K2 {CX : CXT} {P : Program} {w : World} {mg : Str → Option Value} {base : Heap} {N : List Str} {q : Str} {sc : Scope} {f : Addr} {cdv : Value} {B : Around} {outer : List PySem.Env} {s : Shared} {H : Hp} {E : XK} :
    (cxOf CX P w K mg base N q sc f cdv B outer s H E).K = K := rfl

/-! isinstance -/
def tyN : PyData → String
  | .none => "NoneType"
  | .bool _ => "bool"
  | .int _ => "int"
  | .str _ => "str"
  | .list _ => "list"
  | .tuple _ => "tuple"
  | .dict [(.none, .none)] => "list"
  | .dict [(.none, .tuple _)] => "tuple"
  | .dict ((.none, .int _) :: _) => "?"
  | .dict ((.none, .str _) :: _) => "?"
  | .dict ((.none, .bool _) :: _) => "?"
  | .dict _ => "dict"
theorem kitB_q {n : String} {b : Bool} (hn : (Value.type "?" == Value.type n) = false) (h : kitB "?" n = some b) : False := by
  unfold kitB at h
  rw [hn] at h
  have e : PySem.fastBuiltinMro "?" = none := by decide +kernel
  rw [e] at h
  split at h
  · rename_i q
    cases q
  · split at h <;> cases h
theorem Dps.ty {kvs : List (Key × V)} {ds : List (PyData × PyData)} (h : Dps K W kvs ds) : tyN (.dict ds) = "dict" := by
  cases h with
  | nil => rfl
  | @cons k _ _ _ _ _ _ => cases k <;> rfl
theorem Df.ty (ok : Ok W) {v : V} {d : PyData} (h : Df K W v d) (hq : tyN d ≠ "?") : TyX K W.H v (.type (tyN d)) := by
  cases h with
  | non => exact .base .non
  | bl b => exact .base (.bl b)
  | int i => exact .base (.int i)
  | str x => exact .base (.str x)
  | bx h =>
    obtain ⟨_, _, _, e⟩ := ok.bx _ h
    exact .base (.lst e)
  | @lst a xs ds q _ =>
    have q' : SqL K W.H a xs := q.elim (fun q => .inl q.1) fun q => q _
    rcases q' with (q | ⟨o, q⟩) | ⟨o, its, n, h1, h2, _⟩
    · exact .base (.lst q)
    · exact .base (.frz q)
    · exact .kList h1 h2
  | @tup a xs ds q _ =>
    rcases q with (q | ⟨o, q⟩) | ⟨o, its, n, h1, h2, _⟩
    · exact .base (.tup q)
    · exact .fTuple q
    · exact .kTuple h1 h2
  | @dct a kvs ds q _ t =>
    rw [t.ty]
    rcases q with q | ⟨o, q⟩
    · exact .base (.dK q)
    · exact .fDict q
  | @pt a o xs ds q _ _ => exact .fTuple q
  | ob _ _ _ => exact absurd rfl hq
  | dt _ _ _ => exact absurd rfl hq
  | rf => exact absurd rfl hq
theorem ty_of {d : PyData} {n : String} {b : Bool} (hn : (Value.type "?" == Value.type n) = false) (h : kitB (tyN d) n = some b) : tyN d ≠ "?" := fun e => kitB_q hn (by rw [← e]; exact h)
theorem wpE_isi {n : String} {P : PyData → Prop} (h : wpE K W0 te Γ fun d => ∃ b, kitB (tyN d) n = some b ∧ P (.bool b)) (hn : (Value.type "?" == Value.type n) = false := by decide +kernel) : wpE K W0 (tCB (rIsi K) (tCons te (tCons (tC (.ty n)) tNil))) Γ P := fun W σ S Q k =>
  h W σ S _ fun v W1 d e1 f1 ⟨b, hb, p⟩ => ⟨v, .ty n, .type (tyN d), .type n, b, rfl, .ty n, f1.ty e1.ok (ty_of hn hb), kit_ty hb, k _ W1 _ e1 (.bl b) p⟩
theorem Lv.ty {v : V} {ds : List PyData} (h : Lv K W v ds) : TyX K W.H v (.type "list") := by
  obtain ⟨a, vs, rfl, q, _⟩ := h.sq
  rcases q with (q | ⟨o, q⟩) | ⟨o, its, n, h1, h2, _⟩
  · exact .base (.lst q)
  · exact .base (.frz q)
  · exact .kList h1 h2
theorem wpE_isiL {n : String} {P : PyData → Prop} (h : wpL K W0 te Γ fun _ => ∃ b, kitB "list" n = some b ∧ P (.bool b)) : wpE K W0 (tCB (rIsi K) (tCons te (tCons (tC (.ty n)) tNil))) Γ P := fun W σ S Q k =>
  h W σ S _ fun v W1 d e1 f1 ⟨b, hb, p⟩ => ⟨v, .ty n, .type "list", .type n, b, rfl, .ty n, f1.ty, kit_ty hb, k _ W1 _ e1 (.bl b) p⟩
def kit2 (t a b : String) : Option Bool := match kitB t a, kitB t b with
  | some true, _ => some true
  | some false, some r => some r
  | _, _ => none
theorem kit2_any {t a b : String} {r : Bool} (h : kit2 t a b = some r) : PySem.W.kitAny K (.type t) [.type a, .type b] = some r := by
  unfold kit2 at h
  cases e1 : kitB t a with
  | none => rw [e1] at h; cases h
  | some x =>
    rw [e1] at h
    cases x with
    | true =>
      cases h
      exact kitAny_cons (kit_ty e1) (fun z => nomatch z) (fun _ => rfl)
    | false =>
      cases e2 : kitB t b with
      | none => rw [e2] at h; cases h
      | some y =>
        rw [e2] at h
        cases h
        refine kitAny_cons (kit_ty e1) (fun _ => kitAny_cons (kit_ty e2) (fun z => ?_) (fun z => z)) (fun z => nomatch z)
        rw [z]
        rfl
theorem ty_of2 {d : PyData} {a b : String} {r : Bool} (hn : (Value.type "?" == Value.type a) = false) (h : kit2 (tyN d) a b = some r) : tyN d ≠ "?" := by
  unfold kit2 at h
  cases e : kitB (tyN d) a with
  | none => rw [e] at h; cases h
  | some x => exact ty_of hn e
theorem wpE_isi2 {a b : String} {P : PyData → Prop} (h : wpE K W0 te Γ fun d => ∃ r, kit2 (tyN d) a b = some r ∧ P (.bool r)) (hn : (Value.type "?" == Value.type a) = false := by decide +kernel) : wpE K W0 (tCB (rIsiT K) (tCons te (tCons (tTup (tCons (tC (.ty a)) (tCons (tC (.ty b)) tNil))) tNil))) Γ P := fun W σ S Q k =>
  h W σ S _ fun v W1 d e1 f1 ⟨r, hr, p⟩ => by
    refine ⟨by show 2 ≤ sizeLine; decide, fun q hq => ?_⟩
    have e2 := e1.ok.new (u := .tup [.ty a, .ty b]) hq
    exact ⟨v, q, [.ty a, .ty b], .type (tyN d), [.type a, .type b], r, rfl, upd_same, .cons (.ty a) (.cons (.ty b) .nil), (Df.mono (e2.lf e1.ok) _ _ f1).ty e2.ok (ty_of2 hn hr), kit2_any hr, k _ _ _ (e1.trans e2) (.bl r) p⟩

/-! comprehensions whose items are told by a function -/
theorem wpT_yes {P : Bool → Prop} (p : P true) : wpT K W0 tYes Γ P := fun W σ S Q k => k W true (.refl S.ok) p
theorem take_succ {α : Type} {l : List α} {i : Nat} {d : α} (h : l[i]? = some d) : l.take (i + 1) = l.take i ++ [d] := by
  rw [List.take_add_one, h]
  rfl
theorem wpIc.imp {wi : TI} {P Q : List PyData → Prop} (h : wpIc K W0 wi Γ P) (i : ∀ d, P d → Q d) : wpIc K W0 wi Γ Q := fun W σ S R k => h W σ S R fun W' J d e f p => k W' J d e f (i d p)
theorem wpI.imp {wi : TI} {P Q : List PyData → Prop} (h : wpI K W0 wi Γ P) (i : ∀ d, P d → Q d) : wpI K W0 wi Γ Q := fun W σ S R k => h W σ S R fun W' J d e f p => k W' J d e f (i d p)
theorem wpG.imp {vs : List Nat} {g : TG} {d : PyData} {P Q : Gm → Prop} (h : wpG K W0 vs g d Γ P) (i : ∀ d, P d → Q d) : wpG K W0 vs g d Γ Q := fun W σ S v f R k => h W σ S v f R fun σ' Γ' W' e s w p => k σ' Γ' W' e s w (i Γ' p)
theorem wpN_map {wi : TI} {g : TG} {vs : List Nat} {P : List PyData → Prop} (f : PyData → PyData)
    (h : wpIc K W0 wi Γ fun ds => ds.length < 10000000 ∧ (∀ d, d ∈ ds → wpG K W0 vs g d (wipeG Γ vs) fun Γ' => wpE K W0 te Γ' fun y => y = f d) ∧ P (ds.map f)) : wpN K W0 (tLc wi g tYes te vs) Γ P := by
  refine wpN_lc (h.imp fun ds ⟨hz, hs, p⟩ => ⟨hz, fun i acc => acc = (ds.take i).map f, rfl, fun i d acc hd hI _ => ?_, fun acc hI _ => ?_⟩)
  · refine (hs d (List.mem_of_getElem? hd)).imp fun Γ' q => wpT_yes ⟨fun _ => q.imp fun y hy => ?_, fun z => nomatch z⟩
    show acc ++ [y] = (ds.take (i + 1)).map f
    rw [hI, hy, take_succ hd, List.map_append]
    rfl
  · rw [hI, List.take_length]
    exact p
theorem wpN_filter {wi : TI} {g : TG} {vs : List Nat} {tt : TT} {P : List PyData → Prop} (c : PyData → Bool) (f : PyData → PyData)
    (h : wpIc K W0 wi Γ fun ds => ds.length < 10000000 ∧ (∀ d, d ∈ ds → wpG K W0 vs g d (wipeG Γ vs) fun Γ' => wpT K W0 tt Γ' fun b => b = c d ∧ (b = true → wpE K W0 te Γ' fun y => y = f d)) ∧ P ((ds.filter c).map f)) : wpN K W0 (tLc wi g tt te vs) Γ P := by
  refine wpN_lc (h.imp fun ds ⟨hz, hs, p⟩ => ⟨hz, fun i acc => acc = ((ds.take i).filter c).map f, rfl, fun i d acc hd hI _ => ?_, fun acc hI _ => ?_⟩)
  · refine (hs d (List.mem_of_getElem? hd)).imp fun Γ' q => wpT_imp q fun b ⟨hb, h1⟩ => ⟨fun e => (h1 e).imp fun y hy => ?_, fun e => ?_⟩
    · show acc ++ [y] = ((ds.take (i + 1)).filter c).map f
      rw [hI, hy, take_succ hd, List.filter_append, List.filter_cons, ← hb, e, if_pos rfl, List.map_append]
      rfl
    · show acc = ((ds.take (i + 1)).filter c).map f
      rw [hI, take_succ hd, List.filter_append, List.filter_cons, ← hb, e, if_neg Bool.false_ne_true]
      simp
  · rw [hI, List.take_length]
    exact p
/-- items told by a relation -/
theorem wpN_rel {wi : TI} {g : TG} {vs : List Nat} {P : List PyData → Prop} (R : PyData → Prop)
    (h : wpIc K W0 wi Γ fun ds => ds.length < 10000000 ∧ (∀ d, d ∈ ds → wpG K W0 vs g d (wipeG Γ vs) fun Γ' => wpE K W0 te Γ' R) ∧ ∀ ys, ys.length = ds.length → (∀ y, y ∈ ys → R y) → P ys) : wpN K W0 (tLc wi g tYes te vs) Γ P := by
  refine wpN_lc (h.imp fun ds ⟨hz, hs, p⟩ => ⟨hz, fun i acc => acc.length = (ds.take i).length ∧ ∀ y, y ∈ acc → R y, ⟨rfl, fun _ h => nomatch h⟩, fun i d acc hd hI _ => ?_, fun acc hI _ => ?_⟩)
  · refine (hs d (List.mem_of_getElem? hd)).imp fun Γ' q => wpT_yes ⟨fun _ => q.imp fun y hy => ⟨?_, fun z hz => ?_⟩, fun z => nomatch z⟩
    · rw [List.length_append, hI.1, take_succ hd, List.length_append]
      rfl
    · rcases List.mem_append.mp hz with q | q
      · exact hI.2 z q
      · rw [List.mem_singleton.mp q]
        exact hy
  · have h1 : acc.length = (ds.take ds.length).length := hI.1
    rw [List.take_length] at h1
    exact p acc h1 hI.2
/-- a text's signs -/
theorem mem_signs {x : Str} {d : PyData} (h : d ∈ signsD x) : ∃ c, c ∈ x.cps.toList ∧ d = .str ⟨#[c]⟩ := by
  unfold signsD at h
  obtain ⟨c, h1, h2⟩ := List.mem_map.mp h
  exact ⟨c, h1, h2.symm⟩
theorem mem_rngD {lo : Int} {n : Nat} {d : PyData} (h : d ∈ rngD lo n) : ∃ i : Nat, i < n ∧ d = .int (lo + i) := by
  unfold rngD at h
  obtain ⟨i, h1, h2⟩ := List.mem_map.mp h
  exact ⟨i, List.mem_range.mp h1, h2.symm⟩
theorem atI_ok {α : Type} {xs : List α} {i : Int} (h0 : 0 ≤ i) (h1 : i < xs.length) : ∃ x, atI xs i = some x ∧ x ∈ xs := by
  obtain ⟨n, rfl⟩ := Int.eq_ofNat_of_zero_le h0
  have hn : n < xs.length := by omega
  exact ⟨xs[n], atI_nat (List.getElem?_eq_getElem hn), List.getElem_mem hn⟩
theorem atI_end {α : Type} {xs : List α} (h : xs ≠ []) : ∃ x, atI xs (-1) = some x ∧ x ∈ xs := by
  have e := List.dropLast_concat_getLast h
  refine ⟨xs.getLast h, ?_, List.getLast_mem h⟩
  have q := atI_last xs.dropLast (xs.getLast h)
  rw [e] at q
  exact q
/-- an item of a list at a place that is there, which isn't told -/
theorem opR_ixLany {ds : List PyData} {i : Int} {P : PyData → Prop} (h0 : 0 ≤ i) (h1 : i < ds.length) (p : ∀ d, d ∈ ds → P d) : opR K (rIx K) (.list ds) (.int i) P := by
  obtain ⟨d, h2, h3⟩ := atI_ok h0 h1
  exact opR_ixL h2 (p d h3)
theorem opLR_ixany {ds : List PyData} {i : Int} {P : PyData → Prop} (h0 : 0 ≤ i) (h1 : i < ds.length) (p : ∀ d, d ∈ ds → P d) : opLR K (rIx K) ds (.int i) P := by
  obtain ⟨d, h2, h3⟩ := atI_ok h0 h1
  exact opLR_ix h2 (p d h3)
theorem opR_ixTany {ds : List PyData} {i : Int} {P : PyData → Prop} (h0 : 0 ≤ i) (h1 : i < ds.length) (p : ∀ d, d ∈ ds → P d) : opR K (rIx K) (.tuple ds) (.int i) P := by
  obtain ⟨d, h2, h3⟩ := atI_ok h0 h1
  exact opR_ixT h2 (p d h3)
theorem opR_ixSany {z : Str} {i : Int} {P : PyData → Prop} (hz : z.length ≤ sizeLine) (h0 : 0 ≤ i) (h1 : i < z.length) (p : ∀ c, c ∈ z.cps.toList → P (.str ⟨#[c]⟩)) : opR K (rIx K) (.str z) (.int i) P := by
  obtain ⟨d, h2, h3⟩ := atI_ok (xs := z.cps.toList) h0 (by simpa [Str.length] using h1)
  exact opR_ixS hz h2 (p d h3)
theorem mem_ints {ns : List Int} {d : PyData} (h : d ∈ ns.map PyData.int) : ∃ n, d = .int n := by
  obtain ⟨n, _, h⟩ := List.mem_map.mp h
  exact ⟨n, h.symm⟩
theorem opR_ixInts {ns : List Int} {i : Int} {P : PyData → Prop} (h0 : 0 ≤ i) (h1 : i < ns.length) (p : ∀ n : Int, P (.int n)) : opR K (rIx K) (.list (ns.map PyData.int)) (.int i) P :=
  opR_ixLany h0 (by rw [List.length_map]; exact h1) fun d hd => by
    obtain ⟨n, rfl⟩ := mem_ints hd
    exact p n
theorem opR_ix01 {a c : Int} {b : Bool} {P : PyData → Prop} (p : ∀ m : Int, P (.int m)) : opR K (rIx K) (.list [.int a, .int c]) (.int (if b = true then 1 else 0)) P := by
  cases b with
  | true => exact opR_ixL (d := .int c) rfl (p c)
  | false => exact opR_ixL (d := .int a) rfl (p a)
/-- an item of a display of texts -/
def txD (n : Nat) : PyData → Bool
  | .str x => txB n x
  | _ => false
theorem opR_ixSt {ds : List PyData} {i : Int} {P : PyData → Prop} (n : Nat) (h : ds.all (txD n) = true) (h0 : 0 ≤ i) (h1 : i < ds.length) (p : ∀ x : Str, Tx n x → P (.str x)) : opR K (rIx K) (.list ds) (.int i) P :=
  opR_ixLany h0 h1 fun d hd => by
    have q := List.all_eq_true.mp h d hd
    cases d with
    | str x => exact p x (.of q)
    | _ => cases q
theorem opR_ixSt' {ds : List PyData} {i : Int} {P : PyData → Prop} (n : Nat) (h : ∀ d ∈ ds, ∃ x, d = .str x ∧ Tx n x) (h0 : 0 ≤ i) (h1 : i < ds.length) (p : ∀ x : Str, Tx n x → P (.str x)) : opR K (rIx K) (.list ds) (.int i) P :=
  opR_ixLany h0 h1 fun d hd => by
    obtain ⟨x, rfl, hx⟩ := h d hd
    exact p x hx
/-- a sign of a text -/
theorem opR_ixSx {z : Str} {i : Int} {P : PyData → Prop} (n : Nat) (hz : Tx n z) (hn : n ≤ 1000000) (h0 : 0 ≤ i) (h1 : i < z.length) (p : ∀ c, c ∈ z.cps.toList → c < 1114112 → P (.str ⟨#[c]⟩)) : opR K (rIx K) (.str z) (.int i) P :=
  opR_ixSany (by have := hz.1; have hs : sizeLine = 16777216 := sizeLine_eq; omega) h0 h1 fun c hc => p c hc (hz.2 c hc)
theorem add_tx {n m : Nat} {i j : Str} {P : PyData → Prop} (hi : Tx n i) (hj : Tx m j) (hn : n + m ≤ 1000000) (p : ∀ u, Tx (n + m) u → P (.str u)) : opR K (rADD K) (.str i) (.str j) P :=
  add_str (by have := hi.1; have := hj.1; have hs : sizeLine = 16777216 := sizeLine_eq; omega) (p _ (hi.app hj))
theorem mul_tx {n : Nat} {z : Str} {k : Int} {P : PyData → Prop} (hz : Tx n z) (hn : n ≤ 1000) (h1 : 0 ≤ k) (h2 : k ≤ 1000) (p : ∀ u, Tx (n * k.toNat) u → P (.str u)) : opR K rMUL (.str z) (.int k) P :=
  mul_str h1 h2 (Nat.le_trans hz.1 hn) fun u hu hc => p u ⟨by rw [hu]; exact Nat.mul_le_mul_right _ hz.1, fun c h => hz.2 c (hc c h)⟩
/-- texts of one sign each, joined -/
theorem strs1_of : ∀ {ys : List PyData}, (∀ y, y ∈ ys → ∃ c, y = .str ⟨#[c]⟩ ∧ c < 1114112) → ∃ cs : List Nat, ys = (cs.map fun c => (⟨#[c]⟩ : Str)).map PyData.str ∧ ∀ c ∈ cs, c < 1114112
  | [], _ => ⟨[], rfl, fun _ h => nomatch h⟩
  | y :: ys, h => by
    obtain ⟨c, rfl, hc⟩ := h y List.mem_cons_self
    obtain ⟨cs, rfl, hcs⟩ := strs1_of fun z hz => h z (List.mem_cons_of_mem _ hz)
    exact ⟨c :: cs, rfl, fun d hd => (List.mem_cons.mp hd).elim (fun e => by rw [e]; exact hc) (hcs d)⟩
theorem sum_ones : ∀ cs : List Nat, ((cs.map fun c => (⟨#[c]⟩ : Str)).map (·.length)).sum = cs.length
  | [] => rfl
  | c :: cs => by
    rw [List.map_cons, List.map_cons, List.sum_cons, sum_ones cs, List.length_cons]
    show 1 + cs.length = cs.length + 1
    omega
theorem join_ones_cps : ∀ (cs : List Nat) (a : Array Nat), (cs.map fun c => (⟨#[c]⟩ : Str)).foldl (fun acc p => acc ++ (Str.ofString "").cps ++ p.cps) a = a ++ cs.toArray
  | [], a => by simp
  | c :: cs, a => by
    rw [List.map_cons, List.foldl_cons, join_ones_cps cs]
    show a ++ #[] ++ #[c] ++ cs.toArray = a ++ (c :: cs).toArray
    apply Array.ext'
    simp
theorem join_ones (cs : List Nat) : Txt.join (Str.ofString "") (cs.map fun c => (⟨#[c]⟩ : Str)) = ⟨cs.toArray⟩ := by
  show Builtin.Str.glued _ _ = _
  unfold Builtin.Str.glued
  cases cs with
  | nil => rfl
  | cons c cs =>
    have h := join_ones_cps cs #[c]
    show (⟨(cs.map fun c => (⟨#[c]⟩ : Str)).foldl (fun acc p => acc ++ (Str.ofString "").cps ++ p.cps) #[c]⟩ : Str) = _
    rw [h]
    congr 1
    apply Array.ext'
    simp
/-- ''.join of texts of one sign each -/
theorem wpE_join1 {P : PyData → Prop} (n : Nat) (hn : n ≤ 1000000) (h : wpL K W0 te Γ fun ds => ds.length ≤ n ∧ (∀ y, y ∈ ds → ∃ c, y = .str ⟨#[c]⟩ ∧ c < 1114112) ∧ ∀ u, Tx n u → P (.str u)) : wpE K W0 (tM1 (rJoin K) (tC (.str (Str.ofString ""))) te) Γ P := by
  refine wpE_join (wpE_str ⟨_, rfl, ?_⟩)
  intro W σ S Q k
  refine h W σ S Q fun v W' ds e l ⟨h1, h2, h3⟩ => ?_
  obtain ⟨cs, rfl, hc⟩ := strs1_of h2
  rw [List.length_map, List.length_map] at h1
  refine k v W' _ e l ⟨_, rfl, ?_, ?_⟩
  · rw [sum_ones, List.length_map, show (Str.ofString "").length = 0 from rfl]
    omega
  · rw [join_ones]
    exact h3 _ ⟨by show cs.toArray.size ≤ n; rw [List.size_toArray]; exact h1, fun c h => hc c (by simpa using h)⟩
theorem depthAll_le : ∀ (ds : List PyData) (n : Nat), (∀ d ∈ ds, d.depth ≤ n) → PyData.depthAll ds ≤ n
  | [], n, _ => Nat.zero_le _
  | d :: ds, n, h => by
    unfold PyData.depthAll
    exact Nat.max_le.mpr ⟨h d List.mem_cons_self, depthAll_le ds n fun e he => h e (List.mem_cons_of_mem _ he)⟩
theorem canLayAll_of : ∀ (ds : List PyData), (∀ d ∈ ds, d.canLay0 = true) → PyData.canLayAll0 ds = true
  | [], _ => by unfold PyData.canLayAll0; rfl
  | d :: ds, h => by
    unfold PyData.canLayAll0
    rw [h d List.mem_cons_self, canLayAll_of ds fun e he => h e (List.mem_cons_of_mem _ he)]
    rfl
theorem shaped_list {ds : List PyData} (n : Nat) (hn : n < 64) (h : ∀ d ∈ ds, d.canLay0 = true ∧ d.depth ≤ n) : SeqAt.shaped (.list ds) = true := by
  unfold SeqAt.shaped PyData.canLay0 PyData.depth
  rw [canLayAll_of ds fun d hd => (h d hd).1, Bool.true_and]
  have := depthAll_le ds n fun d hd => (h d hd).2
  exact decide_eq_true (by omega)
theorem shaped_tuple {ds : List PyData} (n : Nat) (hn : n < 64) (h : ∀ d ∈ ds, d.canLay0 = true ∧ d.depth ≤ n) : SeqAt.shaped (.tuple ds) = true := by
  unfold SeqAt.shaped PyData.canLay0 PyData.depth
  rw [canLayAll_of ds fun d hd => (h d hd).1, Bool.true_and]
  have := depthAll_le ds n fun d hd => (h d hd).2
  exact decide_eq_true (by omega)
/-- .. of whole numbers -/
def isIntD : PyData → Bool
  | .int _ => true
  | _ => false
theorem opR_ixIt {ds : List PyData} {i : Int} {P : PyData → Prop} (h : ds.all isIntD = true) (h0 : 0 ≤ i) (h1 : i < ds.length) (p : ∀ x : Int, .int x ∈ ds → P (.int x)) : opR K (rIx K) (.list ds) (.int i) P :=
  opR_ixLany h0 h1 fun d hd => by
    have q := List.all_eq_true.mp h d hd
    cases d with
    | int x => exact p x hd
    | _ => cases q
/-- xs.extend(ys), ys a new list -/
theorem go_extend {i : Nat} {xs : List PyData} (hi : Γ[i]? = some (.l xs)) (h : wpN K W0 te Γ fun ds => xs.length + ds.length < 10000000 ∧ A.nx (Γ.set i (.l (xs ++ ds)))) : go K W0 (tDrop (tBM K "list" rExtend (tVar i) (tCons te tNil))) Γ A := fun W σ D S c => by
  have hsz : sizeLine = 16777216 := sizeLine_eq
  obtain ⟨a, vs, h1, h2, h3, h4, h5, h6⟩ := S.varL hi
  refine ⟨_, h1, .inl ⟨rfl, vs, .inl (.inl h5)⟩, h W σ S _ fun v W1 d e n ⟨hz, p⟩ => ?_⟩
  have S1 := S.mono e
  obtain ⟨a', vs', g1, g2, g3, g4, g5, g6⟩ := S1.varL hi
  rw [h1] at g1
  cases g1
  obtain ⟨b, us, rfl, b2, b3, b4, b5, b6⟩ := n
  refine ⟨a, b, vs', us, rfl, rfl, g5, b5, by rw [g6.length, b6.length]; omega, ?_⟩
  have lf := e.ok.mutLf (o' := .lst (vs' ++ us)) g5 trivial g3 g4
  refine c.nx _ ⟨W1.Fz, W1.B, upd W1.H a (.lst (vs' ++ us))⟩ σ ((e.lf S.ok).trans lf) (S1.mutL hi h1 g2 g3 g4 g5 lf ((Dfs.mono lf _ _ g6).append (Dfs.mono lf _ _ b6))) p
/-- an own list is tested by its truth; popped -/
theorem wpT_truL {i : Nat} {xs : List PyData} {P : Bool → Prop} (hi : Γ[i]? = some (.l xs)) (p : P (!xs.isEmpty)) : wpT K W0 (fun σ H Q => (tVar i) σ H fun x H' => ∃ k, TruV K x H' k ∧ Q k H') Γ P := fun W σ S Q k => by
  obtain ⟨a, vs, h1, h2, h3, h4, h5, h6⟩ := S.varL hi
  refine ⟨_, h1, !xs.isEmpty, .inl ⟨vs, .inl (.inl h5), ?_⟩, k W _ (.refl S.ok) p⟩
  cases h6 <;> rfl
end

/-! ### the rules with K by its name (so that they stand in a comprehension's block, too) -/
section
variable {X : Cx} {K : PySem.W.Frag} {e o : Expr} {es : List Expr} {te to : TE} {t : TA} {tg : Expr} {pos apos cpos p : Pos}
theorem ix_K (h : X.K = K) : IxR X (rIx K) := by
  subst h
  exact ix_seq
theorem add_K (h : X.K = K) : OpR X (binaryOp .Add) (rADD K) := by
  subst h
  exact op_ADD
theorem sl_K (h : X.K = K) : SlR X (rSL K) := by
  subst h
  exact sl_SL
theorem in_K (h : X.K = K) : OpR X (compareOp .In) (rIN K) := by
  subst h
  exact op_IN
theorem nin_K (h : X.K = K) : OpR X (compareOp .NotIn) (rNIN K) := by
  subst h
  exact op_NIN
theorem eq_K (h : X.K = K) (hu : X.A.units + 64 < cLine) : OpR X (compareOp .Eq) (rEqD K) := by
  subst h
  exact op_eqD hu
theorem ne_K (h : X.K = K) (hu : X.A.units + 64 < cLine) : OpR X (compareOp .NotEq) (rNeD K) := by
  subst h
  exact op_neD hu
theorem len_K (h : X.K = K) : CallR X (.builtin "len") (rLen K) := by
  subst h
  exact call_len
theorem all_K (h : X.K = K) (hc : X.calm = true) : CallR X (.builtin "all") (rAll K) := by
  subst h
  exact cr_all hc
theorem any_K (h : X.K = K) (hc : X.calm = true) : CallR X (.builtin "any") (rAny K) := by
  subst h
  exact cr_any hc
theorem isi_K (h : X.K = K) : CallR X (.builtin "isinstance") (rIsi K) := by
  subst h
  exact call_isi
theorem isiT_K (h : X.K = K) : CallR X (.builtin "isinstance") (rIsiT K) := by
  subst h
  exact call_isiT
abbrev rLof (K : PySem.W.Frag) : List V → Hp → VK → Prop := fun xs H Q => ∃ p ys, xs = [.ref p] ∧ (SqL K H p ys ∨ SqT K H p ys) ∧ ∀ l, H l = none → Q (.ref l) (upd H l (.lst ys))
theorem lof_K (h : X.K = K) : CallR X (.type "list") (rLof K) := by
  subst h
  exact call_list_of
abbrev rTof (K : PySem.W.Frag) : List V → Hp → VK → Prop := fun xs H Q => ∃ p ys, xs = [.ref p] ∧ ((SqL K H p ys ∧ ∀ l, H l = none → Q (.ref l) (upd H l (.tup ys))) ∨ (SqT K H p ys ∧ Q (.ref p) H))
theorem tof_K (h : X.K = K) : CallR X (.type "tuple") (rTof K) := by
  subst h
  exact call_tuple_of
theorem il_K (h : X.K = K) (hl : PE X e te) : PI X tg e (iList K te) := by
  subst h
  exact pi_list hl
theorem it_K (h : X.K = K) (hl : PE X e te) : PI X tg e (iTup K te) := by
  subst h
  exact pi_tup hl
theorem gt_K {es : List Expr} {k : Nat} {t : TGs} {n : Nat} (hK : X.K = K) (hc : X.calm = true) (h : PGs X es t)
    (hn : (assignEach es X.env).length = n := by rfl) (hst : (assignEach es X.env).findIdx? (·.1) = none := by rfl) : PG X (.Tuple es k pos) (gTup K n t) := by
  subst hK
  exact pg_tup hc h hn hst
theorem jn_K (h : X.K = K) (ho : PE X o to) (he : PE X e te) (hs : starEach [e] X.env = [(false, eval e X.env)] := by rfl) (hbase : attributeBase o "join" X.env (eval o X.env) = eval o X.env := by rfl) (hline : (apos.endLine == pos.line) = true := by rfl) :
    PE X (.Call (.Attribute o "join" apos) [e] [] pos) (tM1 (rJoin K) to te) := by
  subst h
  exact pe_join ho he hs hbase hline
theorem ap_K (h : X.K = K) (ho : PE X o to) (he : PE X e te)
    (hbase : attributeBase o "append" X.env (eval o X.env) = eval o X.env := by rfl) (hline : (apos.endLine == cpos.line) = true := by rfl) (hs : starEach [e] X.env = (false, eval e X.env) :: starEach [] X.env := by rfl) (hfew : ((backTo cpos (starEach [e] X.env)).all (fun x => !x.1) && (backToKw cpos (keywordEach [] X.env)).all (fun x => x.1.isSome)
      && decide ([e].length + ([] : List Keyword).length + (if ([] : List Keyword).isEmpty then 0 else 1) < 30)) = true := by rfl) (hplain : (backTo cpos (starEach [] X.env)).any (·.1) = false := by rfl) : PE X (.Call (.Attribute o "append" apos) [e] [] cpos) (tBM K "list" rAppend to (tCons te tNil)) := by
  subst h
  exact pe_bm PySem.F.plainAttrs_list PySem.F.slot_list_append PySem.F.type_list_append mt_append ho (pa_cons he pa_nil hs) hbase hfew hline hs hplain
theorem ex_K (h : X.K = K) (ho : PE X o to) (he : PE X e te)
    (hbase : attributeBase o "extend" X.env (eval o X.env) = eval o X.env := by rfl) (hline : (apos.endLine == cpos.line) = true := by rfl) (hs : starEach [e] X.env = (false, eval e X.env) :: starEach [] X.env := by rfl) (hfew : ((backTo cpos (starEach [e] X.env)).all (fun x => !x.1) && (backToKw cpos (keywordEach [] X.env)).all (fun x => x.1.isSome)
      && decide ([e].length + ([] : List Keyword).length + (if ([] : List Keyword).isEmpty then 0 else 1) < 30)) = true := by rfl) (hplain : (backTo cpos (starEach [] X.env)).any (·.1) = false := by rfl) : PE X (.Call (.Attribute o "extend" apos) [e] [] cpos) (tBM K "list" rExtend to (tCons te tNil)) := by
  subst h
  exact pe_bm PySem.F.plainAttrs_list PySem.F.slot_list_extend PySem.F.type_list_extend mt_extend ho (pa_cons he pa_nil hs) hbase hfew hline hs hplain
theorem pop_K (h : X.K = K) (ho : PE X o to)
    (hbase : attributeBase o "pop" X.env (eval o X.env) = eval o X.env := by rfl) (hline : (apos.endLine == cpos.line) = true := by rfl) : PE X (.Call (.Attribute o "pop" apos) [] [] cpos) (tBM0 K "list" rPop to) := by
  subst h
  exact pe_bm0 PySem.F.plainAttrs_list PySem.F.slot_list_pop PySem.F.type_list_pop mt_pop ho hbase hline
theorem st_K (h : X.K = K) (he : PE X e te) (hr : PA X es t) (hs : starEach (.Starred e p :: es) X.env = (true, eval e X.env) :: starEach es X.env := by rfl) : PA X (.Starred e p :: es) (StX.tStar K te t) := by
  subst h
  exact StX.pa_star he hr hs
end

/-! ### the law's own promise, at the heap behind the top -/
def preLaw (ds : List PyData) : Prop := ∃ ns : List Int, ds = [.list (ns.map PyData.int)] ∧ ns.length ≤ 63
def postLaw (_ : List PyData) (r : Rs) : Prop := r = .d (.bool true)
def spLaw (K : PySem.W.Frag) : Sp := spF K preLaw postLaw
theorem law_start {K : PySem.W.Frag} {H : Hp} {a : Addr} {ns : List Int} {E : XK} (hl : ns.length ≤ 63) (hS : SqL K H a (ns.map V.int)) : spLaw K [.ref a] H (fun v _ => v = .bl true) E := by
  refine ⟨⟨fun b => H b ≠ none, fun _ => False, H⟩, [.list (ns.map PyData.int)], rfl, ⟨fun _ h => h, fun _ h => h.elim, fun _ _ h => h⟩, .cons (.lst ?_ ints_dfs) .nil, ⟨ns, rfl, hl⟩, fun v W' r _ hr e => ?_⟩
  · rcases hS with h | h
    · refine .inl ⟨h, ?_⟩
      rcases h with h | ⟨o, h⟩ <;> · show H a ≠ none; rw [h]; exact fun z => nomatch z
    · exact .inr fun _ => .inr h
  · cases e
    exact hr.bool_inv
end G

set_option Elab.async false
set_option linter.all false
set_option autoImplicit false
set_option maxRecDepth 100000
/-! G2: more rules for the layer G: tuples backwards, lists grown by tuples, pops, enumerate, zip, two fors, tuples put together. -/
namespace G
open PySem PySem.Spec PyProof.Rows L2
set_option maxRecDepth 8000 in
/-- a list grown by a tuple, of whatever object that is -/
theorem ext_tup (dst : Addr) (had : Array Value) (n : Nat) (src : Addr) (more : Array Value) (m : Nat) (d : Option Addr) (sl : Array (Option Value))
    (h0 : ¬ (!had.isEmpty && Builtin.List.listTooLong (had.size + more.size)) = true) (h1 : had.size ≤ sizeLine) (h2 : had.size + more.size ≤ sizeLine + 1) :
    Meets (Builtin.«list.extend» ⟨[.ref dst, .ref src], []⟩) (fun _ R s => s.heap.get? dst = some { cls := .type "list", dict := none, data := .seq had n, slots := #[] } ∧
      s.heap.get? src = some { cls := .type "tuple", dict := d, data := .seq more m, slots := sl } ∧ R (.ok (.ret Value.none)) { s with heap := s.heap.update dst (Obj.mapSeq fun x => x ++ more), toks := s.toks }) :=
  .of_wp fun prog w B R st given => by
    obtain ⟨_, _, _, _, _⟩ := st
    obtain ⟨gd, gs, fin⟩ := given
    have z1 := AutoSeq1.idx_int; have z2 := AutoSeq1.sub_tuple_tuple; have z3 := AutoSeq1.sub_list_list
    have z4 := AutoSeq1.sub_tuple_list; have z5 := AutoSeq1.sub_list_tuple
    have fits : (had ++ more).size ≤ sizeLine + 1 := by rw [Array.size_append]; exact h2
    wp_walk using (wpAny_updateSeq gd rfl (hz := h1) (_hz' := fits)), AutoSeq1.wpAny_loadPart' gd, AutoSeq1.wpAny_loadPart' gs
    exact ⟨_, rfl, fin⟩

section
variable {prog : Program} {w : World} {B : Around} {E : Value → Shared → Prop} {st : Shared}
/-- the slice [::-1] upon n things: from n - 1 down, n of them -/
theorem sliceBack {at_ : Addr} {n : Nat} {tk : Tok} {Q : Int × Int × Nat → Shared → Prop} (hs : st.heap.IsSliceOf at_ .none .none (.int (-1) tk)) (fin : Q ((n : Int) - 1, -1, n) st) :
    wpAny (model prog w) B (Builtin.Slice.sliceApplied (.ref at_) (pure (n : Int))) Q E st := by
  have all : Builtin.Slice.slicePlaces ((n : Int) - 1) (-1) (-1) = n := by
    simp only [Builtin.Slice.slicePlaces, show ¬ ((-1 : Int) > 0) by decide, if_false, show (-(-1 : Int)) = 1 from rfl, Int.ediv_one]
    split <;> omega
  obtain ⟨ob, g, _, parts⟩ := hs
  unfold Builtin.Slice.sliceApplied Builtin.Slice.sliceFields
  refine wpAny_bind (wpAny_bind (wpAny_field g parts (x := .none) rfl (wpAny_bind (wpAny_field g parts (x := .none) rfl (wpAny_bind (wpAny_field g parts (x := .int (-1) tk) rfl (wpAny_pure (wpAny_bind (slicePart_int ?_)))))))))
  show wpAny _ _ (if ((-1 : Int) == 0) = true then _ else _) _ _ st
  rw [if_neg (by decide)]
  refine wpAny_bind (slicePart_none (wpAny_bind (slicePart_none (wpAny_bind (wpAny_pure ?_)))))
  show wpAny _ _ (pure ((n : Int) - 1, (-1 : Int), Builtin.Slice.slicePlaces ((n : Int) - 1) (-1) (-1))) _ _ st
  rw [all]
  exact wpAny_pure fin
theorem back_part (xs : Array Value) : ∀ k, k ≤ xs.size → ((List.range k).filterMap fun (m : Nat) => xs[((xs.size : Int) - 1 + (m : Int) * -1).toNat]?) = xs.toList.reverse.take k
  | 0, _ => by simp
  | k + 1, hk => by
    have at1 : ((xs.size : Int) - 1 + (k : Int) * -1).toNat = xs.size - 1 - k := by omega
    have at2 : xs.toList.reverse[k]? = some xs[xs.size - 1 - k] := by
      rw [List.getElem?_reverse (by have q : k < xs.size := hk; simpa using q)]
      simp
    rw [List.range_succ, List.filterMap_append, back_part xs k (by omega), List.take_add_one, at2]
    simp only [List.filterMap_cons, at1, List.filterMap_nil]
    rw [Array.getElem?_eq_getElem (by omega)]
    rfl
theorem back_all (xs : Array Value) : ((List.range xs.size).filterMap fun (m : Nat) => xs[((xs.size : Int) - 1 + (m : Int) * -1).toNat]?).toArray = xs.toList.reverse.toArray := by
  rw [back_part xs xs.size (Nat.le_refl _), List.take_of_length_le (by simp)]
theorem tupBack {t at_ : Addr} {its : Array Value} {tk : Tok} {Q : Value → Shared → Prop} (ht : IsTup st.heap t its) (hs : st.heap.IsSliceOf at_ .none .none (.int (-1) tk))
    (fin : Q (.ref st.heap.objs.size) { st with heap := st.heap.push { cls := .type "tuple", data := .seq its.toList.reverse.toArray } }) (small : its.size ≤ sizeLine) : wpAny (model prog w) B (getItem (.ref t) (.ref at_)) Q E st := by
  have fits : sizeOk (.seq its.toList.reverse.toArray) := by
    show its.toList.reverse.toArray.size ≤ sizeLine
    simpa using small
  have isS : st.TypeIs (.ref at_) "slice" := by
    obtain ⟨ob, g, c, _⟩ := hs
    exact ⟨ob, g, c⟩
  have other : ((((its.size : Int) - 1) == 0 && (-1 : Int) == 1 && its.size == its.size) = true) = False := by
    rw [show ((-1 : Int) == 1) = false from rfl, Bool.and_false, Bool.false_and]
    exact eq_false Bool.false_ne_true
  unfold getItem
  try (with_reducible refine wpAny_holding ?_)
  first | refine wpAny_bind (wpAny_pure ?_) | skip
  refine wpAny_bind (wpAny_sequenceKey ht.typeIs (by decide) (wpAny_bind (wpAny_callSpecial?_slot (name := Str.ofString "__getitem__") ht.typeIs PyProof.Rows.slot_tuple_getitem (wpAny_call_entry PyProof.Rows.slot_tuple_getitem ht.typeIs entry_tuple_getitem ?_ (args_tuple_getitem _ _)))))
  show wpAny _ _ (Builtin.Tuple.tupleItemsOf (.ref t) >>= _) _ _ st
  refine wpAny_bind (tupleItemsOf_ ht (wpAny_bind (wpAny_typeOf isS ?_)))
  rw [if_pos (by decide)]
  refine wpAny_bind (sliceBack hs ?_)
  show wpAny _ _ (if (((its.size : Int) - 1) == 0 && (-1 : Int) == 1 && its.size == its.size) = true then _ else _) _ _ st
  rw [if_neg (by rw [other]; exact id), back_all]
  first
    | exact wpAny_bind (m := Builtin.Tuple.tupleExact _) (wpAny_newObj_type (wpAny_pure ⟨_, rfl, wpAny_pure fin⟩) fits)
    | exact wpAny_bind (m := Builtin.Tuple.tupleExact _) (wpAny_newObj_type (wpAny_bind (wpAny_pure (wpAny_pure ⟨_, rfl, wpAny_pure fin⟩))) fits)
    | exact wpAny_bind (wpAny_bind (m := Builtin.Tuple.tupleExact _) (wpAny_newObj_type (wpAny_pure (wpAny_pure ⟨_, rfl, wpAny_pure fin⟩)) fits))
    | exact wpAny_bind (wpAny_bind (m := Builtin.Tuple.tupleExact _) (wpAny_newObj_type (wpAny_pure ⟨_, rfl, wpAny_pure fin⟩) fits))
end

/-- t[::-1], t a tuple -/
def tBackT (K : PySem.W.Frag) (te : TE) : TE := fun σ H Q => te σ H fun x H1 => ∃ a xs, x = .ref a ∧ SqT K H1 a xs ∧ ∀ p, H1 p = none → Q (.ref p) (upd H1 p (.tup xs.reverse))
section
variable {X : Cx} {K : PySem.W.Frag}
theorem bt_K {e : Expr} {te : TE} {k : Nat} {p1 p2 p3 pos : Pos} (hK : X.K = K) (he : PE X e te) : PE X (.Subscript e (.Slice none none (some (.UnaryOp .USub (.Constant (.int 1) k p1) p2)) p3) pos) (tBackT K te) := by
  subst hK
  have step : PO X (some (.UnaryOp .USub (.Constant (.int 1) k p1) p2)) (tPart (tUn (rU fun i => .int (-i)) (tC (.int 1)))) := po_some (pe_un un_neg pe_int)
  constructor
  intro pins st σ H Q I wish
  refine Subscript_ (thn (he.run pins st σ H _ I wish) ?_)
  rintro v sA ⟨x, HA, IA, rx, a, xs, rfl, hx, fin⟩
  cases rx
  refine wpAny_Slice (thn (po_none.run pins sA σ HA (fun o H' => o = none ∧ H' = HA) IA ⟨rfl, rfl⟩) ?_)
  rintro lo sB ⟨_, HB, IB, plo, rfl, eH⟩
  subst eH
  refine thn (po_none.run pins sB σ _ (fun o H' => o = none ∧ H' = HB) IB ⟨rfl, rfl⟩) ?_
  rintro hi sC ⟨_, _, IC, phi, rfl, eH⟩
  subst eH
  refine thn (step.run pins sC σ _ (fun o H' => o = some (-1) ∧ H' = _) IC ⟨1, rfl, -1, rfl, rfl, rfl⟩) ?_
  rintro by_ sD ⟨_, _, ID, pby, rfl, eH⟩
  subst eH
  cases plo
  cases phi
  cases pby
  rename_i tk
  have IE := ID.kept (t' := sD.toks) (h' := sD.heap.push { cls := .type "slice", data := .fields #[Value.none, Value.none, Value.int (-1) tk] }) fun b ob q => Heap.get?_push_of_some _ q
  obtain ⟨its, rv, isT, small⟩ := IE.tuple hx
  refine tail_any (ops := [.ref a, .ref sD.heap.objs.size]) isT.typeIs (PyProof.Rows.slot_tuple_getitem.lookup) ?_ (by with_unfolding_all rfl)
  refine tupBack isT (Heap.IsSliceOf.new _ _ _ _) ?_ (by have := rv.length; rw [List.size_toArray]; omega)
  exact ⟨.ref _, _, IE.laid (t' := sD.toks) (o := .tup xs.reverse) (fun b ob q => Heap.get?_push_of_some _ q) (Nat.le_refl _) ⟨by rw [List.length_reverse]; exact small, its.reverse, rv.reverse, IsTup.new _ _⟩, rfl, fin _ (IE.hok.fresh (Nat.le_refl _))⟩
/-- xs.extend(t), t a tuple -/
def rExtT (K : PySem.W.Frag) : V → List V → Hp → VK → Prop := fun x vs H Q => ∃ l b xs zs, x = .ref l ∧ vs = [.ref b] ∧ H l = some (.lst xs) ∧ SqT K H b zs ∧ xs.length + zs.length ≤ sizeLine ∧ Q .non (upd H l (.lst (xs ++ zs)))
theorem mt_extT : MtR X "list.extend" (rExtT X.K) := by
  rintro pins st σ H _ _ v us Q I rx rv ⟨l, b, xs, zs, rfl, rfl, isL, isT, small, fin⟩
  cases rx
  obtain ⟨u, rfl, ru⟩ := rv.one
  cases ru
  obtain ⟨_, had, n, rh, lh, gl⟩ := I.lstM isL
  obtain ⟨more, rm, ⟨⟨cls, dc, dat, sl⟩, gb, isC, m, isD⟩, _⟩ := I.tuple isT
  cases isC
  cases isD
  have lm := rm.length
  have sum : had.toArray.size + more.toArray.size ≤ sizeLine := by
    rw [List.size_toArray, List.size_toArray, ← lh, ← lm]
    exact small
  have ok : ¬ (!had.toArray.isEmpty && Builtin.List.listTooLong (had.toArray.size + more.toArray.size)) = true := by
    intro q
    rw [notLongL sum, Bool.and_false] at q
    cases q
  refine call_meets F.slot_list_extend ⟨_, gl, rfl⟩ F.entry_list_extend (F.args_list_extend_2 _ _) (ext_tup l had.toArray n b more.toArray m dc sl ok (by rw [List.size_toArray]; omega) (by omega)) ⟨gl, gb, ?_⟩
  exact ⟨.non, _, I.lset (its' := had ++ more) isL gl (by simp) (rh.append rm) (by rw [List.length_append]; exact small), rfl, fin⟩
def rEXT (K : PySem.W.Frag) : V → List V → Hp → VK → Prop := fun x vs H Q => rExtend x vs H Q ∨ rExtT K x vs H Q
theorem mt_EXT : MtR X "list.extend" (rEXT X.K) := MtR.or mt_extend mt_extT
end

section
variable {X : Cx} {K : PySem.W.Frag} {e o : Expr} {te to : TE} {pos apos cpos : Pos}
theorem ex2_K (h : X.K = K) (ho : PE X o to) (he : PE X e te)
    (hbase : attributeBase o "extend" X.env (eval o X.env) = eval o X.env := by rfl) (hline : (apos.endLine == cpos.line) = true := by rfl) (hs : starEach [e] X.env = (false, eval e X.env) :: starEach [] X.env := by rfl)
    (hfew : ((backTo cpos (starEach [e] X.env)).all (fun x => !x.1) && (backToKw cpos (keywordEach [] X.env)).all (fun x => x.1.isSome)
      && decide ([e].length + ([] : List Keyword).length + (if ([] : List Keyword).isEmpty then 0 else 1) < 30)) = true := by rfl) (hplain : (backTo cpos (starEach [] X.env)).any (·.1) = false := by rfl) : PE X (.Call (.Attribute o "extend" apos) [e] [] cpos) (tBM K "list" (rEXT K) to (tCons te tNil)) := by
  subst h
  exact pe_bm PySem.F.plainAttrs_list PySem.F.slot_list_extend PySem.F.type_list_extend mt_EXT ho (pa_cons he pa_nil hs) hbase hfew hline hs hplain
theorem popat_K (h : X.K = K) (ho : PE X o to) (he : PE X e te)
    (hbase : attributeBase o "pop" X.env (eval o X.env) = eval o X.env := by rfl) (hline : (apos.endLine == cpos.line) = true := by rfl) (hs : starEach [e] X.env = (false, eval e X.env) :: starEach [] X.env := by rfl)
    (hfew : ((backTo cpos (starEach [e] X.env)).all (fun x => !x.1) && (backToKw cpos (keywordEach [] X.env)).all (fun x => x.1.isSome)
      && decide ([e].length + ([] : List Keyword).length + (if ([] : List Keyword).isEmpty then 0 else 1) < 30)) = true := by rfl) (hplain : (backTo cpos (starEach [] X.env)).any (·.1) = false := by rfl) : PE X (.Call (.Attribute o "pop" apos) [e] [] cpos) (tBM K "list" rPopAt to (tCons te tNil)) := by
  subst h
  exact pe_bm PySem.F.plainAttrs_list PySem.F.slot_list_pop PySem.F.type_list_pop mt_popAt ho (pa_cons he pa_nil hs) hbase hfew hline hs hplain
/-- a test by a value's truth -/
def tTru (K : PySem.W.Frag) (ta : TE) : TT := fun σ H Q => ta σ H fun x H' => ∃ k, TruV K x H' k ∧ Q k H'
theorem tr_K {a : Expr} {ta : TE} (h : X.K = K) (ha : PE X a ta) (he : ∀ whole, isTrue a X.env whole = (do let v ← whole; standAt a.pos; holding [v] (truthy v))) : PT X a (tTru K ta) := by
  subst h
  exact pt_truth ha he
/-- a list or a tuple is walked -/
def iSeq (K : PySem.W.Frag) (te : TE) : TI := fun σ H R => iList K te σ H R ∨ iTup K te σ H R
theorem is_K {te : TE} {e tg : Expr} (h : X.K = K) (hl : PE X e te) : PI X tg e (iSeq K te) := by
  have a : PI X tg e (iList K te) := il_K h hl
  have b : PI X tg e (iTup K te) := it_K h hl
  exact ⟨fun pins s σ H R I q => q.elim (fun q => a.run pins s σ H R I q) fun q => b.run pins s σ H R I q⟩
theorem max_K (h : X.K = K) (hc : X.calm = true) : CallR X (.builtin "max") (rMax K) := by
  subst h
  exact cr_max hc
theorem zip_K {e2 : Expr} {ta : TA} {p tpos : Pos} {elts : List Expr} {kk : Nat} (h : X.K = K) (hg : Gl X "zip") (hm : X.mg "zip" = none) (ha : PA X [e, e2] ta)
    (hs : starEach [e, e2] X.env = (false, eval e X.env) :: starEach [e2] X.env := by rfl) (hpl : (backTo pos (starEach [e2] X.env)).any (·.1) = false := by rfl) :
    PI X (.Tuple elts kk tpos) (.Call (.Name "zip" p) [e, e2] [] pos) (RZ.iZipA K ta) := by
  subst h
  exact RZ.pi_zipA hg hm ha hs hpl
theorem enum_K {ta : TA} {p tpos : Pos} {elts : List Expr} {kk : Nat} (h : X.K = K) (hg : Gl X "enumerate") (hm : X.mg "enumerate" = none) (ha : PA X [e] ta) (hs : starEach [e] X.env = [(false, eval e X.env)] := by rfl) :
    PI X (.Tuple elts kk tpos) (.Call (.Name "enumerate" p) [e] [] pos) (iEnum K ta) := by
  subst h
  exact pi_enum hg hm ha hs
theorem rev_K {ta : TA} {p : Pos} {tg : Expr} (h : X.K = K) (hg : Gl X "reversed") (hm : X.mg "reversed" = none) (ha : PA X [e] ta) (hs : starEach [e] X.env = [(false, eval e X.env)] := by rfl) :
    PI X tg (.Call (.Name "reversed" p) [e] [] pos) (iRev K ta) := by
  subst h
  exact pi_reversed hg hm ha hs
end

section
variable {K : PySem.W.Frag} {W0 W W' W1 : Wd} {σ : L2.St} {Γ : Gm} {D : Ends} {A : AE} {ta tb te : TE} {t u : TS} {tt : TT}
theorem wpE_back {P : PyData → Prop} (h : wpE K W0 te Γ fun d => ∃ ds, d = .tuple ds ∧ P (.tuple ds.reverse)) : wpE K W0 (tBackT K te) Γ P := fun W σ S Q k => h W σ S _ fun v W1 d e1 f1 ⟨ds, hd, p⟩ => by
  subst hd
  obtain ⟨a, vs, rfl, q, f⟩ := f1.tup_inv
  refine ⟨a, vs, rfl, q, fun r hr => ?_⟩
  obtain ⟨e, g⟩ := e1.ok.newT hr f.reverse
  exact k _ _ _ (e1.trans e) g p
/-- a slice of a tuple that is not all of it -/
theorem wpE_slT {tl th : TO} {P : PyData → Prop} (h : wpE K W0 te Γ fun d => ∃ ds, d = .tuple ds ∧ wpO K W0 tl Γ fun lo => wpO K W0 th Γ fun hi => ¬ (HT.sIx ds.length 0 lo = 0 ∧ HT.sIx ds.length ds.length hi = ds.length) ∧ P (.tuple (cutD ds lo hi))) :
    wpE K W0 (tSl (rSL K) te tl th) Γ P := fun W σ S Q k =>
  h W σ S _ fun v W1 d e1 f1 ⟨ds, hd, h1⟩ => h1 W1 σ (S.mono e1) _ fun W2 lo e2 h2 => h2 W2 σ (S.mono (e1.trans e2)) _ fun W3 hi e3 ⟨hn, p⟩ => by
    subst hd
    obtain ⟨a, vs, rfl, q, f⟩ := (Df.mono ((e2.trans e3).lf e1.ok) _ _ f1).tup_inv
    refine .inr (.inl ⟨a, vs, rfl, q, fun z => absurd (by rw [f.length] at z; exact z) hn, fun _ r hr => ?_⟩)
    obtain ⟨e, g⟩ := e3.ok.newT hr (f.cut lo hi)
    exact k _ _ _ (((e1.trans e2).trans e3).trans e) g p
/-- t[lo:hi], whatever is left -/
theorem wpE_cutT {tl th : TO} {P : PyData → Prop} (h : wpE K W0 te Γ fun d => ∃ ds, d = .tuple ds ∧ wpO K W0 tl Γ fun lo => wpO K W0 th Γ fun hi => P (.tuple (cutD ds lo hi))) :
    wpE K W0 (tSl (rSL K) te tl th) Γ P := fun W σ S Q k =>
  h W σ S _ fun v W1 d e1 f1 ⟨ds, hd, h1⟩ => h1 W1 σ (S.mono e1) _ fun W2 lo e2 h2 => h2 W2 σ (S.mono (e1.trans e2)) _ fun W3 hi e3 p => by
    subst hd
    have f3 := Df.mono ((e2.trans e3).lf e1.ok) _ _ f1
    obtain ⟨a, vs, rfl, q, f⟩ := f3.tup_inv
    refine .inr (.inl ⟨a, vs, rfl, q, fun z => ?_, fun _ r hr => ?_⟩)
    · rw [f.length] at z
      have e : cutD ds lo hi = ds := by
        unfold cutD
        rw [z.1, z.2, List.drop_zero, Nat.sub_zero, List.take_length]
      have p' : P (.tuple ds) := by
        rw [← e]
        exact p
      exact k _ _ _ ((e1.trans e2).trans e3) f3 p'
    · obtain ⟨e, g⟩ := e3.ok.newT hr (f.cut lo hi)
      exact k _ _ _ (((e1.trans e2).trans e3).trans e) g p
/-- t[1:], t not empty -/
theorem wpE_tail {i : Nat} {d0 : PyData} {ds : List PyData} {P : PyData → Prop} (hi : Γ[i]? = some (.d (.tuple (d0 :: ds)))) (p : P (.tuple ds)) : wpE K W0 (tSl (rSL K) (tVar i) (tPart (tC (.int 1))) tNoPart) Γ P := by
  refine wpE_slT (wpE_var hi ⟨_, rfl, wpO_some (wpE_int ⟨1, rfl, wpO_no ⟨?_, ?_⟩⟩)⟩)
  · rintro ⟨h, _⟩
    rw [show HT.sIx (d0 :: ds).length 0 (some 1) = min 1 (d0 :: ds).length from HT.sIx_nat _ 0 1, List.length_cons] at h
    omega
  · have e : cutD (d0 :: ds) (some 1) none = ds := by
      unfold cutD
      rw [show HT.sIx (d0 :: ds).length 0 (some 1) = min 1 (d0 :: ds).length from HT.sIx_nat _ 0 1, HT.sIx_none, List.length_cons, show min 1 (ds.length + 1) = 1 by omega]
      show List.take (ds.length + 1 - 1) ds = ds
      rw [Nat.add_sub_cancel, List.take_length]
    rw [e]
    exact p
theorem opR_catT {xs ys : List PyData} {P : PyData → Prop} (hx : xs ≠ []) (hz : xs.length + ys.length ≤ 1000000) (p : P (.tuple (xs ++ ys))) : opR K (rADD K) (.tuple xs) (.tuple ys) P := fun W v u ok f1 f2 Q k => by
  have hs : sizeLine = 16777216 := sizeLine_eq
  obtain ⟨a, vs, rfl, q1, g1⟩ := f1.tup_inv
  obtain ⟨b, us, rfl, q2, g2⟩ := f2.tup_inv
  refine .inr (.inr (.inr ⟨a, b, vs, us, rfl, rfl, q1, q2, fun z => ?_, by rw [g1.length, g2.length]; omega, fun z => ?_, fun _ r hr => ?_⟩))
  · subst z
    cases g1
    exact hx rfl
  · subst z
    cases g2
    rw [List.append_nil] at p
    exact k _ W _ (.refl ok) f1 p
  · obtain ⟨e, g⟩ := ok.newT hr (g1.append g2)
    exact k _ _ _ e g p
theorem wpE_tof {P : PyData → Prop} (h : wpL K W0 te Γ fun ds => P (.tuple ds)) : wpE K W0 (tCB (rTof K) (tCons te tNil)) Γ P := fun W σ S Q k => h W σ S _ fun v W1 ds e1 l1 p => by
  obtain ⟨a, vs, rfl, q, f⟩ := l1.sq
  refine ⟨a, vs, rfl, .inl ⟨q, fun r hr => ?_⟩⟩
  obtain ⟨e, g⟩ := e1.ok.newT hr f
  exact k _ _ _ (e1.trans e) g p
theorem wpE_tofT {P : PyData → Prop} (h : wpE K W0 te Γ fun d => ∃ ds, d = .tuple ds ∧ P (.tuple ds)) : wpE K W0 (tCB (rTof K) (tCons te tNil)) Γ P := fun W σ S Q k => h W σ S _ fun v W1 d e1 f1 ⟨ds, hd, p⟩ => by
  subst hd
  obtain ⟨a, vs, rfl, q, f⟩ := f1.tup_inv
  exact ⟨a, vs, rfl, .inr ⟨q, k _ W1 _ e1 f1 p⟩⟩
theorem wpN_lof {P : List PyData → Prop} (h : wpL K W0 te Γ P) : wpN K W0 (tCB (rLof K) (tCons te tNil)) Γ P := fun W σ S Q k => h W σ S _ fun v W1 ds e1 l1 p => by
  obtain ⟨a, vs, rfl, q, f⟩ := l1.sq
  refine ⟨a, vs, rfl, .inl q, fun r hr => ?_⟩
  obtain ⟨e, g⟩ := e1.ok.newL hr f
  exact k _ _ _ (e1.trans e) (g.up S.ok e1) p
theorem wpN_lofT {P : List PyData → Prop} (h : wpE K W0 te Γ fun d => ∃ ds, d = .tuple ds ∧ P ds) : wpN K W0 (tCB (rLof K) (tCons te tNil)) Γ P := fun W σ S Q k => h W σ S _ fun v W1 d e1 f1 ⟨ds, hd, p⟩ => by
  subst hd
  obtain ⟨a, vs, rfl, q, f⟩ := f1.tup_inv
  refine ⟨a, vs, rfl, .inr q, fun r hr => ?_⟩
  obtain ⟨e, g⟩ := e1.ok.newL hr f
  exact k _ _ _ (e1.trans e) (g.up S.ok e1) p
theorem wpE_maxL {P : PyData → Prop} (h : wpL K W0 te Γ fun ds => ∃ ns : List Int, ds = ns.map PyData.int ∧ ns ≠ [] ∧ ∀ m, m ∈ ns → (∀ y, y ∈ ns → y ≤ m) → P (.int m)) : wpE K W0 (tCB (rMax K) (tCons te tNil)) Γ P := fun W σ S Q k => h W σ S _ fun v W1 ds e1 l1 ⟨ns, hd, hn, p⟩ => by
  subst hd
  obtain ⟨a, vs, rfl, q, f⟩ := l1.sq
  have e := dfs_ints f
  subst e
  exact ⟨a, ns, rfl, q, List.length_pos_iff.mpr hn, fun m h1 h2 => k _ W1 _ e1 (.int m) (p m h1 h2)⟩
theorem wpN_lrg {P : List PyData → Prop} (h : wpE K W0 te Γ fun d => ∃ n : Int, d = .int n ∧ n ≤ 1000000 ∧ 0 ≤ n ∧ P (rngD 0 n.toNat)) : wpN K W0 (tLstRg (tRg1 te)) Γ P := fun W σ S Q k => h W σ S _ fun v W1 d e1 f1 ⟨n, hd, h1, h0, p⟩ => by
  subst hd
  cases f1.int_inv
  refine ⟨n, rfl, .of_le (Int.le_refl 0) (by omega) (by decide) h0, fun r hr => ?_⟩
  have f : Dfs K W1 (rgV 0 n) (rngD 0 n.toNat) := by
    unfold rgV rngD
    rw [Int.sub_zero]
    have q : ∀ l : List Nat, Dfs K W1 (l.map fun i => V.int (0 + (i : Nat))) (l.map fun i => PyData.int (0 + (i : Nat))) := fun l => by
      induction l with
      | nil => exact .nil
      | cons x l ih => exact .cons (.int _) ih
    exact q _
  obtain ⟨e, g⟩ := e1.ok.newL hr f
  exact k _ _ _ (e1.trans e) (g.up S.ok e1) p
/-! pops -/
theorem Sat.fresh0 (S : Sat K W0 W σ Γ) {p : Addr} (h : W.H p = none) : W0.H p = none := S.le.fresh h
/-- x = xs.pop() -/
theorem go_pop {i j : Nat} {xs : List PyData} {d : PyData} (hij : i ≠ j) (hi : Γ[i]? = some (.l xs)) (hd : xs[xs.length - 1]? = some d) (p : A.nx ((Γ.set i (.l xs.dropLast)).set j (.d d))) : go K W0 (tAsg (tBM0 K "list" rPop (tVar i)) (gName j)) Γ A := fun W σ D S c => by
  obtain ⟨a, vs, h1, h2, h3, h4, h5, h6⟩ := S.varL hi
  obtain ⟨v, hv, fv⟩ := h6.get hd
  have lf := S.ok.mutLf (o' := .lst vs.dropLast) h5 trivial h3 h4
  have S1 := S.mutL hi h1 h2 h3 h4 h5 lf (Dfs.mono lf _ _ h6.dropLast)
  exact ⟨_, h1, .inl ⟨rfl, vs, .inl (.inl h5)⟩, a, vs, v, rfl, rfl, h5, by rw [h6.length]; exact hv, c.nx _ _ _ lf (S1.setD j (Df.mono lf _ _ fv)) p⟩
/-- ys.append(xs.pop(e)) -/
theorem go_appPopAt {i j : Nat} {xs ys : List PyData} (hij : i ≠ j) (hi : Γ[i]? = some (.l xs)) (hj : Γ[j]? = some (.l ys)) (h : wpE K W0 te Γ fun d => ∃ (n : Nat) (x : PyData), d = .int (n : Int) ∧ n < 1000000 ∧ xs[n]? = some x ∧ ys.length < 1000000 ∧ A.nx ((Γ.set i (.l (xs.eraseIdx n))).set j (.l (ys ++ [x])))) :
    go K W0 (tDrop (tBM K "list" rAppend (tVar j) (tCons (tBM K "list" rPopAt (tVar i) (tCons te tNil)) tNil))) Γ A := fun W σ D S c => by
  have hs : sizeLine = 16777216 := sizeLine_eq
  obtain ⟨a, vs, h1, h2, h3, h4, h5, h6⟩ := S.varL hi
  obtain ⟨b, us, g1, g2, g3, g4, g5, g6⟩ := S.varL hj
  refine ⟨_, g1, .inl ⟨rfl, us, .inl (.inl g5)⟩, _, h1, .inl ⟨rfl, vs, .inl (.inl h5)⟩, h W σ S _ fun v W1 d e f ⟨n, x, hd, hn, hx, hy, p⟩ => ?_⟩
  subst hd
  cases f.int_inv
  have S1 := S.mono e
  obtain ⟨a', vs', i1, i2, i3, i4, i5, i6⟩ := S1.varL hi
  rw [h1] at i1
  cases i1
  obtain ⟨z, hz, fz⟩ := i6.get hx
  have hlt : n < vs'.length := (List.getElem?_eq_some_iff.mp hz).1
  have sq : seqIndex? (n : Int) vs'.length = some n := by
    have nn : ¬ ((n : Int) < 0) := by omega
    have nl : (n : Int) < (vs'.length : Int) := by omega
    simp [seqIndex?, nn, nl]
  have lf1 := e.ok.mutLf (o' := .lst (vs'.eraseIdx n)) i5 trivial i3 i4
  have er : ∀ {vs : List V} {ds : List PyData} (n : Nat), Dfs K W1 vs ds → Dfs K W1 (vs.eraseIdx n) (ds.eraseIdx n) := by
    intro vs ds n q
    rw [List.eraseIdx_eq_take_drop_succ, List.eraseIdx_eq_take_drop_succ]
    exact (q.take n).append (q.drop (n + 1))
  have S2 := S1.mutL hi h1 i2 i3 i4 i5 lf1 (Dfs.mono lf1 _ _ (er n i6))
  have hj2 : (Γ.set i (.l (xs.eraseIdx n)))[j]? = some (.l ys) := by rw [List.getElem?_set, if_neg hij]; exact hj
  obtain ⟨b', us', j1, j2, j3, j4, j5, j6⟩ := S2.varL hj2
  rw [g1] at j1
  cases j1
  refine ⟨a, vs', (n : Int), n, z, rfl, rfl, i5, by omega, by omega, sq, hz, ?_⟩
  have lf2 := S2.ok.mutLf (o' := .lst (us' ++ [z])) j5 trivial j3 j4
  have S3 := S2.mutL hj2 g1 j2 j3 j4 j5 lf2 ((Dfs.mono lf2 _ _ j6).append (.cons (Df.mono (lf1.trans lf2) _ _ fz) .nil))
  exact ⟨b, us', z, rfl, rfl, j5, by rw [j6.length]; omega, c.nx _ _ σ (((e.lf S.ok).trans lf1).trans lf2) S3 p⟩
/-- xs.extend(e), e a new list -/
theorem go_extN {i : Nat} {xs : List PyData} (hi : Γ[i]? = some (.l xs)) (h : wpN K W0 te Γ fun ds => xs.length + ds.length < 10000000 ∧ A.nx (Γ.set i (.l (xs ++ ds)))) : go K W0 (tDrop (tBM K "list" (rEXT K) (tVar i) (tCons te tNil))) Γ A := fun W σ D S c => by
  have hsz : sizeLine = 16777216 := sizeLine_eq
  obtain ⟨a, vs, h1, h2, h3, h4, h5, h6⟩ := S.varL hi
  refine ⟨_, h1, .inl ⟨rfl, vs, .inl (.inl h5)⟩, h W σ S _ fun v W1 d e n ⟨hz, p⟩ => ?_⟩
  have S1 := S.mono e
  obtain ⟨a', vs', g1, g2, g3, g4, g5, g6⟩ := S1.varL hi
  rw [h1] at g1
  cases g1
  obtain ⟨b, us, rfl, b2, b3, b4, b5, b6⟩ := n
  refine .inl ⟨a, b, vs', us, rfl, rfl, g5, b5, by rw [g6.length, b6.length]; omega, ?_⟩
  have lf := e.ok.mutLf (o' := .lst (vs' ++ us)) g5 trivial g3 g4
  exact c.nx _ ⟨W1.Fz, W1.B, upd W1.H a (.lst (vs' ++ us))⟩ σ ((e.lf S.ok).trans lf) (S1.mutL hi h1 g2 g3 g4 g5 lf ((Dfs.mono lf _ _ g6).append (Dfs.mono lf _ _ b6))) p
/-- .., e a tuple -/
theorem go_extT {i : Nat} {xs : List PyData} (hi : Γ[i]? = some (.l xs)) (h : wpE K W0 te Γ fun d => ∃ ds, d = .tuple ds ∧ xs.length + ds.length < 10000000 ∧ A.nx (Γ.set i (.l (xs ++ ds)))) : go K W0 (tDrop (tBM K "list" (rEXT K) (tVar i) (tCons te tNil))) Γ A := fun W σ D S c => by
  have hsz : sizeLine = 16777216 := sizeLine_eq
  obtain ⟨a, vs, h1, h2, h3, h4, h5, h6⟩ := S.varL hi
  refine ⟨_, h1, .inl ⟨rfl, vs, .inl (.inl h5)⟩, h W σ S _ fun v W1 d e f ⟨ds, hd, hz, p⟩ => ?_⟩
  subst hd
  have S1 := S.mono e
  obtain ⟨a', vs', g1, g2, g3, g4, g5, g6⟩ := S1.varL hi
  rw [h1] at g1
  cases g1
  obtain ⟨b, us, rfl, q, b6⟩ := f.tup_inv
  refine .inr ⟨a, b, vs', us, rfl, rfl, g5, q, by rw [g6.length, b6.length]; omega, ?_⟩
  have lf := e.ok.mutLf (o' := .lst (vs' ++ us)) g5 trivial g3 g4
  exact c.nx _ ⟨W1.Fz, W1.B, upd W1.H a (.lst (vs' ++ us))⟩ σ ((e.lf S.ok).trans lf) (S1.mutL hi h1 g2 g3 g4 g5 lf ((Dfs.mono lf _ _ g6).append (Dfs.mono lf _ _ b6))) p
/-! enumerate, zip, reversed -/
def enD (ds : List PyData) : List PyData := (List.range ds.length).map fun i => .tuple [.int (i : Nat), ds.getD i .none]
theorem enD_len (ds : List PyData) : (enD ds).length = ds.length := by simp [enD]
theorem itd_enum {G : Wd → Prop} {a : Addr} {vs : List V} {ds : List PyData} (hG : ∀ W', G W' → SqL K W'.H a vs ∧ Dfs K W' vs ds) (hl : vs.length = ds.length) : ItD K G (Ite K a) (enD ds) where
  go := fun W2 i g hi => by
    rw [enD_len] at hi
    exact ⟨vs, vs[i]'(by omega), (hG W2 g).1, by simp [hl, hi]⟩
  stop := fun W2 i g hi => by
    rw [enD_len] at hi
    exact ⟨vs, (hG W2 g).1, by omega⟩
  yld := fun W2 i v H' d g ok hd ⟨T, x, hv, hT, hH, hx⟩ => by
    subst hv hH
    have hi : i < ds.length := by
      have := (List.getElem?_eq_some_iff.mp hd).1
      rw [enD_len] at this
      exact this
    unfold enD at hd
    rw [List.getElem?_map, List.getElem?_eq_getElem (by simpa using hi)] at hd
    simp at hd
    subst hd
    have h3 := hx vs (hG W2 g).1
    obtain ⟨v', h1, h2⟩ := (hG W2 g).2.get (List.getElem?_eq_getElem hi)
    rw [h1] at h3
    cases h3
    obtain ⟨e, f⟩ := ok.newT hT (ds := [.int (i : Nat), ds[i]]) (.cons (.int _) (.cons h2 .nil))
    refine ⟨_, rfl, e, ?_⟩
    rw [List.getElem?_eq_getElem hi]
    exact f
theorem wpI_enum {P : List PyData → Prop} (h : wpE K W0 te Γ fun d => ∃ ds, d = .list ds ∧ P (enD ds)) : wpI K W0 (iEnum K (tCons te tNil)) Γ P := fun W σ S R k => h W σ S _ fun v W1 d e1 f1 ⟨ds, hd, p⟩ => by
  subst hd
  cases f1 with
  | @lst a vs _ q f =>
    have hG : ∀ W', Lf W1 W' → SqL K W'.H a vs ∧ Dfs K W' vs ds := fun W' g => ⟨q.elim (fun q => .inl (g.rdL q.1 q.2)) fun q => q _, Dfs.mono g _ _ f⟩
    exact ⟨a, vs, rfl, (hG W1 (.refl e1.ok)).1, k W1 _ _ e1 (itd_enum hG f.length) p⟩
/-! zip of two lists, of two tuples -/
def zipD (ds es : List PyData) : List PyData := (List.range (min ds.length es.length)).map fun i => .tuple [ds.getD i .none, es.getD i .none]
theorem zipD_len (ds es : List PyData) : (zipD ds es).length = min ds.length es.length := by simp [zipD]
theorem zipD_get {ds es : List PyData} {i : Nat} {d : PyData} (h : (zipD ds es)[i]? = some d) : ∃ x y, ds[i]? = some x ∧ es[i]? = some y ∧ d = .tuple [x, y] := by
  have hi : i < min ds.length es.length := by
    have := (List.getElem?_eq_some_iff.mp h).1
    rw [zipD_len] at this
    exact this
  have h1 : i < ds.length := by omega
  have h2 : i < es.length := by omega
  unfold zipD at h
  rw [List.getElem?_map, List.getElem?_eq_getElem (by simpa using hi)] at h
  simp at h
  refine ⟨ds[i], es[i], List.getElem?_eq_getElem h1, List.getElem?_eq_getElem h2, ?_⟩
  rw [← h, List.getElem?_eq_getElem h1, List.getElem?_eq_getElem h2]
  rfl
theorem itd_zip {G : Wd → Prop} {a b : Addr} {vs us : List V} {ds es : List PyData} (hG : ∀ W', G W' → (SqL K W'.H a vs ∧ Dfs K W' vs ds) ∧ SqL K W'.H b us ∧ Dfs K W' us es) (hl : vs.length = ds.length) (hm : us.length = es.length) : ItD K G (Itz K a b) (zipD ds es) where
  go := fun W2 i g hi => by
    rw [zipD_len] at hi
    exact ⟨vs, us, vs[i]'(by omega), us[i]'(by omega), (hG W2 g).1.1, (hG W2 g).2.1, List.getElem?_eq_getElem _, List.getElem?_eq_getElem _⟩
  stop := fun W2 i g hi => by
    rw [zipD_len] at hi
    exact ⟨vs, us, (hG W2 g).1.1, (hG W2 g).2.1, by omega⟩
  yld := fun W2 i v H' d g ok hd ⟨T, x, y, hv, hT, hH, hx, hy⟩ => by
    subst hv hH
    obtain ⟨c, e, h1, h2, rfl⟩ := zipD_get hd
    obtain ⟨v1, q1, f1⟩ := (hG W2 g).1.2.get h1
    obtain ⟨v2, q2, f2⟩ := (hG W2 g).2.2.get h2
    have z1 := hx vs (hG W2 g).1.1
    have z2 := hy us (hG W2 g).2.1
    rw [q1] at z1
    rw [q2] at z2
    cases z1
    cases z2
    obtain ⟨e, f⟩ := ok.newT hT (ds := [c, e]) (.cons f1 (.cons f2 .nil))
    exact ⟨_, rfl, e, f⟩
theorem itd_zipT {G : Wd → Prop} {a b : Addr} {vs us : List V} {ds es : List PyData} (hG : ∀ W', G W' → (SqT K W'.H a vs ∧ Dfs K W' vs ds) ∧ SqT K W'.H b us ∧ Dfs K W' us es) (hl : vs.length = ds.length) (hm : us.length = es.length) : ItD K G (RZ.ItzT K a b) (zipD ds es) where
  go := fun W2 i g hi => by
    rw [zipD_len] at hi
    exact ⟨vs, us, vs[i]'(by omega), us[i]'(by omega), (hG W2 g).1.1, (hG W2 g).2.1, List.getElem?_eq_getElem _, List.getElem?_eq_getElem _⟩
  stop := fun W2 i g hi => by
    rw [zipD_len] at hi
    exact ⟨vs, us, (hG W2 g).1.1, (hG W2 g).2.1, by omega⟩
  yld := fun W2 i v H' d g ok hd ⟨T, x, y, hv, hT, hH, hx, hy⟩ => by
    subst hv hH
    obtain ⟨c, e, h1, h2, rfl⟩ := zipD_get hd
    obtain ⟨v1, q1, f1⟩ := (hG W2 g).1.2.get h1
    obtain ⟨v2, q2, f2⟩ := (hG W2 g).2.2.get h2
    have z1 := hx vs (hG W2 g).1.1
    have z2 := hy us (hG W2 g).2.1
    rw [q1] at z1
    rw [q2] at z2
    cases z1
    cases z2
    obtain ⟨e, f⟩ := ok.newT hT (ds := [c, e]) (.cons f1 (.cons f2 .nil))
    exact ⟨_, rfl, e, f⟩
theorem wpI_zip {P : List PyData → Prop} (h : wpE K W0 ta Γ fun c => wpE K W0 tb Γ fun d => ∃ ds es, ((c = .list ds ∧ d = .list es) ∨ (c = .tuple ds ∧ d = .tuple es)) ∧ P (zipD ds es)) : wpI K W0 (RZ.iZipA K (tCons ta (tCons tb tNil))) Γ P := fun W σ S R k =>
  h W σ S _ fun v W1 c e1 f1 h1 => h1 W1 σ (S.mono e1) _ fun u W2 d e2 f2 ⟨ds, es, hk, p⟩ => by
    have f1' := Df.mono (e2.lf e1.ok) _ _ f1
    rcases hk with ⟨hc, hd⟩ | ⟨hc, hd⟩
    · subst hc hd
      cases f1' with
      | @lst a vs _ q f =>
        cases f2 with
        | @lst b us _ q2 f2 =>
          have hG : ∀ W', Lf W2 W' → (SqL K W'.H a vs ∧ Dfs K W' vs ds) ∧ SqL K W'.H b us ∧ Dfs K W' us es := fun W' g =>
            ⟨⟨q.elim (fun q => .inl (g.rdL q.1 q.2)) fun q => q _, Dfs.mono g _ _ f⟩, q2.elim (fun q => .inl (g.rdL q.1 q.2)) fun q => q _, Dfs.mono g _ _ f2⟩
          have g0 := hG W2 (.refl e2.ok)
          exact ⟨a, b, vs, us, rfl, .inl ⟨g0.1.1, g0.2.1, k W2 _ _ (e1.trans e2) (itd_zip hG f.length f2.length) p⟩⟩
    · subst hc hd
      obtain ⟨a, vs, rfl, q, f⟩ := f1'.tup_inv
      obtain ⟨b, us, rfl, q2, f2⟩ := f2.tup_inv
      have hG : ∀ W', Lf W2 W' → (SqT K W'.H a vs ∧ Dfs K W' vs ds) ∧ SqT K W'.H b us ∧ Dfs K W' us es := fun W' g =>
        ⟨⟨g.rdT q, Dfs.mono g _ _ f⟩, g.rdT q2, Dfs.mono g _ _ f2⟩
      exact ⟨a, b, vs, us, rfl, .inr ⟨q, q2, k W2 _ _ (e1.trans e2) (itd_zipT hG f.length f2.length) p⟩⟩
/-! isinstance with three classes -/
def kit3 (t a b c : String) : Option Bool := match kitB t a with
  | some true => some true
  | some false => kit2 t b c
  | none => none
theorem ty_of3 {d : PyData} {a b c : String} {r : Bool} (hn : (Value.type "?" == Value.type a) = false) (h : kit3 (tyN d) a b c = some r) : tyN d ≠ "?" := by
  unfold kit3 at h
  cases e : kitB (tyN d) a with
  | none => rw [e] at h; cases h
  | some x => exact ty_of hn e
theorem wpE_isi3 {a b c : String} {P : PyData → Prop} (h : wpE K W0 te Γ fun d => ∃ r, kit3 (tyN d) a b c = some r ∧ P (.bool r)) (hn : (Value.type "?" == Value.type a) = false := by decide +kernel) : wpE K W0 (tCB (rIsiT K) (tCons te (tCons (tTup (tCons (tC (.ty a)) (tCons (tC (.ty b)) (tCons (tC (.ty c)) tNil)))) tNil))) Γ P := fun W σ S Q k =>
  h W σ S _ fun v W1 d e1 f1 ⟨r, hr, p⟩ => by
    refine ⟨by show 3 ≤ sizeLine; decide, fun q hq => ?_⟩
    have e2 := e1.ok.new (u := .tup [.ty a, .ty b, .ty c]) hq
    have any : PySem.W.kitAny K (.type (tyN d)) [.type a, .type b, .type c] = some r := by
      unfold kit3 at hr
      cases e3 : kitB (tyN d) a with
      | none => rw [e3] at hr; cases hr
      | some x =>
        rw [e3] at hr
        cases x with
        | true =>
          cases hr
          exact kitAny_cons (kit_ty e3) (fun z => nomatch z) (fun _ => rfl)
        | false => exact kitAny_cons (kit_ty e3) (fun _ => kit2_any hr) (fun z => nomatch z)
    exact ⟨v, q, [.ty a, .ty b, .ty c], .type (tyN d), [.type a, .type b, .type c], r, rfl, upd_same, .cons (.ty a) (.cons (.ty b) (.cons (.ty c) .nil)), (Df.mono (e2.lf e1.ok) _ _ f1).ty e2.ok (ty_of3 hn hr), any, k _ _ _ (e1.trans e2) (.bl r) p⟩
/-- [e for x in xs for y in ys], no tests, names alone -/
theorem wpN_lc2 {wi wi1 : TI} {vs vs1 : List Nat} {j j1 : Nat} {P : List PyData → Prop} (hj : j ∈ vs) (hj1 : j1 ∈ vs1)
    (h : wpIc K W0 wi Γ fun ds => ∃ Iv : Nat → List PyData → Prop, Iv 0 [] ∧ (∀ i d acc, ds[i]? = some d → Iv i acc → wpI K W0 wi1 ((wipeG Γ vs).set j (.d d)) fun es => ∃ Jv : Nat → List PyData → Prop, Jv 0 acc ∧
      (∀ m e acc', es[m]? = some e → Jv m acc' → acc'.length < 10000000 ∧ wpE K W0 te ((wipeG ((wipeG Γ vs).set j (.d d)) vs1).set j1 (.d e)) fun y => Jv (m + 1) (acc' ++ [y])) ∧ ∀ acc', Jv es.length acc' → Iv (i + 1) acc') ∧ ∀ acc, Iv ds.length acc → P acc) :
    wpN K W0 (tLc2 wi (gName j) tYes wi1 (gName j1) tYes te vs vs1) Γ P := fun W σ S Q k => h W σ S _ fun W1 J ds e1 it ⟨Iv, i0, hs, hd⟩ => by
  intro D hD
  have hsz : sizeLine = 16777216 := sizeLine_eq
  have S1 := S.mono e1
  obtain ⟨n1, n2⟩ := e1.ok.newL (K := K) (ds := []) (vs := []) hD .nil
  have fzD : ¬ W1.Fz D := fun z => e1.ok.fz D z hD
  have bD : ¬ W1.B D := fun z => by
    obtain ⟨_, _, _, e⟩ := e1.ok.bx D z
    rw [hD] at e
    cases e
  -- what holds between turns: the world grown, the new list told
  let At : (List PyData → Prop) → Hp → Prop := fun R H => ∃ W2 acc us, W2.H = H ∧ Le W1 W2 ∧ ¬ W2.Fz D ∧ ¬ W2.B D ∧ H D = some (.lst us) ∧ Dfs K W2 us acc ∧ R acc
  refine ⟨fun i m H => m = ds.length - i ∧ i ≤ ds.length ∧ At (Iv i) H, ⟨ds.length, by simp, Nat.zero_le _, _, [], [], rfl, n1, fzD, bD, upd_same, .nil, i0⟩, ?_⟩
  rintro i m H ⟨rfl, hi, W2, acc, us, rfl, e2, nf, nb, hl, hf, hI⟩
  by_cases hlt : i < ds.length
  · refine .inr ⟨it.go W2 i e2 hlt, At (Iv (i + 1)), fun H' q => ⟨ds.length - (i + 1), by omega, rfl, hlt, q⟩, fun x H' hy => ?_⟩
    obtain ⟨W3, rfl, e3, f3⟩ := it.yld W2 i x H' ds[i] e2 e2.ok (List.getElem?_eq_getElem hlt) hy
    have keep : ∀ {Wa Wb : Wd} {us : List V}, ¬ Wa.Fz D → ¬ Wa.B D → Wa.H D = some (.lst us) → Le Wa Wb → ¬ Wb.Fz D ∧ ¬ Wb.B D ∧ Wb.H D = some (.lst us) := fun {Wa Wb us} p1 p2 p3 e => ⟨fun z => (by
      have := e.nf D z p1
      rw [p3] at this
      cases this), fun z => (by
      have := e.nb D z p2
      rw [p3] at this
      cases this), e.ex D _ p3 p2⟩
    show wipe ((wipe σ vs).set j (some x)) vs = wipe σ vs ∧ wi1 ((wipe σ vs).set j (some x)) W3.H _
    refine ⟨(wipe_set hj).trans (wipe_wipe fun _ h => h), ?_⟩
    have S3 : Sat K W0 W3 ((wipe σ vs).set j (some x)) ((wipeG Γ vs).set j (.d ds[i])) := ((S1.mono (e2.trans e3)).wipe vs).setD j f3
    refine hs i ds[i] acc (List.getElem?_eq_getElem hlt) hI W3 _ S3 _ fun W4 J1 es e4 it1 ⟨Jv, j0, js, jd⟩ => ?_
    obtain ⟨k1, k2, k3⟩ := keep nf nb hl (e3.trans e4)
    refine ⟨fun m n H => n = es.length - m ∧ m ≤ es.length ∧ ∃ W5, Lf W4 W5 ∧ W5.H = H ∧ Le W1 W5 ∧ ¬ W5.Fz D ∧ ¬ W5.B D ∧ ∃ us acc', H D = some (.lst us) ∧ Dfs K W5 us acc' ∧ Jv m acc', ⟨es.length, by simp, Nat.zero_le _, W4, .refl e4.ok, rfl, (e2.trans e3).trans e4, k1, k2, us, acc, k3, Dfs.mono ((e3.trans e4).lf e2.ok) _ _ hf, j0⟩, ?_⟩
    rintro m n H ⟨rfl, hm, W5, lf5, rfl, e5, q1, q2, us5, acc5, q3, q4, hJ⟩
    by_cases hmt : m < es.length
    · refine .inr ⟨it1.go W5 m lf5 hmt, fun H => ∃ W5, Lf W4 W5 ∧ W5.H = H ∧ Le W1 W5 ∧ ¬ W5.Fz D ∧ ¬ W5.B D ∧ ∃ us acc', H D = some (.lst us) ∧ Dfs K W5 us acc' ∧ Jv (m + 1) acc', fun H' q => ⟨es.length - (m + 1), by omega, rfl, hmt, q⟩, fun y H' hy => ?_⟩
      obtain ⟨W6, rfl, e6, f6⟩ := it1.yld W5 m y H' es[m] lf5 e5.ok (List.getElem?_eq_getElem hmt) hy
      show wipe ((wipe ((wipe σ vs).set j (some x)) vs1).set j1 (some y)) vs1 = wipe ((wipe σ vs).set j (some x)) vs1 ∧ te ((wipe ((wipe σ vs).set j (some x)) vs1).set j1 (some y)) W6.H _
      refine ⟨(wipe_set hj1).trans (wipe_wipe fun _ h => h), ?_⟩
      have fx : Df K W6 x ds[i] := Df.mono ((e4.lf e3.ok).trans (lf5.trans (e6.lf e5.ok))) _ _ f3
      have S6 := ((((S1.mono (e5.trans e6)).wipe vs).setD j fx).wipe vs1).setD j1 f6
      obtain ⟨hsz5, hw⟩ := js m es[m] acc5 (List.getElem?_eq_getElem hmt) hJ
      refine hw W6 _ S6 _ fun z W7 dz e7 f7 hz => ?_
      obtain ⟨r1, r2, r3⟩ := keep q1 q2 q3 (e6.trans e7)
      have lf := e7.ok.mutLf (o' := .lst (us5 ++ [z])) r3 trivial r1 r2
      refine ⟨us5, r3, by rw [q4.length]; omega, ⟨W7.Fz, W7.B, upd W7.H D (.lst (us5 ++ [z]))⟩, lf5.trans (((e6.trans e7).lf e5.ok).trans lf), rfl, (e5.trans (e6.trans e7)).mut r3 r2 hD, r1, r2, us5 ++ [z], acc5 ++ [dz], upd_same, ?_, hz⟩
      exact (Dfs.mono lf _ _ (Dfs.mono ((e6.trans e7).lf e5.ok) _ _ q4)).append (.cons (Df.mono lf _ _ f7) .nil)
    · have e : m = es.length := by omega
      subst e
      exact .inl ⟨it1.stop W5 _ lf5 (Nat.le_refl _), W5, acc5, us5, rfl, e5, q1, q2, q3, q4, jd acc5 hJ⟩
  · have e : i = ds.length := by omega
    subst e
    refine .inl ⟨it.stop W2 _ e2 (Nat.le_refl _), k _ W2 acc (e1.trans e2) ?_ (hd acc hI)⟩
    have : Nw K W1 W2 (.ref D) acc := ⟨D, us, rfl, hD, nf, nb, hl, hf⟩
    exact this.up S.ok e1
theorem wpT_tru {i : Nat} {xs : List PyData} {P : Bool → Prop} (hi : Γ[i]? = some (.l xs)) (p : P (!xs.isEmpty)) : wpT K W0 (tTru K (tVar i)) Γ P := wpT_truL hi p
theorem fn_none {P : Program} {w : World} {mg : Str → Option Value} {base : Heap} {k : Nat} {f : Addr} {fd : FuncData} {ps : List Str} {pre : List PyData → Prop} {post : List PyData → Rs → Prop} (h : ∀ ds, ¬ pre ds) : FnOk P w K mg base CX0 k f fd ps (spF K pre post) := by
  have no : ∀ vs H Q E, ¬ spF K pre post vs H Q E := fun vs H Q E ⟨_, ds, _, _, _, hp, _⟩ => h ds hp
  exact ⟨fun vs H Q E s => absurd s (no vs H Q E), fun A outer s H args us vs Q E _ _ _ _ q => absurd q (no vs H Q E)⟩
theorem wpI_seqT {P : List PyData → Prop} (h : wpE K W0 te Γ fun d => ∃ ds, d = .tuple ds ∧ P ds) : wpI K W0 (iSeq K te) Γ P := fun W σ S R k => .inr (wpI_tup h W σ S R k)
theorem wpI_seqL {P : List PyData → Prop} (h : wpE K W0 te Γ fun d => ∃ ds, d = .list ds ∧ P ds) : wpI K W0 (iSeq K te) Γ P := fun W σ S R k => .inl (wpI_list h W σ S R k)
theorem wpIc_seqL {P : List PyData → Prop} (h : wpL K W0 te Γ P) : wpIc K W0 (iSeq K te) Γ P := fun W σ S R k => .inl (wpIc_list h W σ S R k)
theorem wpT_truT {i : Nat} {xs : List PyData} {P : Bool → Prop} (hi : Γ[i]? = some (.d (.tuple xs))) (p : P (!xs.isEmpty)) : wpT K W0 (tTru K (tVar i)) Γ P := fun W σ S Q k => by
  obtain ⟨v, h1, h2⟩ := S.var hi
  obtain ⟨a, vs, rfl, q, f⟩ := h2.tup_inv
  refine ⟨_, h1, !xs.isEmpty, .inr (.inl ⟨vs, q, ?_⟩), k W _ (.refl S.ok) p⟩
  cases f <;> rfl
end
section
variable {K : PySem.W.Frag} {W0 W W' W1 : Wd} {σ : L2.St} {Γ : Gm} {A : AE} {te : TE}
theorem go_aug {i : Nat} {a : Int} {f : Int → Int → Int} (hi : Γ[i]? = some (.d (.int a))) (h : wpE K W0 te Γ fun d => ∃ b, d = .int b ∧ A.nx (Γ.set i (.d (.int (f a b))))) : go K W0 (tAug i te (ipI f)) Γ A := fun W σ D S c => by
  obtain ⟨v, h1, h2⟩ := S.var hi
  cases h2.int_inv
  refine ⟨_, h1, h W σ S _ fun u W1 d e1 f1 ⟨b, hd, p⟩ => ?_⟩
  subst hd
  cases f1.int_inv
  exact ⟨a, b, rfl, rfl, c.nx _ W1 _ (e1.lf S.ok) ((S.mono e1).setD i (.int _)) p⟩
/-- [g y for x in xs for y in f x] -/
theorem wpN_flat {wi wi1 : TI} {vs vs1 : List Nat} {j j1 : Nat} {P : List PyData → Prop} (f : PyData → List PyData) (hj : j ∈ vs) (hj1 : j1 ∈ vs1)
    (h : wpIc K W0 wi Γ fun ds => (ds.flatMap f).length < 10000000 ∧ (∀ d ∈ ds, wpI K W0 wi1 ((wipeG Γ vs).set j (.d d)) fun es => es = f d ∧ ∀ e ∈ es, wpE K W0 te ((wipeG ((wipeG Γ vs).set j (.d d)) vs1).set j1 (.d e)) fun y => y = e) ∧ P (ds.flatMap f)) :
    wpN K W0 (tLc2 wi (gName j) tYes wi1 (gName j1) tYes te vs vs1) Γ P := by
  refine wpN_lc2 hj hj1 (h.imp fun ds ⟨hz, hs, p⟩ => ⟨fun i acc => acc = (ds.take i).flatMap f, rfl, fun i d acc hd hI => (hs d (List.mem_of_getElem? hd)).imp fun es ⟨he, hw⟩ => ?_, fun acc hI => ?_⟩)
  · refine ⟨fun m acc' => acc' = acc ++ es.take m, by simp, fun m e acc' hm hJ => ⟨?_, (hw e (List.mem_of_getElem? hm)).imp fun y hy => ?_⟩, fun acc' hJ => ?_⟩
    · have hk : (acc ++ es).length ≤ (ds.flatMap f).length := by
        have e1 : (acc ++ es) = (ds.take (i + 1)).flatMap f := by
          rw [show acc = (ds.take i).flatMap f from hI, he, take_succ hd, List.flatMap_append]
          simp
        rw [e1]
        have e2 : ds.flatMap f = (ds.take (i + 1)).flatMap f ++ (ds.drop (i + 1)).flatMap f := by rw [← List.flatMap_append, List.take_append_drop]
        rw [e2, List.length_append]
        omega
      rw [show acc' = acc ++ es.take m from hJ, List.length_append, List.length_take]
      rw [List.length_append] at hk
      omega
    · show acc' ++ [y] = acc ++ es.take (m + 1)
      rw [show acc' = acc ++ es.take m from hJ, hy, take_succ hm, List.append_assoc]
    · show acc' = (ds.take (i + 1)).flatMap f
      rw [show acc' = acc ++ es.take es.length from hJ, List.take_length, show acc = (ds.take i).flatMap f from hI, he, take_succ hd, List.flatMap_append]
      simp
  · rw [show acc = (ds.take ds.length).flatMap f from hI, List.take_length]
    exact p
end
/-! isinstance of data by its form -/
theorem kt_str_str (x : Str) : kitB (tyN (.str x)) "str" = some true := (by decide +kernel : kitB "str" "str" = some true)
theorem kt_str_tuple (x : Str) : kitB (tyN (.str x)) "tuple" = some false := (by decide +kernel : kitB "str" "tuple" = some false)
theorem kt_str_list (x : Str) : kitB (tyN (.str x)) "list" = some false := (by decide +kernel : kitB "str" "list" = some false)
theorem kt_str_bool (x : Str) : kitB (tyN (.str x)) "bool" = some false := (by decide +kernel : kitB "str" "bool" = some false)
theorem kt_str_dict (x : Str) : kitB (tyN (.str x)) "dict" = some false := (by decide +kernel : kitB "str" "dict" = some false)
theorem kt_str_int (x : Str) : kitB (tyN (.str x)) "int" = some false := (by decide +kernel : kitB "str" "int" = some false)
theorem kt_str_tl (x : Str) : kit2 (tyN (.str x)) "tuple" "list" = some false := (by decide +kernel : kit2 "str" "tuple" "list" = some false)
theorem kt_str_tld (x : Str) : kit3 (tyN (.str x)) "tuple" "list" "dict" = some false := (by decide +kernel : kit3 "str" "tuple" "list" "dict" = some false)
theorem kt_tup_str (x : List PyData) : kitB (tyN (.tuple x)) "str" = some false := (by decide +kernel : kitB "tuple" "str" = some false)
theorem kt_tup_tuple (x : List PyData) : kitB (tyN (.tuple x)) "tuple" = some true := (by decide +kernel : kitB "tuple" "tuple" = some true)
theorem kt_tup_list (x : List PyData) : kitB (tyN (.tuple x)) "list" = some false := (by decide +kernel : kitB "tuple" "list" = some false)
theorem kt_tup_bool (x : List PyData) : kitB (tyN (.tuple x)) "bool" = some false := (by decide +kernel : kitB "tuple" "bool" = some false)
theorem kt_tup_dict (x : List PyData) : kitB (tyN (.tuple x)) "dict" = some false := (by decide +kernel : kitB "tuple" "dict" = some false)
theorem kt_tup_int (x : List PyData) : kitB (tyN (.tuple x)) "int" = some false := (by decide +kernel : kitB "tuple" "int" = some false)
theorem kt_tup_tl (x : List PyData) : kit2 (tyN (.tuple x)) "tuple" "list" = some true := (by decide +kernel : kit2 "tuple" "tuple" "list" = some true)
theorem kt_tup_tld (x : List PyData) : kit3 (tyN (.tuple x)) "tuple" "list" "dict" = some true := (by decide +kernel : kit3 "tuple" "tuple" "list" "dict" = some true)
theorem kt_lst_str (x : List PyData) : kitB (tyN (.list x)) "str" = some false := (by decide +kernel : kitB "list" "str" = some false)
theorem kt_lst_tuple (x : List PyData) : kitB (tyN (.list x)) "tuple" = some false := (by decide +kernel : kitB "list" "tuple" = some false)
theorem kt_lst_list (x : List PyData) : kitB (tyN (.list x)) "list" = some true := (by decide +kernel : kitB "list" "list" = some true)
theorem kt_lst_bool (x : List PyData) : kitB (tyN (.list x)) "bool" = some false := (by decide +kernel : kitB "list" "bool" = some false)
theorem kt_lst_dict (x : List PyData) : kitB (tyN (.list x)) "dict" = some false := (by decide +kernel : kitB "list" "dict" = some false)
theorem kt_lst_int (x : List PyData) : kitB (tyN (.list x)) "int" = some false := (by decide +kernel : kitB "list" "int" = some false)
theorem kt_lst_tl (x : List PyData) : kit2 (tyN (.list x)) "tuple" "list" = some true := (by decide +kernel : kit2 "list" "tuple" "list" = some true)
theorem kt_lst_tld (x : List PyData) : kit3 (tyN (.list x)) "tuple" "list" "dict" = some true := (by decide +kernel : kit3 "list" "tuple" "list" "dict" = some true)
theorem kt_int_str (x : Int) : kitB (tyN (.int x)) "str" = some false := (by decide +kernel : kitB "int" "str" = some false)
theorem kt_int_tuple (x : Int) : kitB (tyN (.int x)) "tuple" = some false := (by decide +kernel : kitB "int" "tuple" = some false)
theorem kt_int_list (x : Int) : kitB (tyN (.int x)) "list" = some false := (by decide +kernel : kitB "int" "list" = some false)
theorem kt_int_bool (x : Int) : kitB (tyN (.int x)) "bool" = some false := (by decide +kernel : kitB "int" "bool" = some false)
theorem kt_int_dict (x : Int) : kitB (tyN (.int x)) "dict" = some false := (by decide +kernel : kitB "int" "dict" = some false)
theorem kt_int_int (x : Int) : kitB (tyN (.int x)) "int" = some true := (by decide +kernel : kitB "int" "int" = some true)
theorem kt_int_tl (x : Int) : kit2 (tyN (.int x)) "tuple" "list" = some false := (by decide +kernel : kit2 "int" "tuple" "list" = some false)
theorem kt_int_tld (x : Int) : kit3 (tyN (.int x)) "tuple" "list" "dict" = some false := (by decide +kernel : kit3 "int" "tuple" "list" "dict" = some false)
theorem kt_bl_str (x : Bool) : kitB (tyN (.bool x)) "str" = some false := (by decide +kernel : kitB "bool" "str" = some false)
theorem kt_bl_tuple (x : Bool) : kitB (tyN (.bool x)) "tuple" = some false := (by decide +kernel : kitB "bool" "tuple" = some false)
theorem kt_bl_list (x : Bool) : kitB (tyN (.bool x)) "list" = some false := (by decide +kernel : kitB "bool" "list" = some false)
theorem kt_bl_bool (x : Bool) : kitB (tyN (.bool x)) "bool" = some true := (by decide +kernel : kitB "bool" "bool" = some true)
theorem kt_bl_dict (x : Bool) : kitB (tyN (.bool x)) "dict" = some false := (by decide +kernel : kitB "bool" "dict" = some false)
theorem kt_bl_int (x : Bool) : kitB (tyN (.bool x)) "int" = some true := (by decide +kernel : kitB "bool" "int" = some true)
theorem kt_bl_tl (x : Bool) : kit2 (tyN (.bool x)) "tuple" "list" = some false := (by decide +kernel : kit2 "bool" "tuple" "list" = some false)
theorem kt_bl_tld (x : Bool) : kit3 (tyN (.bool x)) "tuple" "list" "dict" = some false := (by decide +kernel : kit3 "bool" "tuple" "list" "dict" = some false)
theorem kt_non_str  : kitB (tyN (.none)) "str" = some false := by decide +kernel
theorem kt_non_tuple  : kitB (tyN (.none)) "tuple" = some false := by decide +kernel
theorem kt_non_list  : kitB (tyN (.none)) "list" = some false := by decide +kernel
theorem kt_non_bool  : kitB (tyN (.none)) "bool" = some false := by decide +kernel
theorem kt_non_dict  : kitB (tyN (.none)) "dict" = some false := by decide +kernel
theorem kt_non_int  : kitB (tyN (.none)) "int" = some false := by decide +kernel
theorem kt_non_tl  : kit2 (tyN (.none)) "tuple" "list" = some false := (by decide +kernel : kit2 "NoneType" "tuple" "list" = some false)
theorem kt_non_tld  : kit3 (tyN (.none)) "tuple" "list" "dict" = some false := (by decide +kernel : kit3 "NoneType" "tuple" "list" "dict" = some false)
end G

set_option Elab.async false
set_option linter.all false
set_option autoImplicit false
set_option maxRecDepth 100000
namespace G
open PySem L2
section
variable {K : PySem.W.Frag} {W0 W W' W1 : Wd} {σ : L2.St} {Γ : Gm} {D : Ends} {A : AE} {ta tb te : TE} {t u : TS} {tt : TT}
/-- x[n] = e, x a list of the def's own -/
theorem go_setL {i n : Nat} {xs : List PyData} (hi : Γ[i]? = some (.l xs)) (hn : n < xs.length) (h : wpE K W0 te Γ fun d => A.nx (Γ.set i (.l (xs.set n d)))) : go K W0 (tAsg te (gSub (tVar i) (tC (.int (n : Int))) rSetL)) Γ A := fun W σ D S c =>
  h W σ S _ fun v W1 d e1 f1 p => by
    have S1 := S.mono e1
    obtain ⟨a, vs, g1, g2, g3, g4, g5, g6⟩ := S1.varL hi
    have lf := e1.ok.mutLf (o' := .lst (vs.set n v)) g5 trivial g3 g4
    refine ⟨_, g1, a, vs, n, n, rfl, rfl, g5, ?_, c.nx _ ⟨W1.Fz, W1.B, upd W1.H a (.lst (vs.set n v))⟩ σ ((e1.lf S.ok).trans lf) (S1.mutL hi g1 g2 g3 g4 g5 lf (Dfs.mono lf _ _ (Dfs.set n f1 g6))) p⟩
    have hl : n < vs.length := by rw [g6.length]; exact hn
    unfold ixN
    simp
    omega
/-- a call whose first argument is a list of the def's own, which comes back as it was: the result is a truth -/
theorem wpE_callV {pre : List PyData → Prop} {post : List PyData → Rs → Prop} {E : XK} {t : TA} {P : PyData → Prop} {i : Nat} {xs : List PyData} (hi : Γ[i]? = some (.l xs))
    (h : wpA K W0 t Γ fun ds => pre (.list xs :: ds) ∧ ∀ r, post (.list xs :: ds) r → ∃ b, r = .d (.bool b) ∧ P (.bool b)) : wpE K W0 (tCall (spF K pre post) [] E (tCons (tVar i) t)) Γ P := fun W σ S Q k => by
  obtain ⟨a, vs, g1, g2, g3, g4, g5, g6⟩ := S.varL hi
  refine ⟨_, g1, h W σ S _ fun us W1 ds e1 f1 ⟨hp, hq⟩ => ?_⟩
  have S1 := S.mono e1
  have h5 := e1.ex _ _ g5 g4
  have n1 : ¬ W1.Fz a := fun z => by
    have := e1.nf a z g3
    rw [g5] at this
    cases this
  have n2 : ¬ W1.B a := fun z => by
    have := e1.nb a z g4
    rw [g5] at this
    cases this
  have okf : Ok ⟨fun b => W1.Fz b ∨ b = a, W1.B, W1.H⟩ := ⟨fun b hb => hb.elim (e1.ok.fz b) (fun e => by rw [e, h5]; exact fun z => nomatch z), e1.ok.bx, fun b hb => hb.elim (e1.ok.fb b) (fun e => by rw [e]; exact n2)⟩
  have lf : Lf W1 ⟨fun b => W1.Fz b ∨ b = a, W1.B, W1.H⟩ := ⟨okf, fun b hb => .inl hb, fun b hb => hb, fun b o q _ => q⟩
  have f6 : Dfs K ⟨fun b => W1.Fz b ∨ b = a, W1.B, W1.H⟩ vs xs := Dfs.mono lf _ _ (Dfs.mono (e1.lf S.ok) _ _ g6)
  refine ⟨⟨fun b => W1.Fz b ∨ b = a, W1.B, W1.H⟩, .list xs :: ds, rfl, okf, ?_, hp, fun v W2 r e2 r2 hr => ?_⟩
  · rw [List.append_nil]
    exact .cons (.lst (.inl ⟨.inl h5, .inr rfl⟩) f6) (Dfs.mono lf _ _ f1)
  · obtain ⟨b, rfl, p⟩ := hq _ hr
    have ev : v = .bl b := Df.bool_inv r2
    subst ev
    have e3 : Le W1 ⟨fun b => W2.Fz b ∧ b ≠ a, W2.B, W2.H⟩ := {
      ok := ⟨fun b hb => e2.ok.fz b hb.1, e2.ok.bx, fun b hb => e2.ok.fb b hb.1⟩
      fz := fun b hb => ⟨e2.fz b (.inl hb), fun e => n1 (e ▸ hb)⟩
      b := e2.b
      ex := e2.ex
      nf := fun b hb n => e2.nf b hb.1 fun z => z.elim n hb.2
      nb := e2.nb }
    exact k _ ⟨fun b => W2.Fz b ∧ b ≠ a, W2.B, W2.H⟩ _ (e1.trans e3) (.bl b) p
theorem Sat.setNw {v : V} {ds : List PyData} (S : Sat K W0 W σ Γ) (e : Le W W') (n : Nw K W W' v ds) (i : Nat) : Sat K W0 W' (σ.set i (some v)) (Γ.set i (.l ds)) := by
  obtain ⟨a, vs, rfl, h2, h3, h4, h5, h6⟩ := n
  refine (S.mono e).set i (show SlOk K W0 W' (some (.ref a)) (.l ds) from ⟨a, vs, rfl, S.le.fresh h2, h3, h4, h5, h6⟩) fun _ j t b _ hj ot hσ q => ?_
  cases q
  exact S.there hj ot hσ h2
/-- x, y = xs, [] -/
theorem go_parLL {i j : Nat} (h : wpN K W0 ta Γ fun xs => A.nx ((Γ.set i (.l xs)).set j (.l []))) : go K W0 (tPar i j (tCons ta (tCons (tLst tNil) tNil))) Γ A := fun W σ D S c =>
  h W σ S _ fun v W1 xs e n p => ⟨Nat.zero_le _, fun q hq => ⟨v, .ref q, rfl, by
    obtain ⟨e2, n2⟩ := e.ok.newL hq .nil
    exact c.nx _ _ _ ((e.trans e2).lf S.ok) ((S.setNw e n i).setNw e2 n2 j) p⟩⟩
/-- x, y = e, [] -/
theorem go_parDL {i j : Nat} (h : wpE K W0 ta Γ fun d => A.nx ((Γ.set i (.d d)).set j (.l []))) : go K W0 (tPar i j (tCons ta (tCons (tLst tNil) tNil))) Γ A := fun W σ D S c =>
  h W σ S _ fun v W1 d e f p => ⟨Nat.zero_le _, fun q hq => ⟨v, .ref q, rfl, by
    obtain ⟨e2, n2⟩ := e.ok.newL hq .nil
    exact c.nx _ _ _ ((e.trans e2).lf S.ok) (((S.mono e).setD i f).setNw e2 n2 j) p⟩⟩
theorem Lv.fz {v : V} {ds : List PyData} (ok : Ok W) (h : Lv K W v ds) : ∃ W2, W2.H = W.H ∧ Lf W W2 ∧ Df K W2 v (.list ds) := by
  obtain ⟨a, vs, rfl, h, q⟩ := h
  have okf : Ok ⟨fun b => W.Fz b ∨ (b = a ∧ ¬ W.B a ∧ W.H a ≠ none), W.B, W.H⟩ := ⟨fun b hb => hb.elim (ok.fz b) fun e => by rw [e.1]; exact e.2.2, ok.bx, fun b hb => hb.elim (ok.fb b) fun e => by rw [e.1]; exact e.2.1⟩
  have lf : Lf W ⟨fun b => W.Fz b ∨ (b = a ∧ ¬ W.B a ∧ W.H a ≠ none), W.B, W.H⟩ := ⟨okf, fun b hb => .inl hb, fun b hb => hb, fun b o q _ => q⟩
  refine ⟨⟨fun b => W.Fz b ∨ (b = a ∧ ¬ W.B a ∧ W.H a ≠ none), W.B, W.H⟩, rfl, lf, .lst (h.imp (fun h => ⟨h.1, .inr ⟨rfl, h.2, ?_⟩⟩) id) (Dfs.mono lf _ _ q)⟩
  rcases h.1 with g | ⟨o, g⟩ <;> rw [g] <;> exact fun z => nomatch z
theorem eqv_nil (xs : List PyData) : PyData.eqv (.list xs) (.list []) = xs.isEmpty := by
  cases xs with
  | nil => rfl
  | cons x xs => simp [PyData.eqv, PyData.eqvAll]
def Lay (xs : List PyData) : Prop := ∀ d ∈ xs, d.canLay0 = true ∧ d.depth ≤ 60
theorem Lay.sh {xs : List PyData} (h : Lay xs) : SeqAt.shaped (.list xs) = true := shaped_list 60 (by decide) h
theorem opLR_neNil {xs : List PyData} {P : PyData → Prop} (hx : Lay xs) (p : P (.bool (!xs.isEmpty))) : opLR K (rNeD K) xs (.list []) P := fun W v u ok f1 f2 Q k => by
  obtain ⟨W2, h1, lf, f⟩ := f1.fz ok
  have d1 := Df.dp _ _ (SeqAt.canLay_of_shaped hx.sh) f
  rw [h1] at d1
  refine ⟨.list xs, .list [], d1, Df.dp _ _ (SeqAt.canLay_of_shaped (Lay.sh fun _ h => nomatch h)) f2, hx.sh, Lay.sh fun _ h => (nomatch h), k _ W (.bool _) (.refl ok) (.bl _) ?_⟩
  rw [eqv_nil]
  exact p
theorem opLR_eqNil {xs : List PyData} {P : PyData → Prop} (hx : Lay xs) (p : P (.bool xs.isEmpty)) : opLR K (rEqD K) xs (.list []) P := fun W v u ok f1 f2 Q k => by
  obtain ⟨W2, h1, lf, f⟩ := f1.fz ok
  have d1 := Df.dp _ _ (SeqAt.canLay_of_shaped hx.sh) f
  rw [h1] at d1
  refine ⟨.list xs, .list [], d1, Df.dp _ _ (SeqAt.canLay_of_shaped (Lay.sh fun _ h => nomatch h)) f2, hx.sh, Lay.sh fun _ h => (nomatch h), k _ W (.bool _) (.refl ok) (.bl _) ?_⟩
  rw [eqv_nil]
  exact p
theorem opR_neNil {xs : List PyData} {P : PyData → Prop} (hx : Lay xs) (p : P (.bool (!xs.isEmpty))) : opR K (rNeD K) (.list xs) (.list []) P := fun W v u ok f1 f2 Q k => opLR_neNil hx p W v u ok (f1.lv ok) f2 Q k
theorem opR_eqNil {xs : List PyData} {P : PyData → Prop} (hx : Lay xs) (p : P (.bool xs.isEmpty)) : opR K (rEqD K) (.list xs) (.list []) P := fun W v u ok f1 f2 Q k => opLR_eqNil hx p W v u ok (f1.lv ok) f2 Q k
theorem ne_bl {a b : Bool} {P : PyData → Prop} (p : P (.bool (!(a == b)))) : opR K (rNeD K) (.bool a) (.bool b) P := opR_neD rfl rfl p
theorem Tx.sh {n : Nat} {x : Str} (h : Tx n x) : SeqAt.shaped (.str x) = true := by
  unfold SeqAt.shaped
  rw [h.ok, Bool.true_and]
  exact decide_eq_true (Nat.zero_le _)
theorem eq_str {n : Nat} {x : Str} {P : PyData → Prop} (h : Tx n x) (p : P (.bool true)) : opR K (rEqD K) (.str x) (.str x) P := opR_eqD h.sh h.sh (by
  rw [show PyData.eqv (.str x) (.str x) = true by simp [PyData.eqv]]
  exact p)
theorem atI_nn {α : Type} {xs : List α} {n : Nat} (h : n < xs.length) : atI xs (n : Int) = xs[n]? := by
  unfold atI ixN
  rw [if_pos (by omega), if_pos (by omega)]
  simp
theorem allTrue {ys : List PyData} (h : ∀ y ∈ ys, y = .bool true) : ys = (List.replicate ys.length true).map PyData.bool := by
  induction ys with
  | nil => rfl
  | cons y ys ih => rw [List.length_cons, List.replicate_succ, List.map_cons, ← ih fun z hz => h z (List.mem_cons_of_mem _ hz), h y List.mem_cons_self]
theorem all_rep (n : Nat) : (List.replicate n true).all id = true := by simp
/-- all(..) of what is true each time -/
theorem wpE_allTrue {P : PyData → Prop} (h : wpL K W0 te Γ fun ds => (∀ d ∈ ds, d = .bool true) ∧ P (.bool true)) : wpE K W0 (tCB (rAll K) (tCons te tNil)) Γ P := wpE_all fun W σ S Q k => h W σ S Q fun v W' ds e l ⟨hd, p⟩ => k v W' ds e l ⟨_, allTrue hd, by rw [all_rep]; exact p⟩
theorem go_setL0 {i : Nat} {xs : List PyData} (hi : Γ[i]? = some (.l xs)) (hn : 0 < xs.length) (h : wpE K W0 te Γ fun d => A.nx (Γ.set i (.l (xs.set 0 d)))) : go K W0 (tAsg te (gSub (tVar i) (tC (.int 0)) rSetL)) Γ A := go_setL (n := 0) hi hn h
/-- two statements, and what holds between them -/
theorem go_cut (M : Gm → Prop) (h : go K W0 t Γ { A with nx := M }) (k : ∀ Γ', M Γ' → go K W0 u Γ' A) : go K W0 (tSeq t u) Γ A := go_seq fun W σ D S c => h W σ D S ⟨fun Γ' W' σ' f S p => c.nx Γ' W' σ' f S (k Γ' p), c.rt, c.bk, c.ct⟩
end
end G

set_option Elab.async false
set_option linter.all false
set_option autoImplicit false
set_option maxRecDepth 100000
/-! G4: dicts: of the def's own (slots .k) and as data. -/
namespace G
open PySem L2
theorem hu1 {k : Nat} {B : Around} (hr : Room k B) : B.units + 1 < cLine := Nat.lt_of_le_of_lt (by omega) hr.un
def sameK : PyData → PyData → Bool
  | .int i, .int j => decide (i = j)
  | .str x, .str y => decide (x = y)
  | _, _ => false
theorem sameK_key (k l : Key) : sameK (keyD k) (keyD l) = decide (k = l) := by
  cases k <;> cases l <;> simp [sameK, keyD]
def getK (ds : List (PyData × PyData)) (k : PyData) : Option PyData := (ds.find? fun p => sameK p.1 k).map (·.2)
def putD (ds : List (PyData × PyData)) (k d : PyData) : List (PyData × PyData) :=
  if (ds.any fun p => sameK p.1 k) = true then ds.map (fun p => if sameK p.1 k = true then (p.1, d) else p) else ds ++ [(k, d)]
section
variable {K : PySem.W.Frag} {W0 W W' W1 : Wd} {σ : L2.St} {Γ : Gm} {D : Ends} {A : AE} {ta tb te tx ty tv : TE} {t u : TS} {tt : TT}
theorem Dps.length : ∀ {kvs : List (Key × V)} {ds : List (PyData × PyData)}, Dps K W kvs ds → kvs.length = ds.length
  | _, _, .nil => rfl
  | _, _, .cons _ t => by rw [List.length_cons, List.length_cons, Dps.length t]
theorem Dps.get {k : Key} : ∀ {kvs : List (Key × V)} {ds : List (PyData × PyData)}, Dps K W kvs ds → (valV kvs k = none ∧ getK ds (keyD k) = none) ∨ ∃ v d, valV kvs k = some v ∧ getK ds (keyD k) = some d ∧ Df K W v d
  | _, _, .nil => .inl ⟨rfl, rfl⟩
  | _, _, @Dps.cons _ _ l v kvs d ds h t => by
    unfold valV getK
    rw [List.find?_cons, List.find?_cons, sameK_key]
    by_cases e : l = k
    · simp only [decide_eq_true e]
      exact .inr ⟨v, d, rfl, rfl, h⟩
    · simp only [decide_eq_false e]
      exact Dps.get t
theorem Dps.any {k : Key} : ∀ {kvs : List (Key × V)} {ds : List (PyData × PyData)}, Dps K W kvs ds → (kvs.any fun kv => decide (kv.1 = k)) = ds.any fun p => sameK p.1 (keyD k)
  | _, _, .nil => rfl
  | _, _, .cons h t => by rw [List.any_cons, List.any_cons, Dps.any t, sameK_key]
theorem Dps.append : ∀ {kvs lvs : List (Key × V)} {ds es : List (PyData × PyData)}, Dps K W kvs ds → Dps K W lvs es → Dps K W (kvs ++ lvs) (ds ++ es)
  | _, _, _, _, .nil, s => s
  | _, _, _, _, .cons h t, s => .cons h (Dps.append t s)
theorem Dps.put1 {k : Key} {v : V} {d : PyData} (f : Df K W v d) : ∀ {kvs : List (Key × V)} {ds : List (PyData × PyData)}, Dps K W kvs ds → Dps K W (kvs.map fun kv => if kv.1 = k then (kv.1, v) else kv) (ds.map fun p => if sameK p.1 (keyD k) = true then (p.1, d) else p)
  | _, _, .nil => .nil
  | _, _, @Dps.cons _ _ l u kvs e ds h t => by
    rw [List.map_cons, List.map_cons, sameK_key]
    by_cases q : l = k
    · rw [if_pos q, if_pos (decide_eq_true q)]
      exact .cons f (Dps.put1 f t)
    · rw [if_neg q, if_neg (by rw [decide_eq_false q]; exact Bool.false_ne_true)]
      exact .cons h (Dps.put1 f t)
theorem Dps.put {k : Key} {v : V} {d : PyData} (f : Df K W v d) {kvs : List (Key × V)} {ds : List (PyData × PyData)} (h : Dps K W kvs ds) : Dps K W (putK kvs k v) (putD ds (keyD k) d) := by
  unfold putK putD
  rw [h.any]
  split
  · exact h.put1 f
  · exact h.append (.cons f .nil)
theorem Dps.keys : ∀ {kvs : List (Key × V)} {ds : List (PyData × PyData)}, Dps K W kvs ds → Dfs K W (kvs.map fun kv => kV kv.1) (ds.map (·.1))
  | _, _, .nil => .nil
  | _, _, @Dps.cons _ _ l _ _ _ _ h t => by
    refine .cons ?_ (Dps.keys t)
    cases l with
    | inl i => exact .int i
    | inr x => exact .str x
theorem Df.key_inv {v : V} {k : Key} (h : Df K W v (keyD k)) : v = kV k := by
  cases k with
  | inl i => exact h.int_inv
  | inr x => exact h.str_inv
/-- x = {} -/
theorem go_dnew {i : Nat} (p : A.nx (Γ.set i (.k []))) : go K W0 (tAsg tDNewK (gName i)) Γ A := fun W σ D S c => fun q hq => by
  have e := S.ok.new (u := .dK []) hq
  refine c.nx _ ⟨W.Fz, W.B, upd W.H q (.dK [])⟩ _ (e.lf S.ok) ((S.mono e).set i (show SlOk K W0 ⟨W.Fz, W.B, upd W.H q (.dK [])⟩ (some (.ref q)) (.k []) from ⟨q, [], rfl, S.le.fresh hq, fun f => S.ok.fz q f hq, fun f => ?_, upd_same, .nil⟩) fun _ j t b _ hj ot hσ z => ?_) p
  · obtain ⟨_, _, _, z⟩ := S.ok.bx q f
    rw [hq] at z
    cases z
  · cases z
    exact S.there hj ot hσ hq
/-- x[k] = e -/
theorem go_dput {i : Nat} {ds : List (PyData × PyData)} (hi : Γ[i]? = some (.k ds)) (h : wpE K W0 tv Γ fun d => wpE K W0 ty Γ fun y => ∃ k, y = keyD k ∧ ds.length < 10000000 ∧ A.nx (Γ.set i (.k (putD ds y d)))) : go K W0 (sDPut (tVar i) ty tv) Γ A := fun W σ D S c =>
  h W σ S _ fun v W1 d e1 f1 h1 => by
    have S1 := S.mono e1
    obtain ⟨a, kvs, g1, _⟩ := S1.varK hi
    refine ⟨_, g1, h1 W1 σ S1 _ fun y W2 dy e2 f2 ⟨k, ek, hl, p⟩ => ?_⟩
    have hsz : sizeLine = 16777216 := sizeLine_eq
    have S2 := S1.mono e2
    obtain ⟨a', kvs', i1, i2, i3, i4, i5, i6⟩ := S2.varK hi
    rw [g1] at i1
    cases i1
    subst ek
    cases f2.key_inv
    have lf := e2.ok.mutLf (o' := .dK (putK kvs' k v)) i5 trivial i3 i4
    exact ⟨a, _, rfl, DPut.k i5 (by rw [i6.length]; omega), c.nx _ ⟨W2.Fz, W2.B, upd W2.H a (.dK (putK kvs' k v))⟩ σ (((e1.trans e2).lf S.ok).trans lf) (S2.mutK hi g1 i2 i3 i4 i5 lf (Dps.mono lf _ _ (Dps.put (Df.mono (e2.lf e1.ok) _ _ f1) i6))) p⟩
abbrev rListK : List V → Hp → VK → Prop := fun xs H Q => ∃ (a : Addr) (kvs : List (Key × V)), xs = [.ref a] ∧ Rd H a (.dK kvs) ∧ ∀ p, H p = none → Q (.ref p) (upd H p (.lst (kvs.map fun kv => kV kv.1)))
/-- list(x), x a dict of the def's own -/
theorem wpN_listK {i : Nat} {ds : List (PyData × PyData)} {P : List PyData → Prop} (hi : Γ[i]? = some (.k ds)) (p : P (ds.map (·.1))) : wpN K W0 (tCB rListK (tCons (tVar i) tNil)) Γ P := fun W σ S Q k => by
  obtain ⟨a, kvs, g1, g2, g3, g4, g5, g6⟩ := S.varK hi
  refine ⟨_, g1, a, kvs, rfl, .inl g5, fun q hq => ?_⟩
  obtain ⟨e, f⟩ := S.ok.newL hq g6.keys
  exact k _ _ _ e f p
/-- x.get(k, e), x a dict of the def's own -/
theorem wpE_getK {i : Nat} {ds : List (PyData × PyData)} {P : PyData → Prop} (hi : Γ[i]? = some (.k ds)) (h : wpE K W0 ty Γ fun y => wpE K W0 tx Γ fun z => ∃ k, y = keyD k ∧ P ((getK ds y).getD z)) : wpE K W0 (tDGet2 (tVar i) ty tx) Γ P := fun W σ S Q k => by
  obtain ⟨a, kvs, g1, g2, g3, g4, g5, g6⟩ := S.varK hi
  refine ⟨_, g1, a, rfl, .inl ⟨kvs, .inl g5⟩, h W σ S _ fun y W1 dy e1 f1 h1 => h1 W1 σ (S.mono e1) _ fun z W2 dz e2 f2 ⟨l, el, p⟩ => ?_⟩
  subst el
  cases f1.key_inv
  obtain ⟨a', kvs', i1, i2, i3, i4, i5, i6⟩ := (S.mono (e1.trans e2)).varK hi
  rw [g1] at i1
  cases i1
  refine ⟨_, DGet.k i5, ?_⟩
  rcases i6.get (k := l) with ⟨q1, q2⟩ | ⟨v, d, q1, q2, q3⟩
  · rw [q1]
    rw [q2] at p
    exact k _ _ _ (e1.trans e2) f2 p
  · rw [q1]
    rw [q2] at p
    exact k _ _ _ (e1.trans e2) q3 p
/-- d.get(k, e), d data -/
theorem wpE_getD {P : PyData → Prop} (h : wpE K W0 ta Γ fun x => ∃ ds, x = .dict ds ∧ isTag ds = false ∧ wpE K W0 ty Γ fun y => wpE K W0 tx Γ fun z => ∃ k, y = keyD k ∧ P ((getK ds y).getD z)) : wpE K W0 (tDGet2 ta ty tx) Γ P := fun W σ S Q k => h W σ S _ fun v W1 x e1 f1 ⟨ds, ex, nb, h1⟩ => by
  subst ex
  generalize ed : PyData.dict ds = dd at f1
  cases f1 with
  | bx _ =>
    cases ed
    cases nb
  | pt _ _ _ =>
    cases ed
    cases nb
  | ob _ _ _ =>
    cases ed
    cases nb
  | dt _ _ _ =>
    cases ed
    cases nb
  | rf =>
    cases ed
    cases nb
  | non => cases ed
  | bl _ => cases ed
  | int _ => cases ed
  | str _ => cases ed
  | lst _ _ => cases ed
  | tup _ _ => cases ed
  | @dct a kvs ds' q fz f =>
    cases ed
    refine ⟨a, rfl, .inl ⟨kvs, q⟩, h1 W1 σ (S.mono e1) _ fun y W2 dy e2 f2 h2 => h2 W2 σ (S.mono (e1.trans e2)) _ fun z W3 dz e3 f3 ⟨l, el, p⟩ => ?_⟩
    subst el
    cases f2.key_inv
    have lf := (e2.trans e3).lf e1.ok
    refine ⟨_, .inl ⟨kvs, l, lf.rdL q fz, rfl, rfl⟩, ?_⟩
    rcases (Dps.mono lf _ _ f).get (k := l) with ⟨q1, q2⟩ | ⟨v, d, q1, q2, q3⟩
    · rw [q1]
      rw [q2] at p
      exact k _ _ _ ((e1.trans e2).trans e3) f3 p
    · rw [q1]
      rw [q2] at p
      exact k _ _ _ ((e1.trans e2).trans e3) q3 p
end
/-- a new dict -/
def NwK (K : PySem.W.Frag) (W W' : Wd) (v : V) (ds : List (PyData × PyData)) : Prop := ∃ p kvs, v = .ref p ∧ W.H p = none ∧ ¬ W'.Fz p ∧ ¬ W'.B p ∧ W'.H p = some (.dK kvs) ∧ Dps K W' kvs ds
def wpK (K : PySem.W.Frag) (W0 : Wd) (te : TE) (Γ : Gm) (P : List (PyData × PyData) → Prop) : Prop := ∀ W σ, Sat K W0 W σ Γ → ∀ Q : VK, (∀ v W' ds, Le W W' → NwK K W W' v ds → P ds → Q v W'.H) → te σ W.H Q
section
variable {K : PySem.W.Frag} {W0 W W' W1 : Wd} {σ : L2.St} {Γ : Gm} {D : Ends} {A : AE} {ta tb te tx ty tv tk : TE} {t u : TS} {tt : TT}
theorem Sat.setNwK {v : V} {ds : List (PyData × PyData)} (S : Sat K W0 W σ Γ) (e : Le W W') (n : NwK K W W' v ds) (i : Nat) : Sat K W0 W' (σ.set i (some v)) (Γ.set i (.k ds)) := by
  obtain ⟨a, vs, rfl, h2, h3, h4, h5, h6⟩ := n
  refine (S.mono e).set i (show SlOk K W0 W' (some (.ref a)) (.k ds) from ⟨a, vs, rfl, S.le.fresh h2, h3, h4, h5, h6⟩) fun _ j t b _ hj ot hσ q => ?_
  cases q
  exact S.there hj ot hσ h2
/-- x = a new dict -/
theorem go_asgK {i : Nat} (h : wpK K W0 te Γ fun ds => A.nx (Γ.set i (.k ds))) : go K W0 (tAsg te (gName i)) Γ A := fun W σ D S c =>
  h W σ S _ fun v W' ds e n p => c.nx _ W' _ (e.lf S.ok) (S.setNwK e n i) p
/-- a new dict becomes data -/
theorem NwK.freeze {v : V} {ds : List (PyData × PyData)} (e : Le W W') (h : NwK K W W' v ds) : ∃ W2, W2.H = W'.H ∧ Le W W2 ∧ Df K W2 v (.dict ds) := by
  obtain ⟨p, vs, rfl, h2, h3, h4, h5, h6⟩ := h
  have ok' : Ok ⟨fun b => W'.Fz b ∨ b = p, W'.B, W'.H⟩ := ⟨fun b hb => hb.elim (e.ok.fz b) (fun e => by rw [e, h5]; exact fun z => nomatch z), e.ok.bx, fun b hb => hb.elim (e.ok.fb b) (fun e => by rw [e]; exact h4)⟩
  have lf : Lf W' ⟨fun b => W'.Fz b ∨ b = p, W'.B, W'.H⟩ := ⟨ok', fun b hb => .inl hb, fun b hb => hb, fun b o q _ => q⟩
  refine ⟨⟨fun b => W'.Fz b ∨ b = p, W'.B, W'.H⟩, rfl, ⟨ok', fun b hb => .inl (e.fz b hb), e.b, e.ex, fun b hb n => ?_, e.nb⟩, .dct (.inl h5) (.inr rfl) (Dps.mono lf _ _ h6)⟩
  rcases hb with hb | rfl
  · exact e.nf b hb n
  · exact h2
theorem wpE_of_K {P : PyData → Prop} (h : wpK K W0 te Γ fun ds => P (.dict ds)) : wpE K W0 te Γ P := fun W σ S Q k => h W σ S Q fun v W' ds e n p => by
  obtain ⟨W2, h1, h2, h3⟩ := n.freeze e
  rw [← h1]
  exact k v W2 _ h2 h3 p
theorem Ok.newK (o : Ok W) {p : Addr} {kvs : List (Key × V)} {ds : List (PyData × PyData)} (h : W.H p = none) (f : Dps K W kvs ds) : Le W ⟨W.Fz, W.B, upd W.H p (.dK kvs)⟩ ∧ NwK K W ⟨W.Fz, W.B, upd W.H p (.dK kvs)⟩ (.ref p) ds := by
  have e := o.new (u := .dK kvs) h
  refine ⟨e, p, kvs, rfl, h, fun f => o.fz p f h, fun f => ?_, upd_same, Dps.mono (e.lf o) _ _ f⟩
  obtain ⟨_, _, _, z⟩ := o.bx p f
  rw [h] at z
  cases z
/-- {k: v for target in ..}: key and value told by functions -/
theorem wpK_dc {wi : TI} {g : TG} {vs : List Nat} {P : List (PyData × PyData) → Prop} (kf vf : PyData → PyData)
    (h : wpIc K W0 wi Γ fun ds => ds.length < 10000000 ∧ (∀ d, d ∈ ds → wpG K W0 vs g d (wipeG Γ vs) fun Γ' => wpE K W0 tk Γ' fun y => y = kf d ∧ (∃ k, y = keyD k) ∧ wpE K W0 tv Γ' fun z => z = vf d) ∧ P (ds.foldl (fun acc d => putD acc (kf d) (vf d)) [])) : wpK K W0 (tDc wi g tYes tk tv vs) Γ P := fun W σ S Q k => h W σ S _ fun W1 J ds e1 it ⟨hz, hs, hp⟩ => by
  intro D hD
  have hsz : sizeLine = 16777216 := sizeLine_eq
  have S1 := S.mono e1
  obtain ⟨n1, n2⟩ := Ok.newK (K := K) (ds := []) (kvs := []) e1.ok hD .nil
  have ln : ∀ (l acc : List (PyData × PyData)) (x y : PyData), (putD acc x y).length ≤ acc.length + 1 := fun l acc x y => by
    unfold putD
    split
    · rw [List.length_map]
      omega
    · rw [List.length_append]
      exact Nat.le_refl _
  refine ⟨fun i m H => m = ds.length - i ∧ i ≤ ds.length ∧ ∃ W2 acc us, W2.H = H ∧ Le W1 W2 ∧ ¬ W2.Fz D ∧ ¬ W2.B D ∧ H D = some (.dK us) ∧ Dps K W2 us acc ∧ acc = (ds.take i).foldl (fun acc d => putD acc (kf d) (vf d)) [] ∧ acc.length ≤ i, ⟨ds.length, by simp, Nat.zero_le _, _, [], [], rfl, n1, ?_, ?_, upd_same, .nil, rfl, Nat.le_refl _⟩, ?_⟩
  · exact fun z => e1.ok.fz D z hD
  · intro z
    obtain ⟨_, _, _, e⟩ := e1.ok.bx D z
    rw [hD] at e
    cases e
  · rintro i m H ⟨rfl, hi, W2, acc, us, rfl, e2, nf, nb, hl, hf, hI, hal⟩
    by_cases hlt : i < ds.length
    · refine .inr ⟨it.go W2 i e2 hlt, fun H' => ∃ W2 acc us, W2.H = H' ∧ Le W1 W2 ∧ ¬ W2.Fz D ∧ ¬ W2.B D ∧ H' D = some (.dK us) ∧ Dps K W2 us acc ∧ acc = (ds.take (i + 1)).foldl (fun acc d => putD acc (kf d) (vf d)) [] ∧ acc.length ≤ i + 1, fun H' q => ⟨ds.length - (i + 1), by omega, rfl, hlt, q⟩, fun x H' hy => ?_⟩
      obtain ⟨W3, rfl, e3, f3⟩ := it.yld W2 i x H' ds[i] e2 e2.ok (List.getElem?_eq_getElem hlt) hy
      have S3 : Sat K W0 W3 (wipe σ vs) (wipeG Γ vs) := (S1.mono (e2.trans e3)).wipe vs
      have keep : ∀ W', Le W2 W' → ¬ W'.Fz D ∧ ¬ W'.B D ∧ W'.H D = some (.dK us) := fun W' e => ⟨fun z => (by
        have := e.nf D z nf
        rw [hl] at this
        cases this), fun z => (by
        have := e.nb D z nb
        rw [hl] at this
        cases this), e.ex D _ hl nb⟩
      refine hs ds[i] (List.getElem_mem hlt) W3 _ S3 x f3 _ fun σ' Γ' W4 e4 S4 w4 ht => ⟨w4.trans (wipe_wipe fun _ h => h), ?_⟩
      show tk σ' W4.H _
      refine ht W4 σ' S4 _ fun y W5 d5 e5 f5 ⟨q1, ⟨kk, q2⟩, q3⟩ => q3 W5 σ' (S4.mono e5) _ fun z W6 d6 e6 f6 q6 => ?_
      have e26 : Le W2 W6 := ((e3.trans e4).trans e5).trans e6
      obtain ⟨k1, k2, k3⟩ := keep W6 e26
      subst q2
      cases f5.key_inv
      have lf := e6.ok.mutLf (o' := .dK (putK us kk z)) k3 trivial k1 k2
      refine ⟨us, kk, rfl, k3, by rw [hf.length]; omega, ⟨W6.Fz, W6.B, upd W6.H D (.dK (putK us kk z))⟩, putD acc (keyD kk) d6, putK us kk z, rfl, (e2.trans e26).mut k3 k2 hD, k1, k2, upd_same, Dps.mono lf _ _ (Dps.put f6 (Dps.mono (e26.lf e2.ok) _ _ hf)), ?_, Nat.le_trans (ln [] _ _ _) (by omega)⟩
      rw [take_succ (List.getElem?_eq_getElem hlt), List.foldl_append, ← hI, q1, q6]
      rfl
    · have e : i = ds.length := by omega
      subst e
      rw [List.take_length] at hI
      refine .inl ⟨it.stop W2 _ e2 (Nat.le_refl _), k _ W2 acc (e1.trans e2) ⟨D, us, rfl, e1.fresh hD, nf, nb, hl, hf⟩ ?_⟩
      rw [hI]
      exact hp
/-! backwards -/
theorem itd_rev {G : Wd → Prop} {a : Addr} {vs : List V} {ds : List PyData} (hG : ∀ W', G W' → SqL K W'.H a vs ∧ Dfs K W' vs ds) (hl : vs.length = ds.length) : ItD K G (Itv K a vs.length) ds.reverse where
  go := fun W2 i g hi => by
    rw [List.length_reverse] at hi
    exact ⟨by rw [hl]; exact hi, vs, vs[vs.length - 1 - i]'(by rw [hl]; omega), (hG W2 g).1, List.getElem?_eq_getElem _⟩
  stop := fun W2 i g hi => by
    rw [List.length_reverse] at hi
    show vs.length ≤ i
    rw [hl]
    exact hi
  yld := fun W2 i x H' d g ok hd ⟨e, y⟩ => by
    have hi : i < ds.length := by
      have := (List.getElem?_eq_some_iff.mp hd).1
      rwa [List.length_reverse] at this
    rw [List.getElem?_reverse hi] at hd
    obtain ⟨v, h1, h2⟩ := (hG W2 g).2.get hd
    have h3 := y vs (hG W2 g).1
    rw [hl, h1] at h3
    cases h3
    exact ⟨W2, e.symm, .refl ok, h2⟩
theorem wpI_rev {P : List PyData → Prop} (h : wpE K W0 te Γ fun d => ∃ ds, d = .list ds ∧ P ds.reverse) : wpI K W0 (iRev K (tCons te tNil)) Γ P := fun W σ S R k => h W σ S _ fun v W1 d e1 f1 ⟨ds, hd, p⟩ => by
  subst hd
  cases f1 with
  | @lst a vs _ q f =>
    have hG : ∀ W', Lf W1 W' → SqL K W'.H a vs ∧ Dfs K W' vs ds := fun W' g => ⟨q.elim (fun q => .inl (g.rdL q.1 q.2)) fun q => q _, Dfs.mono g _ _ f⟩
    exact ⟨a, vs, rfl, (hG W1 (.refl e1.ok)).1, k W1 _ _ e1 (itd_rev hG f.length) p⟩
end
end G

set_option Elab.async false
set_option linter.all false
set_option autoImplicit false
set_option maxRecDepth 100000
/-! G5: a comprehension that pops an own list; stars in tuples; what an own list holds. -/
namespace G
open PySem L2
/-! a dict comprehension that is put under a name -/
section
variable {X : Cx}
theorem swD {kx vx : Expr} {gs : List Comprehension} {sc : Scope} {p1 p2 : Pos} {y : Str} {ln : Nat} {en : PySem.Env} (h1 : en.scope.kind = .function) (h2 : en.scope.names.lookup y = some .local)
    (h3 : (p2.line == p1.line) = true) (h4 : (sc.names.any fun (a, b) => a == y && (b == .local || b == .cell)) = false) :
    swapsWith (.DictComp kx vx gs sc p1) (some (.Name y p2)) ln en = pure true := by
  have e1 : en.blockKind = .function := by
    unfold PySem.Env.blockKind
    rw [h1]
    rfl
  have e2 : en.kindOf y = some .local := h2
  unfold swapsWith
  simp only [e1, e2, h4, Expr.pos, h3]
  rfl
abbrev InBlk (X : Cx) (sc : Scope) (good : Cx → Prop) : Prop := ∀ (a : Shared) (b : Hp) (c : Addr) (d : List (Str × Addr)) (e : List Addr), good (X.blk a b sc (compEnvC sc d c X.env) e)
theorem ps_setDc {i : Nat} {y : Str} {p2 : Pos} {kx vx tg it : Expr} {fs : List Expr} {sc : Scope} {own : List (Str × Nat)} {p1 p3 : Pos} {wi : TI} {g : TG} {tt : TT} {tk tv : TE}
    (h1 : X.calm = true) (h2 : X.N.Nodup) (h3 : X.N[i]? = some y) (h4 : X.env.scope.names.lookup y = some .local)
    (h5 : swapsWith (.DictComp kx vx [⟨tg, it, fs, 0⟩] sc p1) (some (.Name y p2)) p3.line X.env = pure true) (h6 : PI X tg it wi) (h7 : BlkOk X.N X.env.scope sc own)
    (h8 : InBlk X sc fun Y => PG Y tg g) (h9 : InBlk X sc fun Y => PTs Y fs tt) (ha : InBlk X sc fun Y => PE Y kx tk) (hb : InBlk X sc fun Y => PE Y vx tv)
    (hc : ∀ z, foldedSetIterable it X.env z = pure z := by intro _; rfl) :
    PS X (.Assign [.Name y p2] (.DictComp kx vx [⟨tg, it, fs, 0⟩] sc p1) p3) (tAsg (tDc wi g tt tk tv (own.map (·.2))) (gName i)) := by
  refine ⟨fun pins s σ H D I h => ?_⟩
  have h : tDc wi g tt tk tv (own.map (·.2)) σ H (fun x Hx => gName i x σ Hx D.nx) := h
  rw [exec_Assign_Name_used _ _ _ _ h5]
  refine wpAny_bind (wpAny_standAt (wpAny_bind ?_))
  show wpAny _ X.A (do let _ ← comprehension (.DictComp kx vx [⟨tg, it, fs, 0⟩] sc p1) sc X.env (firstIterPos [⟨tg, it, fs, 0⟩] p1) newDict false (eval it X.env) (some (assign (.Name y p2) X.env))) _ _ s
  refine wpAny_bind (thn (dc_core (Qf := fun _ s9 => SP X pins D .next s9) h1 h2 I h6 h7 h8 h9 ha hb hc h fun L C s9 m H9 I9 q hn f => ?_) fun _ s9 hq => wpAny_pure (wpAny_pure hq))
  show wpAny _ _ (assign (.Name y p2) X.env (.ref L)) _ _ _
  refine wpAny_assign_Name (store_ok2 (v := V.ref L) I9 h2 h3 (.inl h4) rfl (fun s8 I8 ⟨a, sb, z⟩ => ?_) (.inr h4))
  obtain ⟨r0, r1, r2, r3, r4, r5⟩ := f
  have ne : C ≠ a := z.elim (fun z => by rw [z]; exact r1) fun z e => r4 y a z e.symm
  exact ⟨m, hn.sameBut sb ne, fun h3 sb3 => ⟨_, H9, I8.turned (t' := s8.toks) (fun b o hb e => (sb3.2 b hb).trans e) r0 r1 r3 r4 r5, q⟩⟩
end
section
variable {K : PySem.W.Frag} {W0 W W' W1 : Wd} {σ : L2.St} {Γ : Gm} {A : AE} {ta tb te tx ty tv tk : TE} {t u : TS} {tt : TT}
/-- a thing that no slot holds is changed -/
theorem Sat.mutNew (S : Sat K W0 W σ Γ) {D : Addr} {o o' : HO} (h : W.H D = some o) (h0 : W0.H D = none) (nb : ¬ W.B D) (lf : Lf W ⟨W.Fz, W.B, upd W.H D o'⟩)
    (ns : ∀ (i : Nat) (s : Sl), Γ[i]? = some s → s.own = true → σ[i]? ≠ some (some (.ref D))) : Sat K W0 ⟨W.Fz, W.B, upd W.H D o'⟩ σ Γ :=
  ⟨S.le.mut h nb h0, fun j s hj => by
    obtain ⟨o, q1, q2⟩ := S.sl j s hj
    refine ⟨o, q1, ?_⟩
    cases s with
    | no => cases o <;> trivial
    | d x =>
      cases o with
      | none => exact q2
      | some y => exact Df.mono lf _ _ q2
    | l ys =>
      cases o with
      | none => exact q2
      | some y =>
        obtain ⟨b, us, rfl, p2, p3, p4, p5, p6⟩ := q2
        have nb : b ≠ D := fun z => ns j _ hj rfl (by rw [q1, z])
        exact ⟨b, us, rfl, p2, p3, p4, by show upd W.H D _ b = _; rw [upd_ne nb]; exact p5, Dfs.mono lf _ _ p6⟩
    | k ys =>
      cases o with
      | none => exact q2
      | some y =>
        obtain ⟨b, us, rfl, p2, p3, p4, p5, p6⟩ := q2
        have nb : b ≠ D := fun z => ns j _ hj rfl (by rw [q1, z])
        exact ⟨b, us, rfl, p2, p3, p4, by show upd W.H D _ b = _; rw [upd_ne nb]; exact p5, Dps.mono lf _ _ p6⟩, S.sep⟩
/-- ys = [xs.pop() for _ in ..] -/
theorem go_popLc {i j n : Nat} {wi : TI} {xs : List PyData} (hin : i ≠ n) (hi : Γ[i]? = some (.l xs)) (hxs : xs.length ≤ 1000000)
    (h : wpI K W0 wi Γ fun ds => ds.length ≤ xs.length ∧ A.nx ((Γ.set i (.l (xs.take (xs.length - ds.length)))).set j (.l (xs.reverse.take ds.length)))) :
    go K W0 (tAsg (tLc wi (gName n) tYes (tBM0 K "list" rPop (tVar i)) [n]) (gName j)) Γ A := fun W σ D0 S c => h W σ S _ fun W1 J ds e1 it ⟨hz, p⟩ => by
  intro D hD
  have hsz : sizeLine = 16777216 := sizeLine_eq
  have S1 := S.mono e1
  obtain ⟨hlt0, hself⟩ := List.getElem?_eq_some_iff.mp hi
  have nsl : ∀ (ys : List PyData) (k : Nat) (s : Sl), (Γ.set i (.l ys))[k]? = some s → s.own = true → σ[k]? ≠ some (some (.ref D)) := fun ys k s hk ho hσ => by
    rcases get_set hk with ⟨e, _, _⟩ | ⟨_, g⟩
    · subst e
      exact S1.there hi rfl hσ hD
    · exact S1.there g ho hσ hD
  obtain ⟨n1, n2⟩ := e1.ok.newL (K := K) (ds := []) (vs := []) hD .nil
  refine ⟨fun k m H => m = ds.length - k ∧ k ≤ ds.length ∧ ∃ W2 us, W2.H = H ∧ Lf W1 W2 ∧ Sat K W0 W2 σ (Γ.set i (.l (xs.take (xs.length - k)))) ∧ ¬ W2.Fz D ∧ ¬ W2.B D ∧ H D = some (.lst us) ∧ Dfs K W2 us (xs.reverse.take k), ⟨ds.length, by simp, Nat.zero_le _, _, [], rfl, n1.lf e1.ok, ?_, ?_, ?_, upd_same, ?_⟩, ?_⟩
  · rw [Nat.sub_zero, List.take_length, ← hself, List.set_getElem_self]
    exact S1.mono n1
  · exact fun z => e1.ok.fz D z hD
  · intro z
    obtain ⟨_, _, _, e⟩ := e1.ok.bx D z
    rw [hD] at e
    cases e
  · rw [List.take_zero]
    exact .nil
  · rintro k m H ⟨rfl, hk, W2, us, rfl, f2, S2, nf, nb, hl, hf⟩
    by_cases hlt : k < ds.length
    · refine .inr ⟨it.go W2 k f2 hlt, fun H' => ∃ W2 us, W2.H = H' ∧ Lf W1 W2 ∧ Sat K W0 W2 σ (Γ.set i (.l (xs.take (xs.length - (k + 1))))) ∧ ¬ W2.Fz D ∧ ¬ W2.B D ∧ H' D = some (.lst us) ∧ Dfs K W2 us (xs.reverse.take (k + 1)), fun H' q => ⟨ds.length - (k + 1), by omega, rfl, hlt, q⟩, fun x H' hy => ?_⟩
      obtain ⟨W3, rfl, e3, f3⟩ := it.yld W2 k x H' ds[k] f2 S2.ok (List.getElem?_eq_getElem hlt) hy
      have S3 := S2.mono e3
      have nf3 : ¬ W3.Fz D := fun z => by
        have := e3.nf D z nf
        rw [hl] at this
        cases this
      have nb3 : ¬ W3.B D := fun z => by
        have := e3.nb D z nb
        rw [hl] at this
        cases this
      have hl3 := e3.ex D _ hl nb
      have hget : (Γ.set i (.l (xs.take (xs.length - k))))[i]? = some (.l (xs.take (xs.length - k))) := by rw [List.getElem?_set, if_pos rfl, if_pos hlt0]
      obtain ⟨a, vs, h1, h2, h3, h4, h5, h6⟩ := S3.varL hget
      have hDa : D ≠ a := fun z => nsl _ i _ hget rfl (by rw [h1, z])
      have hlen : (xs.take (xs.length - k)).length = xs.length - k := by rw [List.length_take]; omega
      have hd : (xs.take (xs.length - k))[(xs.take (xs.length - k)).length - 1]? = some (xs[xs.length - 1 - k]'(by omega)) := by
        rw [hlen, List.getElem?_take, if_pos (by omega), List.getElem?_eq_getElem (by omega)]
        congr 2
        omega
      obtain ⟨v, hv, fv⟩ := h6.get hd
      have lf := S3.ok.mutLf (o' := .lst vs.dropLast) h5 trivial h3 h4
      have S4 := S3.mutL hget h1 h2 h3 h4 h5 lf (Dfs.mono lf _ _ h6.dropLast)
      have hl4 : (upd W3.H a (.lst vs.dropLast)) D = some (.lst us) := by rw [upd_ne hDa]; exact hl3
      have lf5 := S4.ok.mutLf (o' := .lst (us ++ [v])) hl4 trivial nf3 nb3
      have e6 : (Γ.set i (.l (xs.take (xs.length - k)))).set i (.l (xs.take (xs.length - k)).dropLast) = Γ.set i (.l (xs.take (xs.length - (k + 1)))) := by
        rw [List.set_set, List.dropLast_eq_take, hlen, List.take_take]
        congr 3
        omega
      rw [e6] at S4
      have S5 := S4.mutNew hl4 (S1.le.fresh hD) nb3 lf5 (nsl _)
      refine ⟨?_, ?_⟩
      · show ((σ.set n none).set n (some x)).set n none = σ.set n none
        rw [List.set_set, List.set_set]
      · show tBM0 K "list" rPop (tVar i) ((σ.set n none).set n (some x)) W3.H _
        have hσ : ((σ.set n none).set n (some x))[i]? = some (some (.ref a)) := by
          rw [List.getElem?_set, if_neg (Ne.symm hin), List.getElem?_set, if_neg (Ne.symm hin)]
          exact h1
        refine ⟨_, hσ, .inl ⟨rfl, vs, .inl (.inl h5)⟩, a, vs, v, rfl, rfl, h5, by rw [h6.length]; exact hv, us, hl4, ?_, ⟨W3.Fz, W3.B, upd (upd W3.H a (.lst vs.dropLast)) D (.lst (us ++ [v]))⟩, us ++ [v], rfl, ((f2.trans (e3.lf S2.ok)).trans lf).trans lf5, S5, nf3, nb3, upd_same, ?_⟩
        · rw [hf.length, List.length_take]
          omega
        · have ht : xs.reverse[k]? = some (xs[xs.length - 1 - k]'(by omega)) := by
            rw [List.getElem?_reverse (by omega), List.getElem?_eq_getElem (by omega)]
          rw [take_succ ht]
          exact (Dfs.mono (((e3.lf S2.ok).trans lf).trans lf5) _ _ hf).append (.cons (Df.mono (lf.trans lf5) _ _ fv) .nil)
    · have e : k = ds.length := by omega
      subst e
      refine .inl ⟨it.stop W2 _ f2 (Nat.le_refl _), c.nx _ W2 _ ((e1.lf S.ok).trans f2) (S2.set j (show SlOk K W0 W2 (some (.ref D)) (.l _) from ⟨D, us, rfl, S1.le.fresh hD, nf, nb, hl, hf⟩) fun _ j' t b _ hj ot hσ q => ?_) p⟩
      cases q
      exact nsl _ j' t hj ot hσ
/-- *xs among arguments, xs an own list -/
theorem wpA_starL {i : Nat} {xs : List PyData} {r : TA} {P : List PyData → Prop} (hi : Γ[i]? = some (.l xs)) (h : wpA K W0 r Γ fun ys => P (xs ++ ys)) : wpA K W0 (StX.tStar K (tVar i) r) Γ P := fun W σ S Q k => by
  obtain ⟨a, vs, h1, h2, h3, h4, h5, h6⟩ := S.varL hi
  refine ⟨_, h1, a, vs, rfl, .inr (.inl (.inl h5)), h W σ S _ fun us W1 ds e f p => k _ W1 _ e ((Dfs.mono (e.lf S.ok) _ _ h6).append f) p⟩
/-- x not in xs, xs an own list of texts -/
theorem wpE_ninL {i : Nat} {ss : List Str} {P : PyData → Prop} (hi : Γ[i]? = some (.l (ss.map PyData.str))) (h : wpE K W0 ta Γ fun d => ∃ x, d = .str x ∧ P (.bool (!decide (x ∈ ss)))) : wpE K W0 (tOp (rNIN K) ta (tVar i)) Γ P := fun W σ S Q k => h W σ S _ fun v W1 d e f ⟨x, hd, p⟩ => by
  subst hd
  cases f.str_inv
  obtain ⟨a, vs, h1, h2, h3, h4, h5, h6⟩ := (S.mono e).varL hi
  have q := dfs_strs h6
  subst q
  refine ⟨_, h1, .inr ⟨a, _, rfl, .inl (.inl (.inl h5)), rfl, flat_strs ss, ?_⟩⟩
  have q : (if true = true then !inV (V.str x) (ss.map V.str) else inV (V.str x) (ss.map V.str)) = !decide (x ∈ ss) := by rw [if_pos rfl, inV_strs]
  rw [q]
  exact k _ W1 _ e (.bl _) p
end
end G

set_option Elab.async false
set_option linter.all false
set_option autoImplicit false
set_option maxRecDepth 100000
/-! G6: isinstance by (list, tuple); == of written texts; what else later laws want. -/
namespace G
open PySem L2
theorem kt_str_lt (x : Str) : kit2 (tyN (.str x)) "list" "tuple" = some false := (by decide +kernel : kit2 "str" "list" "tuple" = some false)
theorem kt_int_lt (x : Int) : kit2 (tyN (.int x)) "list" "tuple" = some false := (by decide +kernel : kit2 "int" "list" "tuple" = some false)
theorem kt_bl_lt (x : Bool) : kit2 (tyN (.bool x)) "list" "tuple" = some false := (by decide +kernel : kit2 "bool" "list" "tuple" = some false)
theorem kt_non_lt : kit2 (tyN .none) "list" "tuple" = some false := (by decide +kernel : kit2 "NoneType" "list" "tuple" = some false)
theorem kt_lst_lt (x : List PyData) : kit2 (tyN (.list x)) "list" "tuple" = some true := (by decide +kernel : kit2 "list" "list" "tuple" = some true)
theorem kt_tup_lt (x : List PyData) : kit2 (tyN (.tuple x)) "list" "tuple" = some true := (by decide +kernel : kit2 "tuple" "list" "tuple" = some true)
section
variable {K : PySem.W.Frag}
theorem eq_strC {x y : Str} (b : Bool) {P : PyData → Prop} (hx : SeqAt.shaped (.str x) = true) (hy : SeqAt.shaped (.str y) = true) (e : PyData.eqv (.str x) (.str y) = b) (p : P (.bool b)) : opR K (rEqD K) (.str x) (.str y) P :=
  opR_eqD hx hy (by rw [e]; exact p)
theorem ne_strC {x y : Str} (b : Bool) {P : PyData → Prop} (hx : SeqAt.shaped (.str x) = true) (hy : SeqAt.shaped (.str y) = true) (e : (!PyData.eqv (.str x) (.str y)) = b) (p : P (.bool b)) : opR K (rNeD K) (.str x) (.str y) P :=
  opR_neD hx hy (by rw [e]; exact p)
theorem eq_bls {a : Bool} {P : PyData → Prop} (p : P (.bool true)) : opR K (rEqD K) (.bool a) (.bool a) P := opR_eqD rfl rfl (by
  rw [show PyData.eqv (.bool a) (.bool a) = true by simp [PyData.eqv]]
  exact p)
theorem eq_non {P : PyData → Prop} (p : P (.bool true)) : opR K (rEqD K) .none .none P := opR_eqD rfl rfl p
end
/-! tuple(l), a tuple that is known to have no dict; dict(t) of such a tuple of pairs -/
def rTofP (K : PySem.W.Frag) : List V → Hp → VK → Prop := fun xs H Q => ∃ p ys, xs = [.ref p] ∧ SqL K H p ys ∧ ∀ (l : Addr) (o : Obj), H l = none → o.dict = none → Q (.ref l) (upd H l (.frz o (.tup ys)))
theorem tof_P {X : Cx} : CallR X (.type "tuple") (rTofP X.K) := by
  intro pins s σ H xs us Q I rs hyp
  obtain ⟨p, ys, e1, e2, fin⟩ := hyp
  subst e1
  obtain ⟨u, e3, e4⟩ := vals1 rs
  subst e3
  cases e4
  obtain ⟨its, rv, plain, size⟩ := I.list e2
  have len := rv.length
  refine call_tuple_list plain.isList (fun h' keep => ?_) (by rw [List.size_toArray]; omega)
  have J : Inv X pins σ H { s with heap := h' } := I.kept (t' := s.toks) keep
  exact ⟨.ref h'.objs.size, _, J.laid (t' := s.toks) (o := .frz { cls := .type "tuple", data := .seq its.toArray } (.tup ys)) (fun _ _ q => Heap.get?_push_of_some _ q) (Nat.le_refl _) ⟨Heap.get?_push_size _ rfl, size, its, rv, PyProof.Rows.IsTup.new _ _⟩, rfl, fin _ _ (J.hok.fresh (Nat.le_refl _)) rfl⟩
theorem tofP_K {X : Cx} {K : PySem.W.Frag} (h : X.K = K) : CallR X (.type "tuple") (rTofP K) := by
  subst h
  exact tof_P
section
variable {K : PySem.W.Frag} {W0 W W' W1 : Wd} {σ : L2.St} {Γ : Gm} {D : Ends} {A : AE} {ta tb te tx ty tv tk : TE} {t u : TS} {tt : TT}
theorem wpE_tofP {P : PyData → Prop} (h : wpL K W0 te Γ fun ds => P (tagP ds)) : wpE K W0 (tCB (rTofP K) (tCons te tNil)) Γ P := fun W σ S Q k => h W σ S _ fun v W1 ds e1 l1 p => by
  obtain ⟨a, vs, rfl, q, f⟩ := l1.sq
  refine ⟨a, vs, rfl, q, fun r o hr ho => ?_⟩
  have e2 := e1.ok.new (u := .frz o (.tup vs)) hr
  exact k _ _ _ (e1.trans e2) (.pt upd_same ho (Dfs.mono (e2.lf e1.ok) _ _ f)) p
theorem wpE_varP {i : Nat} {ds : List PyData} {P : PyData → Prop} (hi : Γ[i]? = some (.d (tagP ds))) (p : P (.tuple ds)) : wpE K W0 (tVar i) Γ P := fun W σ S Q k => by
  obtain ⟨v, h1, h2⟩ := S.var hi
  exact ⟨v, h1, k v W _ (.refl S.ok) h2.pt_tup p⟩
end
section
variable {X : Cx}
theorem pv_of {pins : List (Addr × Obj)} {σ : St} {H : Hp} {s : Shared} (I : Inv X pins σ H s) : ∀ {ps : List Addr} {kvs : List (Key × V)}, Paired (fun p kv => SqT X.K H p [kV kv.1, kv.2]) ps kvs →
    ∃ (pvs : List (Value × Value)) (prs : List (Key × Value)), KV kvs prs ∧ pvs.length = ps.length ∧ prs.length = ps.length ∧
      ∀ (j : Nat) (u v : Value), pvs[j]? = some (u, v) → ∃ (p : Addr) (k : Key), ps[j]? = some p ∧ prs[j]? = some (k, v) ∧ PyProof.Rows.IsTup s.heap p #[u, v] ∧ keyIs k u = true
  | _, _, .nil => ⟨[], [], .nil, rfl, rfl, fun j u v e => by simp at e⟩
  | _, _, .cons (a := p) (b := kv) h rest => by
    obtain ⟨pvs, prs, r, l1, l2, all⟩ := pv_of I rest
    obtain ⟨its, rv, tup, _⟩ := I.tuple h
    obtain ⟨u, y, ei, ru, ry⟩ := vals2 rv
    subst ei
    refine ⟨(u, y) :: pvs, (kv.1, y) :: prs, .cons ⟨rfl, ry⟩ r, by simp [l1], by simp [l2], fun j a b e => ?_⟩
    cases j with
    | zero =>
      cases (Option.some.inj e : (u, y) = (a, b))
      exact ⟨p, kv.1, rfl, rfl, tup, kV_is (P := X.prog) (w := X.w) ru⟩
    | succ j =>
      obtain ⟨q, k, e1, e2, e3, e4⟩ := all j a b (by simpa using e)
      exact ⟨q, k, by simpa using e1, by simpa using e2, e3, e4⟩
def rDctT (K : PySem.W.Frag) : List V → Hp → VK → Prop := fun xs H Q => ∃ (a : Addr) (o : Obj) (ps : List Addr) (kvs : List (Key × V)), xs = [.ref a] ∧ H a = some (.frz o (.tup (ps.map V.ref))) ∧ o.dict = none ∧ Paired (fun p kv => SqT K H p [kV kv.1, kv.2]) ps kvs ∧
  ∀ p, H p = none → Q (.ref p) (upd H p (.dK (mergeK [] kvs)))
theorem dct_T (calm : X.calm = true) : CallR X (.type "dict") (rDctT X.K) := by
  intro pins s σ H xs us Q I rs hyp
  obtain ⟨a, o, ps, kvs, e1, e2, e3, e4, fin⟩ := hyp
  subst e1
  obtain ⟨u, e5, e6⟩ := vals1 rs
  subst e5
  cases e6
  obtain ⟨got, size, its, rv, o', got', cls, n, data⟩ := I.hok a _ e2
  rw [got] at got'
  cases got'
  have ei := refs_at rv
  subst ei
  rw [List.length_map] at size
  obtain ⟨pvs, prs, rel, l1, l2, all⟩ := pv_of I e4
  refine PySem.call_dict_pairs (knd := mixKind X.prog X.w) (kvs := prs) (PairArg.tuple a (ps.map Value.ref).toArray (fun j => ps.getD j 0) pvs) (I.ok.hd calm) ⟨⟨o, n, got, cls, e3, data⟩, by simp [l1], fun j k v e => ?_⟩ ⟨by rw [l1, l2], fun i key v e => ?_⟩ (by rw [l1]; exact size) fun h' tk made keep => ?_
  · obtain ⟨p, k', f1, f2, f3, f4⟩ := all j k v e
    refine ⟨by simp [f1], .inl ?_⟩
    show s.heap.IsTuple (ps.getD j 0) #[k, v]
    rw [List.getD_eq_getElem?_getD, f1]
    exact f3
  · obtain ⟨p, k', f1, f2, f3, f4⟩ := all i key v e
    exact ⟨k', f2, f4⟩
  · have hm : (s.heap.objs.size == sysModules) = false := beq_eq_false_iff_ne.mpr (Nat.ne_of_gt I.big)
    have short : (mergeK [] kvs).length ≤ sizeLine := by
      have h1 := length_mergeK kvs []
      have h2 := rel.length
      rw [List.length_nil] at h1
      omega
    exact ⟨.ref s.heap.objs.size, _, I.laid (t' := tk) (o := .dK (mergeK [] kvs)) (fun b ob e => keep b ob (fun z => nomatch z) e) (Nat.le_refl _) ⟨short, hm, merged [] prs, KV.merge rel .nil, made⟩, rfl, fin _ (I.hok.fresh (Nat.le_refl _))⟩
theorem dctT_K {K : PySem.W.Frag} (h : X.K = K) (calm : X.calm = true) : CallR X (.type "dict") (rDctT K) := by
  subst h
  exact dct_T calm
end
/-- a pair's two -/
def kf : PyData → PyData
  | .tuple [k, _] => k
  | _ => .none
def vf : PyData → PyData
  | .tuple [_, v] => v
  | _ => .none
/-- the dict of pairs -/
def worthD (prs : List PyData) : List (PyData × PyData) := prs.foldl (fun acc d => putD acc (kf d) (vf d)) []
section
variable {K : PySem.W.Frag} {W0 W W' W1 : Wd} {σ : L2.St} {Γ : Gm} {te : TE}
theorem Dps.merge : ∀ {kvs acc : List (Key × V)} {es ds : List (PyData × PyData)}, Dps K W acc ds → Dps K W kvs es → Dps K W (mergeK acc kvs) (es.foldl (fun a p => putD a p.1 p.2) ds)
  | _, _, _, _, a, .nil => a
  | _, acc, _, ds, a, @Dps.cons _ _ k v kvs d es h r => Dps.merge (kvs := kvs) (acc := putK acc k v) (es := es) (ds := putD ds (keyD k) d) (Dps.put h a) r
theorem dfs_pairs : ∀ {xs : List V} {ds : List PyData}, Dfs K W xs ds → (∀ d ∈ ds, ∃ k e, d = .tuple [keyD k, e]) → ∃ (ps : List Addr) (kvs : List (Key × V)), xs = ps.map V.ref ∧ Paired (fun p kv => SqT K W.H p [kV kv.1, kv.2]) ps kvs ∧ Dps K W kvs (ds.map fun d => (kf d, vf d))
  | _, _, .nil, _ => ⟨[], [], rfl, .nil, .nil⟩
  | _, _, .cons h t, hd => by
    obtain ⟨k, e, rfl⟩ := hd _ List.mem_cons_self
    obtain ⟨ps, kvs, rfl, q1, q2⟩ := dfs_pairs t fun d hx => hd d (List.mem_cons_of_mem _ hx)
    obtain ⟨a, us, rfl, sq, f⟩ := h.tup_inv
    obtain ⟨x, y, rfl, f1, f2⟩ := f.all2
    cases f1.key_inv
    exact ⟨a :: ps, (k, y) :: kvs, rfl, .cons sq q1, .cons f2 q2⟩
theorem wpK_dctT {P : List (PyData × PyData) → Prop} (h : wpE K W0 te Γ fun d => ∃ ds, d = tagP ds ∧ (∀ x ∈ ds, ∃ k e, x = .tuple [keyD k, e]) ∧ P (worthD ds)) : wpK K W0 (tCB (rDctT K) (tCons te tNil)) Γ P := fun W σ S Q k => h W σ S _ fun v W1 d e1 f1 ⟨ds, hd, hx, p⟩ => by
  subst hd
  obtain ⟨a, o, xs, rfl, h1, h2, h3⟩ := f1.pt_inv
  obtain ⟨ps, kvs, rfl, q1, q2⟩ := dfs_pairs h3 hx
  refine ⟨a, o, ps, kvs, rfl, h1, h2, q1, fun r hr => ?_⟩
  have m := Dps.merge (acc := []) .nil q2
  rw [List.foldl_map] at m
  obtain ⟨e2, n⟩ := e1.ok.newK hr m
  obtain ⟨p', kvs', ep, n2⟩ := n
  exact k _ _ _ (e1.trans e2) ⟨p', kvs', ep, e1.fresh n2.1, n2.2⟩ p
end
end G

set_option Elab.async false
set_option linter.all false
set_option autoImplicit false
set_option maxRecDepth 100000
set_option maxHeartbeats 4000000
/-! G7: a tuple times a number; xs.extend(xs.pop()[n]); sum; max with default=. -/
namespace G
open PySem L2
theorem tuple_once (l : Addr) (items : Array Value) (n : Nat) (dd : Option Addr) (sl : Array (Option Value)) (u : Tok) (ne : items.isEmpty = false) :
    Meets (Builtin.«tuple.__mul__» ⟨[.ref l, .int 1 u], []⟩) (fun _ R s => s.heap.get? l = some { cls := .type "tuple", dict := dd, data := .seq items n, slots := sl } ∧ R (.ok (.ret (Value.ref l))) s) :=
  .of_wp fun prog w A R s hyp => by
    obtain ⟨hp, g, d, tk, os⟩ := s
    obtain ⟨got, fin⟩ := hyp
    have known := AutoSeq1.idx_int
    wp_walk using wpAny_loadPart' got
    exact ⟨_, rfl, fin⟩
def rRepT1 (K : PySem.W.Frag) : R2 := fun x y H Q => ∃ l xs, x = .ref l ∧ y = .int 1 ∧ SqT K H l xs ∧ xs ≠ [] ∧ Q (.ref l) H
theorem op_repT1 {X : Cx} : OpR X (binaryOp .Mult) (rRepT1 X.K) := by
  intro pins s σ H x y v u Q I rx ry hyp
  obtain ⟨l, xs, e1, e2, sq, ne, fin⟩ := hyp
  subst e1 e2
  cases rx
  obtain ⟨t, e3⟩ := ry
  subst e3
  obtain ⟨its, r, ⟨⟨cls, dd, data, sl⟩, ho, hc, n, hd⟩, size⟩ := I.tuple sq
  dsimp only at hc hd
  subst hc hd
  have full : its.toArray.isEmpty = false := by
    cases its with
    | nil => exact absurd (List.eq_nil_of_length_eq_zero (by rw [r.length]; rfl)) ne
    | cons _ _ => rfl
  exact wpAny_binaryOp_repeat_ref (T := "tuple") (U := "int") (by decide) ⟨_, ho, rfl⟩ (fun s' => typeIs_int s' 1 t) noFill_tuple_mul F.fills_int_mul F.slot_int_rmul repeat_tuple F.slot_int_index.lookup
    (call_meets F.slot_int_rmul (typeIs_int s 1 t) F.entry_int_rmul (F.args_int_rmul_2 _ _) (int_rmul_tuple 1 t l its.toArray n dd sl)
      ⟨ho, rfl, ⟨_, ho, rfl⟩, call_meets F.slot_tuple_mul ⟨_, ho, rfl⟩ F.entry_tuple_mul (F.args_tuple_mul_2 _ _) (tuple_once l its.toArray n dd sl t full) ⟨ho, ⟨.ref l, H, I, rfl, fin⟩⟩⟩)
def rMULT (K : PySem.W.Frag) : R2 := fun x y H Q => rRepT K x y H Q ∨ rRepT1 K x y H Q
theorem mulT_K {X : Cx} {K : PySem.W.Frag} (h : X.K = K) : OpR X (binaryOp .Mult) (rMULT K) := by
  subst h
  exact OpR.or op_repT op_repT1
/-! max of ints, or what stands for none -/
def maxI (d : Int) : List Int → Int
  | [] => d
  | n :: ns => ns.foldl max n
def rMaxDf (K : PySem.W.Frag) : List V → List V → Hp → VK → Prop := fun vs zs H Q => ∃ (a : Addr) (ns : List Int) (d : Int), vs = [.ref a] ∧ zs = [.int d] ∧ SqL K H a (ns.map V.int) ∧ Q (.int (maxI d ns)) H
theorem dp_ints {K : PySem.W.Frag} {H : Hp} : ∀ ns : List Int, DpAll K H (ns.map V.int) (ns.map PyData.int)
  | [] => .nil
  | n :: ns => .cons (.int n) (dp_ints ns)
theorem depth_ints : ∀ ns : List Int, PyData.depthAll (ns.map PyData.int) = 0
  | [] => by simp [PyData.depthAll]
  | n :: ns => by simp [PyData.depthAll, PyData.depth, depth_ints ns]
theorem cr_maxDf {X : Cx} (room : X.A.units + 64 < cLine) (calm : X.calm = true) : CallRK X (.builtin "max") ["default"] (rMaxDf X.K) := by
  intro pins s σ H vs zs us ws Q I rv rz hyp
  obtain ⟨a, ns, d, e1, e2, sq, fin⟩ := hyp
  subst e1 e2
  obtain ⟨u, e3, r1⟩ := vals1 rv
  subst e3
  cases r1
  obtain ⟨w, e4, t, e5⟩ := vals1 rz
  subst e4 e5
  obtain ⟨its, ri, plain, size⟩ := I.list sq
  obtain ⟨as, reads⟩ := Dp.readsAll I (ns.map PyData.int) (ns.map V.int) its (dp_ints ns) ri
  have same : PySem.W.AlikeAll (ns.map PyData.int) := ⟨fun x hx y hy => by
    obtain ⟨i, _, rfl⟩ := List.mem_map.mp hx
    obtain ⟨j, _, rfl⟩ := List.mem_map.mp hy
    rfl, fun x hx z => by
    obtain ⟨i, _, rfl⟩ := List.mem_map.mp hx
    cases z⟩
  refine PySem.W.max_list_default (I.ok.hd calm) plain.isList reads same (by rw [depth_ints]; omega) (fun e h' tk keep => ?_) fun y ys i v h' tk bs e at_ rd keep => ?_
  · cases ns with
    | nil => exact ⟨.int d, H, I.kept (t' := tk) keep, ⟨_, rfl⟩, fin⟩
    | cons _ _ => cases e
  · cases ns with
    | nil => cases e
    | cons n ns =>
      rw [List.map_cons] at e
      obtain ⟨e1, e2⟩ := List.cons.inj e
      subst e1 e2
      rw [PySem.W.maxD_ints] at rd
      cases rd
      exact ⟨.int (ns.foldl max n), H, I.kept (t' := tk) keep, ⟨_, rfl⟩, fin⟩
theorem maxDf_K {X : Cx} {K : PySem.W.Frag} (h : X.K = K) (room : X.A.units + 64 < cLine) (calm : X.calm = true) : CallRK X (.builtin "max") ["default"] (rMaxDf K) := by
  subst h
  exact cr_maxDf room calm
theorem sum_K {X : Cx} {K : PySem.W.Frag} (h : X.K = K) (calm : X.calm = true) : CallR X (.builtin "sum") (rSum K) := by
  subst h
  exact cr_sum calm
section
variable {K : PySem.W.Frag} {W0 W W' W1 : Wd} {σ : L2.St} {Γ : Gm} {D : Ends} {A : AE} {ta tb te tx ty tv tk : TE} {t u : TS} {tt : TT}
theorem opR_repT {ds : List PyData} {k : Int} {P : PyData → Prop} (hne : ds ≠ []) (h1 : 1 ≤ k) (h2 : k ≤ 1000) (hz : ds.length ≤ 1000) (p : P (.tuple (List.replicate k.toNat ds).flatten)) : opR K (rMULT K) (.tuple ds) (.int k) P := fun W v u ok f1 f2 Q q => by
  cases f2.int_inv
  obtain ⟨a, vs, rfl, sq, f⟩ := f1.tup_inv
  have ne : vs ≠ [] := fun e => by
    rw [e] at f
    cases f
    exact hne rfl
  by_cases e : k = 1
  · subst e
    refine .inr ⟨a, vs, rfl, rfl, sq, ne, q _ W _ (.refl ok) f1 ?_⟩
    simpa using p
  · refine .inl ⟨a, k, vs, rfl, rfl, sq, ne, by omega, h2, by rw [f.length]; exact hz, fun r hr => ?_⟩
    have rep : ∀ m, Dfs K W (List.replicate m vs).flatten (List.replicate m ds).flatten := fun m => by
      induction m with
      | zero => exact .nil
      | succ m ih =>
        rw [List.replicate_succ, List.replicate_succ, List.flatten_cons, List.flatten_cons]
        exact f.append ih
    obtain ⟨e2, f2⟩ := ok.newT hr (rep k.toNat)
    exact q _ _ _ e2 f2 p
theorem wpE_sum {P : PyData → Prop} (h : wpL K W0 te Γ fun ds => ∃ ns : List Int, ds = ns.map PyData.int ∧ P (.int ns.sum)) : wpE K W0 (tCB (rSum K) (tCons te tNil)) Γ P := fun W σ S Q k => h W σ S _ fun v W1 ds e1 l1 ⟨ns, hd, p⟩ => by
  subst hd
  obtain ⟨a, vs, rfl, q, f⟩ := l1.sq
  have e := dfs_ints f
  subst e
  exact ⟨a, ns, rfl, q, k _ W1 _ e1 (.int _) p⟩
theorem wpE_maxDf {d : Int} {P : PyData → Prop} (h : wpL K W0 te Γ fun ds => ∃ ns : List Int, ds = ns.map PyData.int ∧ P (.int (maxI d ns))) : wpE K W0 (tCKw (rMaxDf K) (tCons te tNil) (tCons (tC (.int d)) tNil)) Γ P := fun W σ S Q k => h W σ S _ fun v W1 ds e1 l1 ⟨ns, hd, p⟩ => by
  subst hd
  obtain ⟨a, vs, rfl, q, f⟩ := l1.sq
  have e := dfs_ints f
  subst e
  exact ⟨a, ns, d, rfl, rfl, q, k _ W1 _ e1 (.int _) p⟩
/-- xs.extend(xs.pop()[n]) of a list whose last item is a tuple, at n a tuple -/
theorem go_extPopIx {i : Nat} {n : Int} {xs es ws : List PyData} (hi : Γ[i]? = some (.l xs)) (hd : xs[xs.length - 1]? = some (.tuple es)) (he : atI es n = some (.tuple ws)) (hz : xs.length + ws.length < 10000000) (p : A.nx (Γ.set i (.l (xs.dropLast ++ ws)))) :
    go K W0 (tDrop (tBM K "list" (rEXT K) (tVar i) (tCons (tOp (rIx K) (tBM0 K "list" rPop (tVar i)) (tC (.int n))) tNil))) Γ A := fun W σ D S c => by
  have hs : sizeLine = 16777216 := sizeLine_eq
  obtain ⟨a, vs, h1, h2, h3, h4, h5, h6⟩ := S.varL hi
  obtain ⟨v, hv, fv⟩ := h6.get hd
  have lf := S.ok.mutLf (o' := .lst vs.dropLast) h5 trivial h3 h4
  have S1 := S.mutL hi h1 h2 h3 h4 h5 lf (Dfs.mono lf _ _ h6.dropLast)
  refine ⟨_, h1, .inl ⟨rfl, vs, .inl (.inl h5)⟩, _, h1, .inl ⟨rfl, vs, .inl (.inl h5)⟩, a, vs, v, rfl, rfl, h5, by rw [h6.length]; exact hv, ?_⟩
  refine opR_ixT (P := fun d => d = .tuple ws) he rfl ⟨W.Fz, W.B, upd W.H a (.lst vs.dropLast)⟩ v (.int n) S1.ok (Df.mono lf _ _ fv) (.int n) _ fun z W3 d e3 f3 hd => ?_
  subst hd
  obtain ⟨b, us, rfl, q, b6⟩ := f3.tup_inv
  have S3 := S1.mono e3
  have hi' : (Γ.set i (.l xs.dropLast))[i]? = some (.l xs.dropLast) := by
    rw [List.getElem?_set_self (List.getElem?_eq_some_iff.mp hi).1]
  obtain ⟨a', vs', g1, g2, g3, g4, g5, g6⟩ := S3.varL hi'
  rw [h1] at g1
  cases g1
  have lf3 := e3.ok.mutLf (o' := .lst (vs' ++ us)) g5 trivial g3 g4
  have len := g6.length
  rw [List.length_dropLast] at len
  refine .inr ⟨a, b, vs', us, rfl, rfl, g5, q, by rw [b6.length]; omega, ?_⟩
  have S4 := S3.mutL hi' h1 g2 g3 g4 g5 lf3 ((Dfs.mono lf3 _ _ g6).append (Dfs.mono lf3 _ _ b6))
  rw [List.set_set] at S4
  exact c.nx _ ⟨W3.Fz, W3.B, upd W3.H a (.lst (vs' ++ us))⟩ σ ((lf.trans (e3.lf S1.ok)).trans lf3) S4 p
end
end G

set_option Elab.async false
set_option linter.all false
set_option autoImplicit false
set_option maxRecDepth 100000
/-! G8: tuples joined whatever they hold; *x of a tuple; pairs walked in comprehensions of two fors; xs[e] = y; is None. -/
namespace G
open PySem L2
theorem catA_K {X : Cx} {K : PySem.W.Frag} (h : X.K = K) : OpR X (binaryOp .Add) (rCatA K) := by
  subst h
  exact op_catA
abbrev rIsNo : R2 := fun x y H Q => y = .non ∧ Q (.bl (decide (x = .non))) H
abbrev rNotNo : R2 := fun x y H Q => y = .non ∧ Q (.bl (!decide (x = .non))) H
def noneD : PyData → Bool
  | .none => true
  | _ => false
section
variable {K : PySem.W.Frag} {W0 W W' W1 : Wd} {σ : L2.St} {Γ : Gm} {D : Ends} {A : AE} {ta tb te tx ty tv tk tn : TE} {t u : TS} {tt : TT}
theorem Df.isNon {v : V} {d : PyData} (h : Df K W v d) : decide (v = .non) = noneD d := by
  cases h <;> first | rfl | simp [noneD, boxD]
theorem opR_isN {x : PyData} {P : PyData → Prop} (p : P (.bool (noneD x))) : opR K rIsNo x .none P := fun W v u ok f1 f2 Q k => by
  cases f2.none_inv
  refine ⟨rfl, ?_⟩
  rw [f1.isNon]
  exact k _ W _ (.refl ok) (.bl _) p
theorem opR_notN {x : PyData} {P : PyData → Prop} (p : P (.bool (!noneD x))) : opR K rNotNo x .none P := fun W v u ok f1 f2 Q k => by
  cases f2.none_inv
  refine ⟨rfl, ?_⟩
  rw [f1.isNon]
  exact k _ W _ (.refl ok) (.bl _) p
theorem opR_catA {xs ys : List PyData} {P : PyData → Prop} (hz : xs.length + ys.length ≤ 1000000) (p : P (.tuple (xs ++ ys))) : opR K (rCatA K) (.tuple xs) (.tuple ys) P := fun W v u ok f1 f2 Q k => by
  have hs : sizeLine = 16777216 := sizeLine_eq
  obtain ⟨a, vs, rfl, q1, g1⟩ := f1.tup_inv
  obtain ⟨b, us, rfl, q2, g2⟩ := f2.tup_inv
  have nil : ∀ {vs : List V} {ds : List PyData}, Dfs K W vs ds → vs = [] → ds = [] := fun f e => by
    subst e
    cases f
    rfl
  refine ⟨a, b, vs, us, rfl, rfl, q1, q2, by rw [g1.length, g2.length]; omega, fun e => ?_, fun _ e => ?_, fun _ _ r hr => ?_⟩
  · rw [nil g1 e, List.nil_append] at p
    exact k _ W _ (.refl ok) f2 p
  · rw [nil g2 e, List.append_nil] at p
    exact k _ W _ (.refl ok) f1 p
  · obtain ⟨e, f⟩ := ok.newT hr (g1.append g2)
    exact k _ _ _ e f p
theorem opR_ninT {x : Str} {xs : List Str} {P : PyData → Prop} (p : P (.bool (!decide (x ∈ xs)))) : opR K (rNIN K) (.str x) (.tuple (xs.map PyData.str)) P := fun W v u ok f1 f2 Q k => by
  cases f1.str_inv
  obtain ⟨a, vs, rfl, q, f⟩ := f2.tup_inv
  have e := dfs_strs f
  subst e
  refine .inr ⟨a, _, rfl, .inr q, rfl, flat_strs xs, ?_⟩
  have e : (if true = true then !inV (V.str x) (xs.map V.str) else inV (V.str x) (xs.map V.str)) = !decide (x ∈ xs) := congrArg (!·) (inV_strs x xs)
  rw [e]
  exact k _ W _ (.refl ok) (.bl _) p
theorem wpA_starT {r : TA} {P : List PyData → Prop} (h : wpE K W0 ta Γ fun d => ∃ ds, d = .tuple ds ∧ wpA K W0 r Γ fun ys => P (ds ++ ys)) : wpA K W0 (StX.tStar K ta r) Γ P := fun W σ S Q k => h W σ S _ fun v W1 d e f ⟨ds, hd, h1⟩ => by
  subst hd
  obtain ⟨a, vs, rfl, q, g⟩ := f.tup_inv
  exact ⟨a, vs, rfl, .inl q, h1 W1 σ (S.mono e) _ fun us W2 es e2 f2 p => k _ W2 _ (e.trans e2) ((Dfs.mono (e2.lf e.ok) _ _ g).append f2) p⟩
/-- x[e] = y, x a list of the def's own -/
theorem go_setLE {i : Nat} {xs : List PyData} (hi : Γ[i]? = some (.l xs)) (h : wpE K W0 te Γ fun d => wpE K W0 tn Γ fun y => ∃ n : Nat, y = .int (n : Int) ∧ n < xs.length ∧ A.nx (Γ.set i (.l (xs.set n d)))) : go K W0 (tAsg te (gSub (tVar i) tn rSetL)) Γ A := fun W σ D S c =>
  h W σ S _ fun v W1 d e1 f1 h1 => by
    have S1 := S.mono e1
    obtain ⟨a, vs, g1, g2, g3, g4, g5, g6⟩ := S1.varL hi
    refine ⟨_, g1, h1 W1 σ S1 _ fun y W2 dy e2 f2 ⟨n, hy, hn, p⟩ => ?_⟩
    subst hy
    cases f2.int_inv
    have S2 := S1.mono e2
    obtain ⟨a', vs', k1, k2, k3, k4, k5, k6⟩ := S2.varL hi
    rw [g1] at k1
    cases k1
    have lf := e2.ok.mutLf (o' := .lst (vs'.set n v)) k5 trivial k3 k4
    have f1' := Df.mono (e2.lf e1.ok) _ _ f1
    refine ⟨a, vs', n, n, rfl, rfl, k5, ?_, c.nx _ ⟨W2.Fz, W2.B, upd W2.H a (.lst (vs'.set n v))⟩ σ (((e1.trans e2).lf S.ok).trans lf) (S2.mutL hi g1 k2 k3 k4 k5 lf (Dfs.mono lf _ _ (Dfs.set n f1' k6))) p⟩
    have hl : n < vs'.length := by rw [k6.length]; exact hn
    unfold ixN
    simp
    omega
/-- x, y = xs, [] by way of a tuple -/
theorem go_tupLL {i j : Nat} (h : wpN K W0 ta Γ fun xs => A.nx ((Γ.set i (.l xs)).set j (.l []))) : go K W0 (tAsg (tTup (tCons ta (tCons (tLst tNil) tNil))) (gTup K 2 (gCons (gName i) (gCons (gName j) gNil)))) Γ A := fun W σ D S c =>
  h W σ S _ fun v W1 xs e n p => ⟨Nat.zero_le _, fun q hq => ⟨(Nat.le_of_ble_eq_true rfl : 2 ≤ sizeLine), fun r hr => by
    obtain ⟨e2, n2⟩ := e.ok.newL (K := K) (ds := []) (vs := []) hq .nil
    have e3 := e2.ok.new (u := .tup [v, .ref q]) hr
    exact ⟨r, [v, .ref q], rfl, .inl (.inl upd_same), rfl, _, _, rfl, _, _, rfl, rfl, c.nx _ _ _ (((e.trans e2).trans e3).lf S.ok) (((S.setNw e n i).setNw e2 n2 j).mono e3) p⟩⟩⟩
theorem go_tupDL {i j : Nat} (h : wpE K W0 ta Γ fun d => A.nx ((Γ.set i (.d d)).set j (.l []))) : go K W0 (tAsg (tTup (tCons ta (tCons (tLst tNil) tNil))) (gTup K 2 (gCons (gName i) (gCons (gName j) gNil)))) Γ A := fun W σ D S c =>
  h W σ S _ fun v W1 d e f p => ⟨Nat.zero_le _, fun q hq => ⟨(Nat.le_of_ble_eq_true rfl : 2 ≤ sizeLine), fun r hr => by
    obtain ⟨e2, n2⟩ := e.ok.newL (K := K) (ds := []) (vs := []) hq .nil
    have e3 := e2.ok.new (u := .tup [v, .ref q]) hr
    exact ⟨r, [v, .ref q], rfl, .inl (.inl upd_same), rfl, _, _, rfl, _, _, rfl, rfl, c.nx _ _ _ (((e.trans e2).trans e3).lf S.ok) ((((S.mono e).setD i f).setNw e2 n2 j).mono e3) p⟩⟩⟩
/-- x, y = [], a written value -/
theorem go_parLC {i j : Nat} {u : V} {d : PyData} (hd : ∀ W, Df K W u d) (p : A.nx ((Γ.set i (.l [])).set j (.d d))) : go K W0 (tPar i j (tCons (tLst tNil) (tCons (tC u) tNil))) Γ A := fun W σ D S c =>
  ⟨Nat.zero_le _, fun q hq => ⟨.ref q, u, rfl, by
    obtain ⟨e2, n2⟩ := S.ok.newL (K := K) (ds := []) (vs := []) hq .nil
    exact c.nx _ _ _ (e2.lf S.ok) ((S.setNw e2 n2 i).setD j (hd _)) p⟩⟩
/-- [e for (x, y) in xs for z in ys] -/
theorem wpN_lc2T {wi wi1 : TI} {vs vs1 : List Nat} {j j' j1 : Nat} {P : List PyData → Prop} (hj : j ∈ vs) (hj' : j' ∈ vs) (hj1 : j1 ∈ vs1)
    (h : wpIc K W0 wi Γ fun ds => ∃ Iv : Nat → List PyData → Prop, Iv 0 [] ∧ (∀ i d acc, ds[i]? = some d → Iv i acc → ∃ d1 d2, d = .tuple [d1, d2] ∧ wpI K W0 wi1 (((wipeG Γ vs).set j (.d d1)).set j' (.d d2)) fun es => ∃ Jv : Nat → List PyData → Prop, Jv 0 acc ∧
      (∀ m e acc', es[m]? = some e → Jv m acc' → acc'.length < 10000000 ∧ wpE K W0 te ((wipeG (((wipeG Γ vs).set j (.d d1)).set j' (.d d2)) vs1).set j1 (.d e)) fun y => Jv (m + 1) (acc' ++ [y])) ∧ ∀ acc', Jv es.length acc' → Iv (i + 1) acc') ∧ ∀ acc, Iv ds.length acc → P acc) :
    wpN K W0 (tLc2 wi (gTup K 2 (gCons (gName j) (gCons (gName j') gNil))) tYes wi1 (gName j1) tYes te vs vs1) Γ P := fun W σ S Q k => h W σ S _ fun W1 J ds e1 it ⟨Iv, i0, hs, hd⟩ => by
  intro D hD
  have hsz : sizeLine = 16777216 := sizeLine_eq
  have S1 := S.mono e1
  obtain ⟨n1, n2⟩ := e1.ok.newL (K := K) (ds := []) (vs := []) hD .nil
  have fzD : ¬ W1.Fz D := fun z => e1.ok.fz D z hD
  have bD : ¬ W1.B D := fun z => by
    obtain ⟨_, _, _, e⟩ := e1.ok.bx D z
    rw [hD] at e
    cases e
  -- what holds between turns: the world grown, the new list told
  let At : (List PyData → Prop) → Hp → Prop := fun R H => ∃ W2 acc us, W2.H = H ∧ Le W1 W2 ∧ ¬ W2.Fz D ∧ ¬ W2.B D ∧ H D = some (.lst us) ∧ Dfs K W2 us acc ∧ R acc
  refine ⟨fun i m H => m = ds.length - i ∧ i ≤ ds.length ∧ At (Iv i) H, ⟨ds.length, by simp, Nat.zero_le _, _, [], [], rfl, n1, fzD, bD, upd_same, .nil, i0⟩, ?_⟩
  rintro i m H ⟨rfl, hi, W2, acc, us, rfl, e2, nf, nb, hl, hf, hI⟩
  by_cases hlt : i < ds.length
  · refine .inr ⟨it.go W2 i e2 hlt, At (Iv (i + 1)), fun H' q => ⟨ds.length - (i + 1), by omega, rfl, hlt, q⟩, fun x H' hy => ?_⟩
    obtain ⟨W3, rfl, e3, f3⟩ := it.yld W2 i x H' ds[i] e2 e2.ok (List.getElem?_eq_getElem hlt) hy
    have keep : ∀ {Wa Wb : Wd} {us : List V}, ¬ Wa.Fz D → ¬ Wa.B D → Wa.H D = some (.lst us) → Le Wa Wb → ¬ Wb.Fz D ∧ ¬ Wb.B D ∧ Wb.H D = some (.lst us) := fun {Wa Wb us} p1 p2 p3 e => ⟨fun z => (by
      have := e.nf D z p1
      rw [p3] at this
      cases this), fun z => (by
      have := e.nb D z p2
      rw [p3] at this
      cases this), e.ex D _ p3 p2⟩
    obtain ⟨d1, d2, ed, hs'⟩ := hs i ds[i] acc (List.getElem?_eq_getElem hlt) hI
    rw [ed] at f3
    obtain ⟨ax, vx, rfl, qx, fx⟩ := f3.tup_inv
    obtain ⟨x1, x2, rfl, fx1, fx2⟩ := fx.all2
    refine ⟨ax, _, rfl, qx, rfl, _, _, rfl, _, _, rfl, rfl, (wipe_set hj').trans ((wipe_set hj).trans (wipe_wipe fun _ h => h)), ?_⟩
    have S3 : Sat K W0 W3 (((wipe σ vs).set j (some x1)).set j' (some x2)) (((wipeG Γ vs).set j (.d d1)).set j' (.d d2)) := (((S1.mono (e2.trans e3)).wipe vs).setD j fx1).setD j' fx2
    refine hs' W3 _ S3 _ fun W4 J1 es e4 it1 ⟨Jv, j0, js, jd⟩ => ?_
    obtain ⟨k1, k2, k3⟩ := keep nf nb hl (e3.trans e4)
    refine ⟨fun m n H => n = es.length - m ∧ m ≤ es.length ∧ ∃ W5, Lf W4 W5 ∧ W5.H = H ∧ Le W1 W5 ∧ ¬ W5.Fz D ∧ ¬ W5.B D ∧ ∃ us acc', H D = some (.lst us) ∧ Dfs K W5 us acc' ∧ Jv m acc', ⟨es.length, by simp, Nat.zero_le _, W4, .refl e4.ok, rfl, (e2.trans e3).trans e4, k1, k2, us, acc, k3, Dfs.mono ((e3.trans e4).lf e2.ok) _ _ hf, j0⟩, ?_⟩
    rintro m n H ⟨rfl, hm, W5, lf5, rfl, e5, q1, q2, us5, acc5, q3, q4, hJ⟩
    by_cases hmt : m < es.length
    · refine .inr ⟨it1.go W5 m lf5 hmt, fun H => ∃ W5, Lf W4 W5 ∧ W5.H = H ∧ Le W1 W5 ∧ ¬ W5.Fz D ∧ ¬ W5.B D ∧ ∃ us acc', H D = some (.lst us) ∧ Dfs K W5 us acc' ∧ Jv (m + 1) acc', fun H' q => ⟨es.length - (m + 1), by omega, rfl, hmt, q⟩, fun y H' hy => ?_⟩
      obtain ⟨W6, rfl, e6, f6⟩ := it1.yld W5 m y H' es[m] lf5 e5.ok (List.getElem?_eq_getElem hmt) hy
      refine ⟨(wipe_set hj1).trans (wipe_wipe fun _ h => h), ?_⟩
      have gx1 : Df K W6 x1 d1 := Df.mono ((e4.lf e3.ok).trans (lf5.trans (e6.lf e5.ok))) _ _ fx1
      have gx2 : Df K W6 x2 d2 := Df.mono ((e4.lf e3.ok).trans (lf5.trans (e6.lf e5.ok))) _ _ fx2
      have S6 := (((((S1.mono (e5.trans e6)).wipe vs).setD j gx1).setD j' gx2).wipe vs1).setD j1 f6
      obtain ⟨hsz5, hw⟩ := js m es[m] acc5 (List.getElem?_eq_getElem hmt) hJ
      refine hw W6 _ S6 _ fun z W7 dz e7 f7 hz => ?_
      obtain ⟨r1, r2, r3⟩ := keep q1 q2 q3 (e6.trans e7)
      have lf := e7.ok.mutLf (o' := .lst (us5 ++ [z])) r3 trivial r1 r2
      refine ⟨us5, r3, by rw [q4.length]; omega, ⟨W7.Fz, W7.B, upd W7.H D (.lst (us5 ++ [z]))⟩, lf5.trans (((e6.trans e7).lf e5.ok).trans lf), rfl, (e5.trans (e6.trans e7)).mut r3 r2 hD, r1, r2, us5 ++ [z], acc5 ++ [dz], upd_same, ?_, hz⟩
      exact (Dfs.mono lf _ _ (Dfs.mono ((e6.trans e7).lf e5.ok) _ _ q4)).append (.cons (Df.mono lf _ _ f7) .nil)
    · have e : m = es.length := by omega
      subst e
      exact .inl ⟨it1.stop W5 _ lf5 (Nat.le_refl _), W5, acc5, us5, rfl, e5, q1, q2, q3, q4, jd acc5 hJ⟩
  · have e : i = ds.length := by omega
    subst e
    refine .inl ⟨it.stop W2 _ e2 (Nat.le_refl _), k _ W2 acc (e1.trans e2) ?_ (hd acc hI)⟩
    have : Nw K W1 W2 (.ref D) acc := ⟨D, us, rfl, hD, nf, nb, hl, hf⟩
    exact this.up S.ok e1

theorem wpN_flatT {wi wi1 : TI} {vs vs1 : List Nat} {j j' j1 : Nat} {P : List PyData → Prop} (f : PyData → List PyData) (hj : j ∈ vs) (hj' : j' ∈ vs) (hj1 : j1 ∈ vs1)
    (h : wpIc K W0 wi Γ fun ds => (ds.flatMap f).length < 10000000 ∧ (∀ d ∈ ds, ∃ d1 d2, d = .tuple [d1, d2] ∧ wpI K W0 wi1 (((wipeG Γ vs).set j (.d d1)).set j' (.d d2)) fun es => es = f d ∧ ∀ e ∈ es, wpE K W0 te ((wipeG (((wipeG Γ vs).set j (.d d1)).set j' (.d d2)) vs1).set j1 (.d e)) fun y => y = e) ∧ P (ds.flatMap f)) :
    wpN K W0 (tLc2 wi (gTup K 2 (gCons (gName j) (gCons (gName j') gNil))) tYes wi1 (gName j1) tYes te vs vs1) Γ P := by
  refine wpN_lc2T hj hj' hj1 (h.imp fun ds ⟨hz, hs, p⟩ => ⟨fun i acc => acc = (ds.take i).flatMap f, rfl, fun i d acc hd hI => ?_, fun acc hI => ?_⟩)
  · obtain ⟨d1, d2, ed, hs'⟩ := hs d (List.mem_of_getElem? hd)
    refine ⟨d1, d2, ed, hs'.imp fun es ⟨he, hw⟩ => ?_⟩
    have e1 : (acc ++ es) = (ds.take (i + 1)).flatMap f := by
      rw [show acc = (ds.take i).flatMap f from hI, he, take_succ hd, List.flatMap_append]
      simp
    refine ⟨fun m acc' => acc' = acc ++ es.take m, by simp, fun m e acc' hm hJ => ⟨?_, (hw e (List.mem_of_getElem? hm)).imp fun y hy => ?_⟩, fun acc' hJ => ?_⟩
    · have hk : (acc ++ es).length ≤ (ds.flatMap f).length := by
        rw [e1]
        have e2 : ds.flatMap f = (ds.take (i + 1)).flatMap f ++ (ds.drop (i + 1)).flatMap f := by rw [← List.flatMap_append, List.take_append_drop]
        rw [e2, List.length_append]
        omega
      rw [show acc' = acc ++ es.take m from hJ]
      rw [List.length_append] at hk ⊢
      rw [List.length_take]
      omega
    · show acc' ++ [y] = acc ++ es.take (m + 1)
      rw [hy, show acc' = acc ++ es.take m from hJ, take_succ hm, List.append_assoc]
    · show acc' = (ds.take (i + 1)).flatMap f
      rw [show acc' = acc ++ es.take es.length from hJ, List.take_length, e1]
  · rw [show acc = (ds.take ds.length).flatMap f from hI, List.take_length]
    exact p
end
end G

set_option Elab.async false
set_option linter.all false
set_option autoImplicit false
set_option maxRecDepth 100000
set_option maxHeartbeats 4000000
/-! G9: list(zip(x, y)) of two lists or of two tuples. -/
namespace ZL
open PySem
open PySem.Sem (wp)
section
variable {prog : Program} {w : World} {A : Around} {E : Value → Shared → Prop} {s : Shared}
/-- the next pair of two tuples while the first pair is still out -/
theorem pair_out {z TI TO T i1 i2 l1 l2 : Addr} {f : Bool} {oT : Obj} {j k : Nat} {xs ys : Array Value} {x y : Value} {Q : Value → Shared → Prop} (D : ZipApart z TI TO i1 i2 l1 l2)
    (zip : IsZipHeld s.heap z TI TO T f) (out : s.heap.get? T = some oT) (its : IsPair s.heap TI (.ref i1) (.ref i2))
    (a1 : s.heap.IsTupleIter i1 l1 j) (a2 : s.heap.IsTupleIter i2 l2 k) (b1 : s.heap.IsTuple l1 xs) (b2 : s.heap.IsTuple l2 ys) (ex : xs[j]? = some x) (ey : ys[k]? = some y)
    (fin : ∀ h', IsZipHeld h' z TI TO T true → h'.IsTupleIter i1 l1 (j + 1) → h'.IsTupleIter i2 l2 (k + 1) → IsPair h' s.heap.objs.size x y → h'.objs.size = s.heap.objs.size + 1 →
      (∀ c o, c ≠ z → c ≠ i1 → c ≠ i2 → s.heap.get? c = some o → h'.get? c = some o) → Q (.ref s.heap.objs.size) { s with heap := h' }) :
    wpAny (model prog w) A (Builtin.«zip.__next__» ⟨[.ref z], []⟩) (fun r s' => ∃ v, r = .done (.ret v) ∧ Q v s') E s := by
  show wpAny _ _ (field (.ref z) 2 >>= _) _ _ s
  refine wpAny_bind (wpAny_field zip rfl (x := .bool false) rfl ?_)
  show wpAny _ _ (field (.ref z) 3 >>= _) _ _ s
  refine wpAny_bind (wpAny_field zip rfl (x := .ref TI) rfl (wpAny_bind (wpAny_seqItems its rfl ?_)))
  show wpAny _ _ (Builtin.SmallTypes.ownedTupleIsFree (.ref z) >>= _) _ _ s
  refine wpAny_bind (wpAny_tupleHeld_zip zip out fun g1 zip1 same1 => ?_)
  simp only [Bool.false_eq_true, if_false]
  refine wpAny_bind ?_
  rw [← Array.forIn_toList]
  simp only [List.forIn_cons, List.forIn_nil]
  refine wpAny_bind (wpAny_bind (wpAny_holding ?_))
  show wpAny _ _ (Builtin.SmallTypes.nextOf (.ref i1) >>= _) _ _ { s with heap := g1 }
  refine wpAny_bind (RZ.nextOf_tuple_item (s := { s with heap := g1 }) (a1.extBut same1.extBut D.i1z) (b1.extBut same1.extBut D.l1z) ex fun g2 a1' same2 => wpAny_pure (wpAny_pure ?_))
  refine wpAny_bind (wpAny_bind (wpAny_holding ?_))
  show wpAny _ _ (Builtin.SmallTypes.nextOf (.ref i2) >>= _) _ _ { s with heap := g2 }
  refine wpAny_bind (RZ.nextOf_tuple_item (s := { s with heap := g2 }) ((a2.extBut same1.extBut D.i2z).extBut same2.extBut D.i12.symm) ((b2.extBut same1.extBut D.l2z).extBut same2.extBut D.l2i1) ey fun g3 a2' same3 => wpAny_pure ?_)
  refine wpAny_pure (wpAny_pure ?_)
  show wpAny _ _ (newTuple [x, y] >>= _) _ _ { s with heap := g3 }
  refine wpAny_bind (wpAny_newTuple (wpAny_pure ⟨_, rfl, ?_⟩))
  have size3 : g3.objs.size = s.heap.objs.size := by rw [same3.1, same2.1, same1.1]
  have pair := Heap.get?_push_size g3 (o := { cls := .type "tuple", data := .seq #[x, y] }) rfl
  have size4 := Heap.size_push g3 { cls := .type "tuple", data := .seq #[x, y] }
  show Q (.ref g3.objs.size) _
  rw [size3] at pair size4 ⊢
  exact fin _ (Heap.get?_push_of_some _ (same3.extBut _ _ D.i2z.symm (same2.extBut _ _ D.i1z.symm zip1))) ((a1'.extBut same3.extBut D.i12).at fun o e => Heap.get?_push_of_some _ e) (a2'.at fun o e => Heap.get?_push_of_some _ e) pair size4
    fun c o c1 c2 c3 e => Heap.get?_push_of_some _ (same3.extBut _ _ c3 (same2.extBut _ _ c2 (same1.extBut _ _ c1 e)))
/-- no more pairs, the first one still out -/
theorem none_out {z TI TO T i1 i2 l1 l2 : Addr} {f : Bool} {oT : Obj} {j k : Nat} {xs ys : Array Value} {Q : Fin → Shared → Prop} (calm : A.handled = none) (D : ZipApart z TI TO i1 i2 l1 l2)
    (zip : IsZipHeld s.heap z TI TO T f) (out : s.heap.get? T = some oT) (its : IsPair s.heap TI (.ref i1) (.ref i2))
    (a1 : s.heap.IsTupleIter i1 l1 j) (a2 : s.heap.IsTupleIter i2 l2 k) (b1 : s.heap.IsTuple l1 xs) (b2 : s.heap.IsTuple l2 ys) (stop : xs[j]? = none ∨ ys[k]? = none)
    (fin : ∀ h' e, (∀ c o, c ≠ z → c ≠ i1 → c ≠ i2 → s.heap.get? c = some o → h'.get? c = some o) → (∃ o, h'.get? e = some o ∧ o.cls = .type "StopIteration") → E (.ref e) { s with heap := h' }) :
    wpAny (model prog w) A (Builtin.«zip.__next__» ⟨[.ref z], []⟩) Q E s := by
  show wpAny _ _ (field (.ref z) 2 >>= _) _ _ s
  refine wpAny_bind (wpAny_field zip rfl (x := .bool false) rfl ?_)
  show wpAny _ _ (field (.ref z) 3 >>= _) _ _ s
  refine wpAny_bind (wpAny_field zip rfl (x := .ref TI) rfl (wpAny_bind (wpAny_seqItems its rfl ?_)))
  show wpAny _ _ (Builtin.SmallTypes.ownedTupleIsFree (.ref z) >>= _) _ _ s
  refine wpAny_bind (wpAny_tupleHeld_zip zip out fun g1 zip1 same1 => ?_)
  simp only [Bool.false_eq_true, if_false]
  refine wpAny_bind ?_
  rw [← Array.forIn_toList]
  simp only [List.forIn_cons, List.forIn_nil]
  refine wpAny_bind (wpAny_bind (wpAny_holding ?_))
  show wpAny _ _ (Builtin.SmallTypes.nextOf (.ref i1) >>= _) _ _ { s with heap := g1 }
  cases ex : xs[j]? with
  | none => exact wpAny_bind (RZ.nextOf_tuple_end (s := { s with heap := g1 }) calm (a1.extBut same1.extBut D.i1z) (b1.extBut same1.extBut D.l1z) ex fun g2 e same2 he => fin g2 e (fun c o c1 c2 _ v => same2 _ _ c2 (same1.extBut _ _ c1 v)) he)
  | some x =>
    have ey : ys[k]? = none := stop.elim (fun h => by rw [ex] at h; cases h) id
    refine wpAny_bind (RZ.nextOf_tuple_item (s := { s with heap := g1 }) (a1.extBut same1.extBut D.i1z) (b1.extBut same1.extBut D.l1z) ex fun g2 a1' same2 => wpAny_pure (wpAny_pure ?_))
    refine wpAny_bind (wpAny_bind (wpAny_holding ?_))
    show wpAny _ _ (Builtin.SmallTypes.nextOf (.ref i2) >>= _) _ _ { s with heap := g2 }
    exact wpAny_bind (RZ.nextOf_tuple_end (s := { s with heap := g2 }) calm ((a2.extBut same1.extBut D.i2z).extBut same2.extBut D.i12.symm) ((b2.extBut same1.extBut D.l2z).extBut same2.extBut D.l2i1) ey fun g3 e same3 he =>
      fin g3 e (fun c o c1 c2 c3 v => same3 _ _ c3 (same2.extBut _ _ c2 (same1.extBut _ _ c1 v))) he)
end
/-- what a zip is between two pairs: fresh, or its first pair T is out -/
def Out (h : Heap) (z TI TO i1 i2 S : Addr) : Prop := (IsZip h z TI TO .none ∧ ∃ a b, IsPair h TO a b) ∨ ∃ (T : Addr) (f : Bool) (oT : Obj), IsZipHeld h z TI TO T f ∧ h.get? T = some oT ∧ T ≠ z ∧ T ≠ i1 ∧ T ≠ i2 ∧ T ≠ S
theorem Out.at {h h' : Heap} {z TI TO i1 i2 S : Addr} (o : Out h z TI TO i1 i2 S) (zS : z ≠ S) (toS : TO ≠ S) (e : ∀ c ob, c ≠ S → h.get? c = some ob → h'.get? c = some ob) : Out h' z TI TO i1 i2 S := by
  rcases o with ⟨a, x, y, b⟩ | ⟨T, f, oT, a, b, c1, c2, c3, c4⟩
  · exact .inl ⟨e z _ zS a, x, y, e TO _ toS b⟩
  · exact .inr ⟨T, f, oT, e z _ zS a, e T _ c4 b, c1, c2, c3, c4⟩
/-- a zip that is walked: St k h tells its two iterators, k pairs gone -/
structure Zs (prog : Program) (w : World) (A : Around) (z TI TO i1 i2 l1 l2 S : Addr) (xs ys : Array Value) (St : Nat → Heap → Prop) : Prop where
  ext : ∀ k (h h' : Heap), St k h → (∀ c, c = i1 ∨ c = i2 ∨ c = l1 ∨ c = l2 → ∀ o, h.get? c = some o → h'.get? c = some o) → St k h'
  item : ∀ k x y (s : Shared) (Q : Option Value → Shared → Prop) (E : Value → Shared → Prop), xs[k]? = some x → ys[k]? = some y → S < s.heap.objs.size → St k s.heap → IsPair s.heap TI (.ref i1) (.ref i2) → Out s.heap z TI TO i1 i2 S →
    (∀ h', Out h' z TI TO i1 i2 S → (∃ T f, IsZipHeld h' z TI TO T f) → IsPair h' TI (.ref i1) (.ref i2) → St (k + 1) h' → IsPair h' s.heap.objs.size x y → h'.objs.size = s.heap.objs.size + 1 → (∀ c o, c ≠ z → c ≠ TO → c ≠ i1 → c ≠ i2 → s.heap.get? c = some o → h'.get? c = some o) →
      Q (some (.ref s.heap.objs.size)) { s with heap := h' }) → wpAny (model prog w) A (pyNext (.ref z)) Q E s
  stop : ∀ k (s : Shared) (Q : Option Value → Shared → Prop) (E : Value → Shared → Prop), (xs[k]? = none ∨ ys[k]? = none) → St k s.heap → IsPair s.heap TI (.ref i1) (.ref i2) → Out s.heap z TI TO i1 i2 S →
    (∀ h', (∀ c o, c ≠ z → c ≠ TO → c ≠ i1 → c ≠ i2 → s.heap.get? c = some o → h'.get? c = some o) → Q none { s with heap := h' }) → wpAny (model prog w) A (pyNext (.ref z)) Q E s
theorem zs_list {prog : Program} {w : World} {A : Around} {z TI TO i1 i2 l1 l2 S : Addr} {xs ys : Array Value} (calm : A.handled = none) (D : ZipApart z TI TO i1 i2 l1 l2) :
    Zs prog w A z TI TO i1 i2 l1 l2 S xs ys fun k h => h.IsListIter i1 l1 k ∧ h.IsListIter i2 l2 k ∧ h.IsList l1 xs ∧ h.IsList l2 ys where
  ext := fun k h h' ⟨a1, a2, b1, b2⟩ e => ⟨a1.at (e _ (.inl rfl)), a2.at (e _ (.inr (.inl rfl))), b1.at (e _ (.inr (.inr (.inl rfl)))), b2.at (e _ (.inr (.inr (.inr rfl))))⟩
  item := fun k x y s Q E ex ey sS ⟨a1, a2, b1, b2⟩ its o fin => by
    have lt : ∀ {c ob}, s.heap.get? c = some ob → s.heap.objs.size ≠ c := fun e => Nat.ne_of_gt (Heap.lt_size e)
    have n1 : s.heap.objs.size ≠ i1 := by obtain ⟨_, e, _⟩ := a1; exact lt e
    have n2 : s.heap.objs.size ≠ i2 := by obtain ⟨_, e, _⟩ := a2; exact lt e
    rcases o with ⟨zip, a, b, to⟩ | ⟨T, f, oT, zip, out, t1, t2, t3, t4⟩
    · refine wpAny_pyNext_zip_item D zip its to a1 a2 b1 b2 ex ey fun h' c1 c2 c3 c4 c5 c6 keep => ?_
      exact fin h' (.inr ⟨_, false, _, c1, c5, lt zip, n1, n2, Nat.ne_of_gt sS⟩) ⟨_, false, c1⟩ (keep _ _ D.TIz D.TITO D.TIi1 D.TIi2 its) ⟨c3, c4, b1.at fun o e => keep _ o D.l1z D.l1TO D.l1i1 D.l1i2 e, b2.at fun o e => keep _ o D.l2z D.l2TO D.l2i1 D.l2i2 e⟩ c5 c6 keep
    · refine wpAny_pyNext_zip_item_held D zip out its a1 a2 b1 b2 ex ey fun h' c1 c3 c4 c5 c6 keep => ?_
      exact fin h' (.inr ⟨T, true, oT, c1, keep _ _ t1 t2 t3 out, t1, t2, t3, t4⟩) ⟨_, _, c1⟩ (keep _ _ D.TIz D.TIi1 D.TIi2 its) ⟨c3, c4, b1.at fun o e => keep _ o D.l1z D.l1i1 D.l1i2 e, b2.at fun o e => keep _ o D.l2z D.l2i1 D.l2i2 e⟩ c5 c6 fun c ob q1 _ q3 q4 e => keep c ob q1 q3 q4 e
  stop := fun k s Q E ends ⟨a1, a2, b1, b2⟩ its o fin => by
    rcases o with ⟨zip, a, b, to⟩ | ⟨T, f, oT, zip, out, t1, t2, t3, t4⟩
    · exact wpAny_pyNext_zip_end calm D zip its to a1 a2 b1 b2 ends fin
    · exact wpAny_pyNext_zip_end_held calm D zip out its a1 a2 b1 b2 ends fun h' keep => fin h' fun c ob q1 _ q3 q4 e => keep c ob q1 q3 q4 e
theorem zs_tuple {prog : Program} {w : World} {A : Around} {z TI TO i1 i2 l1 l2 S : Addr} {xs ys : Array Value} (calm : A.handled = none) (D : ZipApart z TI TO i1 i2 l1 l2) :
    Zs prog w A z TI TO i1 i2 l1 l2 S xs ys fun k h => h.IsTupleIter i1 l1 k ∧ h.IsTupleIter i2 l2 k ∧ h.IsTuple l1 xs ∧ h.IsTuple l2 ys where
  ext := fun k h h' ⟨a1, a2, b1, b2⟩ e => ⟨a1.at (e _ (.inl rfl)), a2.at (e _ (.inr (.inl rfl))), b1.at (e _ (.inr (.inr (.inl rfl)))), b2.at (e _ (.inr (.inr (.inr rfl))))⟩
  item := fun k x y s Q E ex ey sS ⟨a1, a2, b1, b2⟩ its o fin => by
    have lt : ∀ {c ob}, s.heap.get? c = some ob → s.heap.objs.size ≠ c := fun e => Nat.ne_of_gt (Heap.lt_size e)
    have n1 : s.heap.objs.size ≠ i1 := by obtain ⟨_, e, _⟩ := a1; exact lt e
    have n2 : s.heap.objs.size ≠ i2 := by obtain ⟨_, e, _⟩ := a2; exact lt e
    rcases o with ⟨zip, a, b, to⟩ | ⟨T, f, oT, zip, out, t1, t2, t3, t4⟩
    · refine RZ.pyNext_zipT_item D zip its to a1 a2 b1 b2 ex ey fun h' c1 c2 c3 c4 c5 c6 keep => ?_
      exact fin h' (.inr ⟨_, false, _, c1, c5, lt zip, n1, n2, Nat.ne_of_gt sS⟩) ⟨_, false, c1⟩ (keep _ _ D.TIz D.TITO D.TIi1 D.TIi2 its) ⟨c3, c4, b1.at fun o e => keep _ o D.l1z D.l1TO D.l1i1 D.l1i2 e, b2.at fun o e => keep _ o D.l2z D.l2TO D.l2i1 D.l2i2 e⟩ c5 c6 keep
    · have ty : s.TypeIs (.ref z) "zip" := ⟨_, zip, rfl⟩
      unfold pyNext
      refine wpAny_bind (wpAny_attempt (wpAny_callSpecial?_slot (name := Str.ofString "__next__") ty F.slot_zip_next (wpAny_call_entry F.slot_zip_next ty F.entry_zip_next
        (pair_out D zip out its a1 a2 b1 b2 ex ey fun h' c1 c3 c4 c5 c6 keep => wpAny_pure ?_) (F.args_zip_next_1 _))))
      exact fin h' (.inr ⟨T, true, oT, c1, keep _ _ t1 t2 t3 out, t1, t2, t3, t4⟩) ⟨_, _, c1⟩ (keep _ _ D.TIz D.TIi1 D.TIi2 its) ⟨c3, c4, b1.at fun o e => keep _ o D.l1z D.l1i1 D.l1i2 e, b2.at fun o e => keep _ o D.l2z D.l2i1 D.l2i2 e⟩ c5 c6 fun c ob q1 _ q3 q4 e => keep c ob q1 q3 q4 e
  stop := fun k s Q E ends ⟨a1, a2, b1, b2⟩ its o fin => by
    rcases o with ⟨zip, a, b, to⟩ | ⟨T, f, oT, zip, out, t1, t2, t3, t4⟩
    · exact RZ.pyNext_zipT_end calm D zip its to a1 a2 b1 b2 ends fin
    · have ty : s.TypeIs (.ref z) "zip" := ⟨_, zip, rfl⟩
      unfold pyNext
      refine wpAny_bind (wpAny_attempt (wpAny_callSpecial?_slot (name := Str.ofString "__next__") ty F.slot_zip_next (wpAny_call_entry F.slot_zip_next ty F.entry_zip_next
        (none_out calm D zip out its a1 a2 b1 b2 ends fun h' e keep he => ?_) (F.args_zip_next_1 _))))
      obtain ⟨ob, h1, h2⟩ := he
      exact wpAny_bind (wpAny_isInstance (T := "StopIteration") (b := true) ⟨ob, h1, h2⟩ isSubtype_stop (wpAny_pure (fin h' fun c ob q1 _ q3 q4 e => keep c ob q1 q3 q4 e)))
/-- what the list made of a zip holds: new pairs, one behind the other -/
structure Got (xs ys : Array Value) (lo : Addr) (h : Heap) (as : List Addr) : Prop where
  up : as.Pairwise (fun a b => a < b)
  high : ∀ a, a ∈ as → lo < a
  each : ∀ (j : Nat) (a : Addr), as[j]? = some a → ∃ x y, xs[j]? = some x ∧ ys[j]? = some y ∧ IsPair h a x y
theorem Got.lt {xs ys : Array Value} {lo : Addr} {h : Heap} {as : List Addr} (g : Got xs ys lo h as) {a : Addr} (m : a ∈ as) : a < h.objs.size := by
  obtain ⟨j, e⟩ := List.mem_iff_getElem?.mp m
  obtain ⟨_, _, _, _, p⟩ := g.each j a e
  exact Heap.lt_size p
theorem Got.at {xs ys : Array Value} {lo : Addr} {h h' : Heap} {as : List Addr} (g : Got xs ys lo h as) (e : ∀ c o, lo < c → h.get? c = some o → h'.get? c = some o) : Got xs ys lo h' as :=
  ⟨g.up, g.high, fun j a q => by
    obtain ⟨x, y, p1, p2, p3⟩ := g.each j a q
    exact ⟨x, y, p1, p2, e a _ (g.high a (List.mem_of_getElem? q)) p3⟩⟩
theorem Got.snoc {xs ys : Array Value} {lo : Addr} {h : Heap} {as : List Addr} (g : Got xs ys lo h as) {b : Addr} {x y : Value} (old : ∀ a ∈ as, a < b) (lb : lo < b) (p1 : xs[as.length]? = some x) (p2 : ys[as.length]? = some y) (p3 : IsPair h b x y) : Got xs ys lo h (as ++ [b]) := by
  refine ⟨List.pairwise_append.mpr ⟨g.up, List.pairwise_singleton _ _, fun a m c n => ?_⟩, fun a m => ?_, fun j a q => ?_⟩
  · rw [List.mem_singleton.mp n]; exact old a m
  · rcases List.mem_append.mp m with m | m
    · exact g.high a m
    · rw [List.mem_singleton.mp m]; exact lb
  · by_cases l : j < as.length
    · rw [List.getElem?_append_left l] at q; exact g.each j a q
    · have e : j = as.length := by
        have := (List.getElem?_eq_some_iff.mp q).1
        simp at this; omega
      subst e
      rw [List.getElem?_append_right (Nat.le_refl _)] at q
      simp at q; subst q
      exact ⟨x, y, p1, p2, p3⟩
section
variable {prog : Program} {w : World} {A : Around} {s : Shared} {R : Result → Shared → Prop} {z TI TO i1 i2 l1 l2 S : Addr} {xs ys : Array Value} {St : Nat → Heap → Prop}
/-- the addresses that S is none of -/
structure Far (S z TI TO i1 i2 l1 l2 : Addr) : Prop where
  az : z < S
  aTI : TI < S
  aTO : TO < S
  a1 : i1 < S
  a2 : i2 < S
  b1 : l1 < S
  b2 : l2 < S
theorem zl_loop (Z : Zs prog w A.in1 z TI TO i1 i2 l1 l2 S xs ys St) (D : ZipApart z TI TO i1 i2 l1 l2) (far : Far S z TI TO i1 i2 l1 l2) (few : min xs.size ys.size ≤ sizeLine) (res : Value) {h₁ : Heap}
    (hR : ∀ h' tk acc c as, (∀ b o, b ≠ S → b ≠ z → b ≠ TO → b ≠ i1 → b ≠ i2 → h₁.get? b = some o → h'.get? b = some o) → h'.get? S = some { cls := .type "list", dict := none, data := .seq acc c, slots := #[] } →
      as.length = min xs.size ys.size → Got xs ys S h' as → acc.toList = as.map Value.ref → R (.ok (.ret res)) { s with heap := h', toks := tk }) :
    ∀ (n i : Nat) (g : Heap) (tk c : Nat) (acc : Array Value) (as : List Addr), n + i = min xs.size ys.size → St i g → IsPair g TI (.ref i1) (.ref i2) → Out g z TI TO i1 i2 S →
      (∀ b o, b ≠ S → b ≠ z → b ≠ TO → b ≠ i1 → b ≠ i2 → h₁.get? b = some o → g.get? b = some o) → g.get? S = some { cls := .type "list", dict := none, data := .seq acc c, slots := #[] } → acc.toList = as.map Value.ref → as.length = i → Got xs ys S g as →
      codeAny (model prog w) A (.builtin "list.extend.loop" ⟨[.ref S, .ref z, res], []⟩) R { s with heap := g, toks := tk } := by
  intro n
  induction n with
  | zero =>
    intro i g tk c acc as len st its o keep lS eacc elen got
    refine codeAny_builtin PySem.F.entry_extend_loop ?_; rw [Around.under_plainId PySem.F.plain_extend_loop _]
    show wpAny _ A.in1 (pyNext (.ref z) >>= _) _ _ _; refine wpAny_bind ?_
    refine Z.stop i { s with heap := g, toks := tk } _ _ ((Nat.le_total xs.size ys.size).imp (fun l => Array.getElem?_eq_none (by omega)) fun l => Array.getElem?_eq_none (by omega)) st its o fun h' k => ?_
    have kS := k S _ (Nat.ne_of_gt far.az) (Nat.ne_of_gt far.aTO) (Nat.ne_of_gt far.a1) (Nat.ne_of_gt far.a2) lS
    refine wpAny_pure (hR h' tk acc c as (fun b o q1 q2 q3 q4 q5 e => k b o q2 q3 q4 q5 (keep b o q1 q2 q3 q4 q5 e)) kS (by omega) (got.at fun c o l e => ?_) eacc)
    exact k c o (Nat.ne_of_gt (Nat.lt_trans far.az l)) (Nat.ne_of_gt (Nat.lt_trans far.aTO l)) (Nat.ne_of_gt (Nat.lt_trans far.a1 l)) (Nat.ne_of_gt (Nat.lt_trans far.a2 l)) e
  | succ n ih =>
    intro i g tk c acc as len st its o keep lS eacc elen got
    have ix : i < xs.size := by omega
    have iy : i < ys.size := by omega
    have al : acc.size = i := by rw [← Array.length_toList, eacc, List.length_map, elen]
    have Sg : S < g.objs.size := Heap.lt_size lS
    refine codeAny_builtin PySem.F.entry_extend_loop ?_; rw [Around.under_plainId PySem.F.plain_extend_loop _]
    show wpAny _ A.in1 (pyNext (.ref z) >>= _) _ _ _; refine wpAny_bind ?_
    refine Z.item i xs[i] ys[i] { s with heap := g, toks := tk } _ _ (Array.getElem?_eq_getElem ix) (Array.getElem?_eq_getElem iy) Sg st its o fun h' o' _ its' st' p sz k => ?_
    have kS := k S _ (Nat.ne_of_gt far.az) (Nat.ne_of_gt far.aTO) (Nat.ne_of_gt far.a1) (Nat.ne_of_gt far.a2) lS
    have upd' : ∀ b o, b ≠ S → h'.get? b = some o → (h'.update S (Obj.mapSeq fun q => q.push (Value.ref g.objs.size))).get? b = some o := fun b o q e => (Heap.get?_update_other _ _ (Ne.symm q)).trans e
    have above : ∀ c o, S < c → g.get? c = some o → (h'.update S (Obj.mapSeq fun q => q.push (Value.ref g.objs.size))).get? c = some o := fun c o l e => upd' c o (Nat.ne_of_gt l) (k c o (Nat.ne_of_gt (Nat.lt_trans far.az l)) (Nat.ne_of_gt (Nat.lt_trans far.aTO l)) (Nat.ne_of_gt (Nat.lt_trans far.a1 l)) (Nat.ne_of_gt (Nat.lt_trans far.a2 l)) e)
    show wpAny _ A.in1 (updateSeq S (fun q => q.push (Value.ref g.objs.size)) >>= _) _ _ _
    refine wpAny_bind (wpAny_updateSeq kS rfl (wpAny_pure ⟨plainId_quiet PySem.F.plain_extend_loop _, ?_⟩) (by rw [al]; omega) (by show (acc.push (Value.ref g.objs.size)).size ≤ sizeLine + 1; rw [Array.size_push, al]; omega))
    refine ih (i + 1) _ tk _ (acc.push (.ref g.objs.size)) (as ++ [g.objs.size]) (by omega) (Z.ext _ _ _ st' fun c q o e => ?_) (upd' _ _ (Nat.ne_of_lt far.aTI) its') (o'.at (Nat.ne_of_lt far.az) (Nat.ne_of_lt far.aTO) fun c ob q e => upd' c ob q e)
      (fun b o q1 q2 q3 q4 q5 e => upd' b o q1 (k b o q2 q3 q4 q5 (keep b o q1 q2 q3 q4 q5 e))) (Heap.get?_update_self _ kS rfl) (by rw [Array.toList_push, eacc, List.map_append]; rfl) (by rw [List.length_append, elen]; rfl) ?_
    · refine upd' c o ?_ e
      rcases q with q | q | q | q <;> rw [q]
      · exact Nat.ne_of_lt far.a1
      · exact Nat.ne_of_lt far.a2
      · exact Nat.ne_of_lt far.b1
      · exact Nat.ne_of_lt far.b2
    · exact (got.at above).snoc (fun a m => got.lt m) Sg (by rw [elen]; exact Array.getElem?_eq_getElem ix) (by rw [elen]; exact Array.getElem?_eq_getElem iy) (upd' _ _ (Nat.ne_of_gt Sg) p)
end
theorem zip_noLen : typeLookup (.type "zip") "__len__" = pure none := by rw [typeLookup_type, builtinLookup_eq_fast]; kernel_rfl
theorem zip_noHint : typeLookup (.type "zip") "__length_hint__" = pure none := by rw [typeLookup_type, builtinLookup_eq_fast]; kernel_rfl
section
variable {prog : Program} {w : World} {A : Around} {s : Shared} {R : Result → Shared → Prop} {z TI TO i1 i2 l1 l2 S : Addr} {xs ys : Array Value} {St : Nat → Heap → Prop}
theorem zl_extend (Z : Zs prog w A.in1 z TI TO i1 i2 l1 l2 S xs ys St) (D : ZipApart z TI TO i1 i2 l1 l2) (far : Far S z TI TO i1 i2 l1 l2) (few : min xs.size ys.size ≤ sizeLine) (res : Value) {c₀ : Nat}
    (zip : IsZip s.heap z TI TO .none) (outp : ∃ a b, IsPair s.heap TO a b) (its : IsPair s.heap TI (.ref i1) (.ref i2)) (st : St 0 s.heap) (lS : s.heap.get? S = some { cls := .type "list", data := .seq #[] c₀ })
    (hR : ∀ h' tk acc c as, (∀ b o, b ≠ S → b ≠ z → b ≠ TO → b ≠ i1 → b ≠ i2 → s.heap.get? b = some o → h'.get? b = some o) → h'.get? S = some { cls := .type "list", dict := none, data := .seq acc c, slots := #[] } →
      as.length = min xs.size ys.size → Got xs ys S h' as → acc.toList = as.map Value.ref → R (.ok (.ret res)) { s with heap := h', toks := tk }) :
    wpAny (model prog w) A.in1 (Builtin.List.listExtendWith (.ref S) (.ref z) res)
      (fun fin s' => match fin with | .done f => R (.ok f) s' | .again c' => c'.quiet = true ∧ codeAny (model prog w) A c' R s') (fun e s' => R (.error e) s') s := by
  have ty : s.TypeIs (.ref z) "zip" := ⟨_, zip, rfl⟩
  have other : Builtin.List.listSameRef (.ref S) (.ref z) = false := by simp [Builtin.List.listSameRef, Nat.ne_of_gt far.az]
  have noL : (Value.type "zip" == Value.type "list") = false := by decide
  have noT : (Value.type "zip" == Value.type "tuple") = false := by decide
  unfold Builtin.List.listExtendWith; refine wpAny_bind (wpAny_typeOf ty ?_)
  simp only [other, noL, noT, Bool.or_false, Bool.false_eq_true, if_false]
  refine wpAny_bind (wpAny_pyIter_zip zip (wpAny_bind (wpAny_holding ?_)))
  unfold Builtin.List.listLengthHint; refine wpAny_bind (wpAny_specialOf ty zip_noLen ?_)
  show wpAny _ A.in1 (specialOf (Value.ref z) (Str.ofString "__length_hint__") >>= _) _ _ _
  refine wpAny_bind (wpAny_specialOf ty zip_noHint (wpAny_pure ?_))
  show wpAny _ A.in1 (rule "list.extend.makes-room" >>= fun _ => Builtin.List.listTouch (.ref S) >>= fun _ => again (.builtin "list.extend.loop" ⟨[.ref S, .ref z, res], []⟩)) _ _ _
  refine wpAny_bind (wpAny_rule (wpAny_bind ?_))
  show wpAny _ A.in1 (updateSeq S (fun q => q.push .none) >>= fun _ => updateSeq S (fun q => q.pop)) _ _ _
  refine wpAny_bind (wpAny_updateSeq lS rfl ?_)
  have lS2 := Heap.get?_update_self (Obj.mapSeq fun q => q.push Value.none) lS rfl
  refine wpAny_updateSeq (hz := by seq_fits) lS2 rfl ?_
  have lS3 := Heap.get?_update_self (Obj.mapSeq fun q => q.pop) lS2 rfl
  have stay : ∀ b o, b ≠ S → s.heap.get? b = some o → ((s.heap.update S (Obj.mapSeq fun q => q.push Value.none)).update S (Obj.mapSeq fun q => q.pop)).get? b = some o := fun b o q e => (Heap.get?_update_other _ _ (Ne.symm q)).trans ((Heap.get?_update_other _ _ (Ne.symm q)).trans e)
  obtain ⟨a, b, outp⟩ := outp
  refine wpAny_pure ⟨plainId_quiet PySem.F.plain_extend_loop _, zl_loop (s := s) (R := R) Z D far few res (h₁ := s.heap) hR (min xs.size ys.size) 0 _ s.toks _ #[] [] (Nat.add_zero _) (Z.ext _ _ _ st fun c q o e => ?_) (stay _ _ (Nat.ne_of_lt far.aTI) its) (.inl ⟨stay _ _ (Nat.ne_of_lt far.az) zip, a, b, stay _ _ (Nat.ne_of_lt far.aTO) outp⟩)
    (fun b o q1 _ _ _ _ e => stay b o q1 e) lS3 rfl rfl ⟨.nil, (fun _ m => nomatch m), fun j a q => by simp at q⟩⟩
  refine stay c o ?_ e
  rcases q with q | q | q | q <;> rw [q]
  · exact Nat.ne_of_lt far.a1
  · exact Nat.ne_of_lt far.a2
  · exact Nat.ne_of_lt far.b1
  · exact Nat.ne_of_lt far.b2
theorem zl_call {E : Value → Shared → Prop} {Q : Value → Shared → Prop} (Z : Zs prog w A.in1.in1 z TI TO i1 i2 l1 l2 s.heap.objs.size xs ys St) (D : ZipApart z TI TO i1 i2 l1 l2) (far : Far s.heap.objs.size z TI TO i1 i2 l1 l2) (few : min xs.size ys.size ≤ sizeLine)
    (zip : IsZip s.heap z TI TO .none) (outp : ∃ a b, IsPair s.heap TO a b) (its : IsPair s.heap TI (.ref i1) (.ref i2)) (st : St 0 s.heap)
    (hQ : ∀ h' tk acc c as, (∀ b o, b ≠ z → b ≠ TO → b ≠ i1 → b ≠ i2 → s.heap.get? b = some o → h'.get? b = some o) → h'.get? s.heap.objs.size = some { cls := .type "list", dict := none, data := .seq acc c, slots := #[] } →
      as.length = min xs.size ys.size → Got xs ys s.heap.objs.size h' as → acc.toList = as.map Value.ref → Q (.ref s.heap.objs.size) { s with heap := h', toks := tk }) :
    wpAny (model prog w) A (call (.type "list") [.ref z]) Q E s := by
  refine callType_codes (Q₁ := fun v t => v = .ref s.heap.objs.size ∧ t = { s with heap := s.heap.push { cls := .type "list", data := .seq #[] } }) PySem.F.called_list (PySem.F.typeCall_list_1 _) PySem.F.entry_list_init (code_list_new _ ⟨rfl, rfl⟩) fun v t ⟨ev, et⟩ => ?_
  subst ev et
  have lS : (s.heap.push { cls := .type "list", data := .seq #[] }).get? s.heap.objs.size = some { cls := .type "list", data := .seq #[] } := Heap.get?_push_size _ rfl
  refine ⟨⟨_, lS, rfl⟩, PySem.F.args_list_init_2 _ _, ?_⟩
  show wpAny _ A.in1.in1 (do let old ← Builtin.List.listItems (.ref s.heap.objs.size); Builtin.List.listUpdate (.ref s.heap.objs.size) (fun _ => #[]); letGo old.toList.reverse; Builtin.List.listExtendWith (.ref s.heap.objs.size) (.ref z) .none) _ _ _
  refine wpAny_bind ?_; unfold Builtin.List.listItems; refine wpAny_bind (wpAny_seqItems lS rfl (wpAny_pure ?_))
  show wpAny _ A.in1.in1 (updateSeq s.heap.objs.size (fun _ => #[]) >>= fun _ => letGo (#[] : Array Value).toList.reverse >>= fun _ => Builtin.List.listExtendWith (.ref s.heap.objs.size) (.ref z) .none) _ _ _
  refine wpAny_bind (wpAny_updateSeq lS rfl ?_)
  have lS2 := Heap.get?_update_self (Obj.mapSeq fun _ => (#[] : Array Value)) lS rfl
  have stay : ∀ b o, b ≠ s.heap.objs.size → s.heap.get? b = some o → ((s.heap.push { cls := .type "list", data := .seq #[] }).update s.heap.objs.size (Obj.mapSeq fun _ => (#[] : Array Value))).get? b = some o := fun b o q e => (Heap.get?_update_other _ _ (Ne.symm q)).trans (Heap.get?_push_of_some _ e)
  obtain ⟨a, b, outp⟩ := outp
  refine wpAny_bind (wpAny_letGo (zl_extend (A := A.in1) Z D far few .none (stay _ _ (Nat.ne_of_lt far.az) zip) ⟨a, b, stay _ _ (Nat.ne_of_lt far.aTO) outp⟩ (stay _ _ (Nat.ne_of_lt far.aTI) its) (Z.ext _ _ _ st fun c q o e => ?_) lS2 fun h' tk acc c as keep l n g e => ?_))
  · refine stay c o ?_ e
    rcases q with q | q | q | q <;> rw [q]
    · exact Nat.ne_of_lt far.a1
    · exact Nat.ne_of_lt far.a2
    · exact Nat.ne_of_lt far.b1
    · exact Nat.ne_of_lt far.b2
  · exact ⟨rfl, hQ h' tk acc c as (fun b o q2 q3 q4 q5 e => keep b o (Nat.ne_of_lt (Heap.lt_size e)) q2 q3 q4 q5 (stay b o (Nat.ne_of_lt (Heap.lt_size e)) e)) l n g e⟩
end
end ZL
namespace ZM
open PySem PySem.Spec PyProof.Rows L2 ZL
/-- new pairs tracked at their addresses -/
def putP : Hp → List Addr → List (V × V) → Hp
  | H, a :: as, q :: qs => putP (upd H a (.tup [q.1, q.2])) as qs
  | H, [], _ => H
  | H, _ :: _, [] => H
theorem putP_off {b : Addr} : ∀ (as : List Addr) (qs : List (V × V)) (H : Hp), b ∉ as → putP H as qs b = H b
  | [], [], _, _ => rfl
  | [], _ :: _, _, _ => rfl
  | _ :: _, [], _, _ => rfl
  | a :: as, q :: qs, H, n => by
    show putP (upd H a (.tup [q.1, q.2])) as qs b = H b
    have n1 : b ≠ a := fun e => n (e ▸ List.mem_cons_self)
    rw [putP_off as qs _ fun m => n (List.mem_cons_of_mem _ m), upd_ne n1]
theorem putP_at : ∀ (as : List Addr) (qs : List (V × V)) (H : Hp), as.length = qs.length → as.Nodup → ∀ (j : Nat) (a : Addr) (q : V × V), as[j]? = some a → qs[j]? = some q → putP H as qs a = some (.tup [q.1, q.2])
  | [], _, _, _, _, j, a, q, e, _ => by simp at e
  | _ :: _, [], _, l, _, _, _, _, _, _ => by cases l
  | b :: as, p :: qs, H, l, nd, 0, a, q, e, e2 => by
    have nd' := List.nodup_cons.mp nd
    cases Option.some.inj e
    cases Option.some.inj e2
    show putP (upd H b (.tup [p.1, p.2])) as qs b = _
    rw [putP_off as qs _ nd'.1, upd_same]
  | b :: as, p :: qs, H, l, nd, j + 1, a, q, e, e2 => by
    have nd' := List.nodup_cons.mp nd
    exact putP_at as qs _ (Nat.succ.inj l) nd'.2 j a q e e2
section
variable {X : Cx}
theorem pairs_laid {pins : List (Addr × Obj)} {σ : L2.St} {H : Hp} {s : Shared} {h' : Heap} {tk : Nat} {xs ys : List V} {us ws : List Value} {acc : Array Value} {c : Nat} {as : List Addr} {S : Addr} (I : Inv X pins σ H s) (few : (xs.zip ys).length ≤ sizeLine) (rx : Vals xs us) (ry : Vals ys ws)
    (hk : ∀ b o, s.heap.get? b = some o → h'.get? b = some o) (low : s.heap.objs.size ≤ S) (lS : h'.get? S = some { cls := .type "list", dict := none, data := .seq acc c, slots := #[] }) (n : as.length = (xs.zip ys).length) (g : Got us.toArray ws.toArray S h' as) (ea : acc.toList = as.map Value.ref) :
    ∃ H' : Hp, (∀ b o, H b = some o → H' b = some o) ∧ H S = none ∧ (∀ t ∈ as, H t = none) ∧ S ∉ as ∧ H' S = some (.lst (as.map V.ref)) ∧ (∀ (j : Nat) (a : Addr) (q : V × V), as[j]? = some a → (xs.zip ys)[j]? = some q → H' a = some (.tup [q.1, q.2])) ∧ Inv X pins σ H' { s with heap := h', toks := tk } := by
  have hSn : S ∉ as := fun m => Nat.lt_irrefl _ (g.high _ m)
  have nd : as.Nodup := g.up.imp fun l => Nat.ne_of_lt l
  have new : ∀ t ∈ as, H t = none := fun t m => I.hok.fresh (Nat.le_trans low (Nat.le_of_lt (g.high t m)))
  have newS : H S = none := I.hok.fresh low
  have atP := putP_at as (xs.zip ys) (upd H S (.lst (as.map V.ref))) n nd
  have off : ∀ b, b ∉ as → b ≠ S → putP (upd H S (.lst (as.map V.ref))) as (xs.zip ys) b = H b := fun b q1 q2 => by rw [putP_off as _ _ q1, upd_ne q2]
  have under : ∀ b o, s.heap.get? b = some o → b ∉ as ∧ b ≠ S := fun b o e => ⟨fun m => absurd (Nat.lt_of_lt_of_le (Heap.lt_size e) low) (Nat.not_lt.mpr (Nat.le_of_lt (g.high b m))), Nat.ne_of_lt (Nat.lt_of_lt_of_le (Heap.lt_size e) low)⟩
  have kp : ∀ b u, H b = some u → (putP (upd H S (.lst (as.map V.ref))) as (xs.zip ys)) b = some u := fun b u e => by
    rw [off b (fun m => by rw [new b m] at e; cases e) (fun m => by rw [m, newS] at e; cases e)]; exact e
  have eS : putP (upd H S (.lst (as.map V.ref))) as (xs.zip ys) S = some (.lst (as.map V.ref)) := by rw [putP_off as _ _ hSn, upd_same]
  refine ⟨putP (upd H S (.lst (as.map V.ref))) as (xs.zip ys), kp, newS, new, hSn, eS, atP, ?_⟩
  refine I.call' (ch := []) rfl ⟨fun b o q _ _ _ => hk b o q, fun b o q _ _ _ => ⟨o.slots, hk b o q⟩, fun b o q m _ => ?_, fun b o q _ => ⟨o, hk b o q⟩, fun b us q => kp b _ q, fun b o u q => kp b _ q, fun b ps q => ⟨#[], by rw [kp b _ q]; simp⟩⟩ (fun b u q => ?_) I.bare fun b m => by simp at m
  · obtain ⟨q1, q2⟩ := under b o q
    rw [off b q1 q2]; exact m
  · by_cases hb : b ∈ as
    · obtain ⟨j, e⟩ := List.mem_iff_getElem?.mp hb
      have jl : j < (xs.zip ys).length := n ▸ (List.getElem?_eq_some_iff.mp e).1
      have e2 := List.getElem?_eq_getElem jl
      have qq := atP j b _ e e2
      rw [qq] at q
      cases q
      obtain ⟨x, y, f1, f2, f3⟩ := g.each j b e
      have zx : (xs.zip ys)[j]? = some ((xs.zip ys)[j]) := e2
      rw [List.getElem?_zip_eq_some] at zx
      obtain ⟨x', k1, r1⟩ := rx.get zx.1
      obtain ⟨y', k2, r2⟩ := ry.get zx.2
      have k1' : us.toArray[j]? = some x' := by simpa using k1
      have k2' : ws.toArray[j]? = some y' := by simpa using k2
      rw [k1'] at f1; cases f1
      rw [k2'] at f2; cases f2
      exact ⟨by show 2 ≤ sizeLine; decide, [x, y], .cons r1 (.cons r2 .nil), ⟨_, f3, rfl, _, rfl⟩⟩
    · by_cases hb2 : b = S
      · subst hb2
        rw [eS] at q
        cases q
        refine ⟨by rw [List.length_map]; omega, acc.toList, c, by rw [ea]; exact LiI.vals_refs as, ?_⟩
        rw [Array.toArray_toList]; exact lS
      · rw [off b hb hb2] at q
        exact (I.hok b u q).stay (fun d v _ y => hk d v y) (fun d y => kp d _ y) fun d us y => kp d _ y
def tListZip (K : PySem.W.Frag) (ta : TA) : TE := fun σ H Q => ta σ H fun vs H1 => ∃ a b xs ys, vs = [.ref a, .ref b] ∧ (xs.zip ys).length ≤ sizeLine ∧ ((SqL K H1 a xs ∧ SqL K H1 b ys) ∨ (SqT K H1 a xs ∧ SqT K H1 b ys)) ∧
  ∀ (H' : Hp) (S : Addr) (ts : List Addr), (∀ c o, H1 c = some o → H' c = some o) → H1 S = none → (∀ t ∈ ts, H1 t = none) → S ∉ ts → H' S = some (.lst (ts.map V.ref)) → ts.length = (xs.zip ys).length → (∀ (j : Nat) (t : Addr) (q : V × V), ts[j]? = some t → (xs.zip ys)[j]? = some q → H' t = some (.tup [q.1, q.2])) → Q (.ref S) H'
theorem pe_listZip {e e2 : Expr} {ta : TA} {p p2 pos pos2 : Pos} (hc : X.calm = true) (hg : Gl X "list") (hm : X.mg "list" = none) (hv : bootBuiltins "list" = some (.type "list")) (hg2 : Gl X "zip") (hm2 : X.mg "zip" = none) (ha : PA X [e, e2] ta)
    (hs : starEach [.Call (.Name "zip" p2) [e, e2] [] pos2] X.env = (false, eval (.Call (.Name "zip" p2) [e, e2] [] pos2) X.env) :: starEach [] X.env := by rfl)
    (hs2 : starEach [e, e2] X.env = (false, eval e X.env) :: starEach [e2] X.env := by rfl) (hpl : (backTo pos2 (starEach [e2] X.env)).any (·.1) = false := by rfl) :
    PE X (.Call (.Name "list" p) [.Call (.Name "zip" p2) [e, e2] [] pos2] [] pos) (tListZip X.K ta) := by
  refine ⟨fun pins s σ H Q I hq => ?_⟩
  refine wpAny_Call_Name_kw (ld_blt I hg hm hv (PyProof.Rows.callWith_type1 ?_ hs rfl))
  rw [hs]
  show wpAny _ _ (spliced ((false, eval (.Call (.Name "zip" p2) [e, e2] [] pos2) X.env) :: backTo pos (starEach [] X.env))) _ _ s
  refine Calls.spliced_cons ?_
  refine Call_ (ld_blt I hg2 hm2 PyProof.Rows.boot_zip (PyProof.Rows.callWith_type1 (thn (ha.run pos2 pins s σ H _ I hq) fun us s1 ⟨vs, H1, I1, r1, q1⟩ => ?_) hs2 hpl))
  obtain ⟨a, b, xs, ys, ex, few, q1, q⟩ := q1
  subst ex
  cases r1 with
  | cons r rr =>
    cases rr with
    | cons r' rr =>
      cases rr
      cases r
      cases r'
      rcases q1 with ⟨hx, hy⟩ | ⟨hx, hy⟩
      · obtain ⟨us, rx, p1, _⟩ := I1.list hx
        obtain ⟨ws, ry, p2', _⟩ := I1.list hy
        refine call_zip_2 p1.isList p2'.isList fun h' hz hTI hTO g1 g2 hsz hk => Calls.spliced_nil ?_
        have la : a < s1.heap.objs.size := p1.lt
        have lb : b < s1.heap.objs.size := p2'.lt
        have D : ZipApart (s1.heap.objs.size + 4) (s1.heap.objs.size + 2) (s1.heap.objs.size + 3) s1.heap.objs.size (s1.heap.objs.size + 1) a b := PySem.W.ktu_apart s1.heap.objs.size a b la lb
        have far : Far h'.objs.size (s1.heap.objs.size + 4) (s1.heap.objs.size + 2) (s1.heap.objs.size + 3) s1.heap.objs.size (s1.heap.objs.size + 1) a b := by
          have z1 : ∀ n, n < 5 → s1.heap.objs.size + n < h'.objs.size := fun n l => by rw [hsz]; exact Nat.add_lt_add_left l _
          exact ⟨z1 4 (by decide), z1 2 (by decide), z1 3 (by decide), z1 0 (by decide), z1 1 (by decide), Nat.lt_trans la (z1 0 (by decide)), Nat.lt_trans lb (z1 0 (by decide))⟩
        have lx := rx.length
        have ly := ry.length
        have zl : (xs.zip ys).length = min us.toArray.size ws.toArray.size := by rw [List.length_zip, lx, ly]; simp
        refine zl_call (s := { s1 with heap := h' }) (zs_list (xs := us.toArray) (ys := ws.toArray) (I1.ok.hd hc) D) D far (by rw [← zl]; exact few) hz ⟨_, _, hTO⟩ hTI ⟨g1, g2, p1.isList.at fun o e => hk _ _ e, p2'.isList.at fun o e => hk _ _ e⟩ fun h2 tk acc c as keep lS n g ea => ?_
        have hk2 : ∀ b o, s1.heap.get? b = some o → h2.get? b = some o := fun b o e => by
          have l := Heap.lt_size e
          exact keep b o (Nat.ne_of_lt (Nat.lt_add_right _ l)) (Nat.ne_of_lt (Nat.lt_add_right _ l)) (Nat.ne_of_lt l) (Nat.ne_of_lt (Nat.lt_add_right _ l)) (hk b o e)
        obtain ⟨H', k1, k2, k3, k4, k5, k6, J⟩ := pairs_laid (tk := tk) I1 few rx ry hk2 (show s1.heap.objs.size ≤ h'.objs.size by omega) lS (by rw [n, zl]) g ea
        exact ⟨.ref _, H', J, rfl, q H' _ as k1 k2 k3 k4 k5 (by rw [n, zl]) k6⟩
      · obtain ⟨us, rx, p1, _⟩ := I1.tuple hx
        obtain ⟨ws, ry, p2', _⟩ := I1.tuple hy
        have t1 : s1.heap.IsTuple a us.toArray := p1
        have t2 : s1.heap.IsTuple b ws.toArray := p2'
        refine RZ.call_zipT t1 t2 fun h' hz hTI hTO g1 g2 hsz hk => Calls.spliced_nil ?_
        have la : a < s1.heap.objs.size := by obtain ⟨_, e, _⟩ := t1; exact Heap.lt_size e
        have lb : b < s1.heap.objs.size := by obtain ⟨_, e, _⟩ := t2; exact Heap.lt_size e
        have D : ZipApart (s1.heap.objs.size + 4) (s1.heap.objs.size + 2) (s1.heap.objs.size + 3) s1.heap.objs.size (s1.heap.objs.size + 1) a b := PySem.W.ktu_apart s1.heap.objs.size a b la lb
        have far : Far h'.objs.size (s1.heap.objs.size + 4) (s1.heap.objs.size + 2) (s1.heap.objs.size + 3) s1.heap.objs.size (s1.heap.objs.size + 1) a b := by
          have z1 : ∀ n, n < 5 → s1.heap.objs.size + n < h'.objs.size := fun n l => by rw [hsz]; exact Nat.add_lt_add_left l _
          exact ⟨z1 4 (by decide), z1 2 (by decide), z1 3 (by decide), z1 0 (by decide), z1 1 (by decide), Nat.lt_trans la (z1 0 (by decide)), Nat.lt_trans lb (z1 0 (by decide))⟩
        have lx := rx.length
        have ly := ry.length
        have zl : (xs.zip ys).length = min us.toArray.size ws.toArray.size := by rw [List.length_zip, lx, ly]; simp
        refine zl_call (s := { s1 with heap := h' }) (zs_tuple (xs := us.toArray) (ys := ws.toArray) (I1.ok.hd hc) D) D far (by rw [← zl]; exact few) hz ⟨_, _, hTO⟩ hTI ⟨g1, g2, t1.at fun o e => hk _ _ e, t2.at fun o e => hk _ _ e⟩ fun h2 tk acc c as keep lS n g ea => ?_
        have hk2 : ∀ b o, s1.heap.get? b = some o → h2.get? b = some o := fun b o e => by
          have l := Heap.lt_size e
          exact keep b o (Nat.ne_of_lt (Nat.lt_add_right _ l)) (Nat.ne_of_lt (Nat.lt_add_right _ l)) (Nat.ne_of_lt l) (Nat.ne_of_lt (Nat.lt_add_right _ l)) (hk b o e)
        obtain ⟨H', k1, k2, k3, k4, k5, k6, J⟩ := pairs_laid (tk := tk) I1 few rx ry hk2 (show s1.heap.objs.size ≤ h'.objs.size by omega) lS (by rw [n, zl]) g ea
        exact ⟨.ref _, H', J, rfl, q H' _ as k1 k2 k3 k4 k5 (by rw [n, zl]) k6⟩
end
end ZM
namespace G
open PySem L2
section
variable {K : PySem.W.Frag} {W0 W : Wd} {Γ : Gm} {ta tb : TE}
theorem dfs_each : ∀ (vs : List V) (ds : List PyData), vs.length = ds.length → (∀ (j : Nat) (v : V) (d : PyData), vs[j]? = some v → ds[j]? = some d → Df K W v d) → Dfs K W vs ds
  | [], [], _, _ => .nil
  | v :: vs, d :: ds, l, f => .cons (f 0 v d rfl rfl) (dfs_each vs ds (Nat.succ.inj l) fun j v d e e2 => f (j + 1) v d e e2)
/-- list(zip(x, y)) of two lists or of two tuples -/
theorem wpN_zip {P : List PyData → Prop} (h : wpE K W0 ta Γ fun c => wpE K W0 tb Γ fun d => ∃ ds es, ((c = .list ds ∧ d = .list es) ∨ (c = .tuple ds ∧ d = .tuple es)) ∧ min ds.length es.length ≤ sizeLine ∧ P (zipD ds es)) : wpN K W0 (ZM.tListZip K (tCons ta (tCons tb tNil))) Γ P := fun W σ S Q k =>
  h W σ S _ fun v W1 c e1 f1 h1 => h1 W1 σ (S.mono e1) _ fun u W2 d e2 f2 ⟨ds, es, hk, few, p⟩ => by
    have f1' := Df.mono (e2.lf e1.ok) _ _ f1
    have key : ∀ (a b : Addr) (vs us : List V), ((SqL K W2.H a vs ∧ SqL K W2.H b us) ∨ (SqT K W2.H a vs ∧ SqT K W2.H b us)) → Dfs K W2 vs ds → Dfs K W2 us es → ∃ a' b' xs ys, [V.ref a, V.ref b] = [.ref a', .ref b'] ∧ (xs.zip ys).length ≤ sizeLine ∧ ((SqL K W2.H a' xs ∧ SqL K W2.H b' ys) ∨ (SqT K W2.H a' xs ∧ SqT K W2.H b' ys)) ∧
        ∀ (H' : Hp) (S : Addr) (ts : List Addr), (∀ c o, W2.H c = some o → H' c = some o) → W2.H S = none → (∀ t ∈ ts, W2.H t = none) → S ∉ ts → H' S = some (.lst (ts.map V.ref)) → ts.length = (xs.zip ys).length → (∀ (j : Nat) (t : Addr) (q : V × V), ts[j]? = some t → (xs.zip ys)[j]? = some q → H' t = some (.tup [q.1, q.2])) → Q (.ref S) H' := by
      intro a b vs us sq d1 d2
      have l1 := d1.length
      have l2 := d2.length
      have lz : (vs.zip us).length = min ds.length es.length := by rw [List.length_zip, l1, l2]
      refine ⟨a, b, vs, us, rfl, by rw [lz]; exact few, sq, fun H' S ts kp nS nts _ lS len at' => ?_⟩
      have e3 : Le W2 ⟨W2.Fz, W2.B, H'⟩ := ⟨⟨fun c q => by
          cases e : W2.H c with
          | none => exact absurd e (e2.ok.fz c q)
          | some o => show H' c ≠ none; rw [kp c o e]; simp, fun c q => by
          obtain ⟨x, y, z, e⟩ := e2.ok.bx c q
          exact ⟨x, y, z, kp c _ e⟩, e2.ok.fb⟩, fun _ q => q, fun _ q => q, fun c o e _ => kp c o e, fun _ q n => absurd q n, fun _ q n => absurd q n⟩
      have g1 := Dfs.mono (e3.lf e2.ok) _ _ d1
      have g2 := Dfs.mono (e3.lf e2.ok) _ _ d2
      refine k (.ref S) ⟨W2.Fz, W2.B, H'⟩ (zipD ds es) ((e1.trans e2).trans e3) ⟨S, ts.map V.ref, rfl, (e1.trans e2).fresh nS, fun q => e2.ok.fz S q nS, fun q => ?_, lS, dfs_each _ _ (by rw [List.length_map, len, lz, zipD_len]) fun j v d z1 z2 => ?_⟩ p
      · obtain ⟨_, _, _, e⟩ := e2.ok.bx S q
        rw [nS] at e; cases e
      · rw [List.getElem?_map] at z1
        cases zt : ts[j]? with
        | none => rw [zt] at z1; cases z1
        | some t =>
          rw [zt] at z1
          cases Option.some.inj z1
          obtain ⟨x, y, q1, q2, rfl⟩ := zipD_get z2
          obtain ⟨v1, k1, r1⟩ := g1.get q1
          obtain ⟨v2, k2, r2⟩ := g2.get q2
          have := at' j t (v1, v2) zt (List.getElem?_zip_eq_some.mpr ⟨k1, k2⟩)
          exact .tup (.inl (.inl this)) (.cons r1 (.cons r2 .nil))
    rcases hk with ⟨hc, hd⟩ | ⟨hc, hd⟩
    · subst hc hd
      cases f1' with
      | @lst a vs _ q f =>
        cases f2 with
        | @lst b us _ q2 f2 => exact key a b vs us (.inl ⟨q.elim (fun q => .inl q.1) fun q => q _, q2.elim (fun q => .inl q.1) fun q => q _⟩) f f2
    · subst hc hd
      obtain ⟨a, vs, rfl, q, f⟩ := f1'.tup_inv
      obtain ⟨b, us, rfl, q2, f2⟩ := f2.tup_inv
      exact key a b vs us (.inr ⟨q, q2⟩) f f2
end
end G

set_option Elab.async false
set_option linter.all false
set_option autoImplicit false
set_option maxRecDepth 100000
set_option maxHeartbeats 4000000
/-! G10: own dicts read, tested and told; tests that change own slots; pops into several names. -/
namespace G
open PySem L2
theorem set_same {α : Type} : ∀ {l : List α} {i : Nat} {x : α}, l[i]? = some x → l.set i x = l
  | [], _, _, h => by simp at h
  | a :: l, 0, x, h => by cases Option.some.inj h; rfl
  | a :: l, i + 1, x, h => by rw [List.set_cons_succ, set_same (l := l) (i := i) h]
/-- a test that may change slots -/
def wpTG (K : PySem.W.Frag) (W0 : Wd) (t : TT) (Γ : Gm) (P : Bool → Gm → Prop) : Prop := ∀ W σ, Sat K W0 W σ Γ → ∀ Q : Bool → Hp → Prop, (∀ W' b Γ', Lf W W' → Sat K W0 W' σ Γ' → P b Γ' → Q b W'.H) → t σ W.H Q
section
variable {K : PySem.W.Frag} {W0 W W' W1 : Wd} {σ : L2.St} {Γ : Gm} {D : Ends} {A : AE} {ta tb te tx ty tv tk : TE} {t u : TS} {tt tu : TT}
theorem wpTG_of {P : Bool → Gm → Prop} (h : wpT K W0 tt Γ fun b => P b Γ) : wpTG K W0 tt Γ P := fun W σ S Q k => h W σ S Q fun W1 b e p => k W1 b Γ (e.lf S.ok) (S.mono e) p
theorem wpTG_not {P : Bool → Gm → Prop} (h : wpTG K W0 tt Γ fun b Γ' => P (!b) Γ') : wpTG K W0 (tNot tt) Γ P := fun W σ S Q k => h W σ S _ fun W1 b Γ' e S' p => k W1 (!b) Γ' e S' p
theorem wpTG_or {P : Bool → Gm → Prop} (h : wpTG K W0 tt Γ fun b Γ' => (b = true → P true Γ') ∧ (b = false → wpTG K W0 tu Γ' P)) : wpTG K W0 (tOr tt tu) Γ P := fun W σ S Q k => h W σ S _ fun W1 b Γ' e S' p => by
  cases b with
  | false =>
    show tu σ W1.H Q
    exact p.2 rfl W1 σ S' Q fun W2 c Γ2 e2 S2 q => k W2 c Γ2 (e.trans e2) S2 q
  | true => exact k W1 true Γ' e S' (p.1 rfl)
theorem wpTG_and {P : Bool → Gm → Prop} (h : wpTG K W0 tt Γ fun b Γ' => (b = true → wpTG K W0 tu Γ' P) ∧ (b = false → P false Γ')) : wpTG K W0 (tAnd tt tu) Γ P := fun W σ S Q k => h W σ S _ fun W1 b Γ' e S' p => by
  cases b with
  | true =>
    show tu σ W1.H Q
    exact p.1 rfl W1 σ S' Q fun W2 c Γ2 e2 S2 q => k W2 c Γ2 (e.trans e2) S2 q
  | false => exact k W1 false Γ' e S' (p.2 rfl)
theorem go_ifG (h : wpTG K W0 tt Γ fun b Γ' => (b = true → go K W0 t Γ' A) ∧ (b = false → go K W0 u Γ' A)) : go K W0 (tIfS tt t u) Γ A := fun W σ D S c =>
  h W σ S _ fun W' b Γ' e S' p => by
    cases b with
    | true =>
      show t D σ W'.H
      exact p.1 rfl W' σ D S' (c.later e)
    | false =>
      show u D σ W'.H
      exact p.2 rfl W' σ D S' (c.later e)
/-- what setdefault leaves and tells -/
def stdD (ds : List (PyData × PyData)) (y z : PyData) : List (PyData × PyData) := if (getK ds y).isSome = true then ds else putD ds y z
/-- x.setdefault(y, z) op e, x a dict of the def's own -/
theorem wpTG_setd {i : Nat} {ds : List (PyData × PyData)} {r : R2} {P : Bool → Gm → Prop} (hi : Γ[i]? = some (.k ds))
    (h : wpE K W0 ty Γ fun y => wpE K W0 tx Γ fun z => ∃ k, y = keyD k ∧ ds.length < 10000000 ∧ wpE K W0 te (Γ.set i (.k (stdD ds y z))) fun d => opR K r ((getK ds y).getD z) d fun q => ∃ b, q = .bool b ∧ P b (Γ.set i (.k (stdD ds y z)))) :
    wpTG K W0 (tTest (tOp r (tDSetd (tVar i) ty tx) te)) Γ P := fun W σ S Q k => by
  have hs : sizeLine = 16777216 := sizeLine_eq
  obtain ⟨a, kvs, g1, g2, g3, g4, g5, g6⟩ := S.varK hi
  refine ⟨_, g1, a, rfl, .inl ⟨kvs, .inl g5⟩, h W σ S _ fun y W1 dy e1 f1 h1 => h1 W1 σ (S.mono e1) _ fun z W2 dz e2 f2 ⟨l, el, hl, h2⟩ => ?_⟩
  subst el
  cases f1.key_inv
  have S2 := S.mono (e1.trans e2)
  obtain ⟨a', kvs', i1, i2, i3, i4, i5, i6⟩ := S2.varK hi
  rw [g1] at i1
  cases i1
  have fin : ∀ (W3 : Wd) (v : V), Lf W2 W3 → Sat K W0 W3 σ (Γ.set i (.k (stdD ds (keyD l) dz))) → Df K W3 v ((getK ds (keyD l)).getD dz) → te σ W3.H fun u H => r v u H fun q H => ∃ b, q = .bl b ∧ Q b H := fun W3 v lf S3 fv =>
    h2 W3 σ S3 _ fun u W4 d e4 f4 q4 => q4 W4 v u e4.ok (Df.mono (e4.lf S3.ok) _ _ fv) f4 _ fun q W5 dq e5 f5 ⟨b, hb, p⟩ => by
      subst hb
      cases f5.bool_inv
      exact ⟨b, rfl, k W5 b _ ((((e1.trans e2).lf S.ok).trans lf).trans ((e4.trans e5).lf S3.ok)) (S3.mono (e4.trans e5)) p⟩
  refine ⟨kvs', l, i5, rfl, by rw [i6.length]; omega, fun v hv => ?_, fun hn => ?_⟩
  · rcases i6.get (k := l) with ⟨q1, _⟩ | ⟨v', d', q1, q2, q3⟩
    · rw [q1] at hv; cases hv
    · rw [q1] at hv; cases hv
      have e : stdD ds (keyD l) dz = ds := by unfold stdD; rw [q2]; rfl
      refine fin W2 v (.refl e2.ok) ?_ (by rw [q2]; exact q3)
      rw [e, set_same hi]
      exact S2
  · rcases i6.get (k := l) with ⟨_, q2⟩ | ⟨v', d', q1, q2, q3⟩
    · have e : stdD ds (keyD l) dz = putD ds (keyD l) dz := by unfold stdD; rw [q2]; rfl
      have lf := e2.ok.mutLf (o' := .dK (putK kvs' l z)) i5 trivial i3 i4
      refine fin ⟨W2.Fz, W2.B, upd W2.H a (.dK (putK kvs' l z))⟩ z lf ?_ (by rw [q2]; exact Df.mono lf _ _ f2)
      rw [e]
      exact S2.mutK hi g1 i2 i3 i4 i5 lf (Dps.mono lf _ _ (Dps.put f2 i6))
    · rw [q1] at hn; cases hn
/-- y not in x -/
theorem wpT_dnin {i : Nat} {ds : List (PyData × PyData)} {P : Bool → Prop} (hi : Γ[i]? = some (.k ds)) (h : wpE K W0 ty Γ fun y => ∃ k, y = keyD k ∧ P (!(getK ds y).isSome)) : wpT K W0 (tB (tDNotIn ty (tVar i))) Γ P := fun W σ S Q k => h W σ S _ fun y W1 dy e1 f1 ⟨l, el, p⟩ => by
  subst el
  cases f1.key_inv
  obtain ⟨a, kvs, i1, i2, i3, i4, i5, i6⟩ := (S.mono e1).varK hi
  refine ⟨_, i1, a, valV kvs l, rfl, DGet.k i5, _, rfl, k W1 _ e1 ?_⟩
  rcases i6.get (k := l) with ⟨q1, q2⟩ | ⟨v, d, q1, q2, q3⟩
  · rw [q2] at p; rw [q1]; exact p
  · rw [q2] at p; rw [q1]; exact p
theorem wpT_din {i : Nat} {ds : List (PyData × PyData)} {P : Bool → Prop} (hi : Γ[i]? = some (.k ds)) (h : wpE K W0 ty Γ fun y => ∃ k, y = keyD k ∧ P (getK ds y).isSome) : wpT K W0 (tB (tDIn ty (tVar i))) Γ P := fun W σ S Q k => h W σ S _ fun y W1 dy e1 f1 ⟨l, el, p⟩ => by
  subst el
  cases f1.key_inv
  obtain ⟨a, kvs, i1, i2, i3, i4, i5, i6⟩ := (S.mono e1).varK hi
  refine ⟨_, i1, a, valV kvs l, rfl, DGet.k i5, _, rfl, k W1 _ e1 ?_⟩
  rcases i6.get (k := l) with ⟨q1, q2⟩ | ⟨v, d, q1, q2, q3⟩
  · rw [q2] at p; rw [q1]; exact p
  · rw [q2] at p; rw [q1]; exact p
/-- x[y], x a dict of the def's own -/
theorem wpE_dgetK {i : Nat} {ds : List (PyData × PyData)} {P : PyData → Prop} (hi : Γ[i]? = some (.k ds)) (h : wpE K W0 ty Γ fun y => ∃ k d, y = keyD k ∧ getK ds y = some d ∧ P d) : wpE K W0 (tDGet (tVar i) ty) Γ P := fun W σ S Q k => by
  obtain ⟨a, kvs, g1, g2, g3, g4, g5, g6⟩ := S.varK hi
  refine ⟨_, g1, h W σ S _ fun y W1 dy e1 f1 ⟨l, d, el, q, p⟩ => ?_⟩
  subst el
  cases f1.key_inv
  obtain ⟨a', kvs', i1, i2, i3, i4, i5, i6⟩ := (S.mono e1).varK hi
  rw [g1] at i1
  cases i1
  rcases i6.get (k := l) with ⟨q1, q2⟩ | ⟨v, d', q1, q2, q3⟩
  · rw [q2] at q; cases q
  · rw [q2] at q; cases q
    exact ⟨a, v, rfl, by rw [← q1]; exact DGet.k i5, k v W1 _ e1 q3 p⟩
/-- x, y = xs.pop() -/
theorem go_popG {i : Nat} {vs : List Nat} {g : TG} {xs : List PyData} {d : PyData} (hi : Γ[i]? = some (.l xs)) (hd : xs[xs.length - 1]? = some d) (h : wpG K W0 vs g d (Γ.set i (.l xs.dropLast)) A.nx) : go K W0 (tAsg (tBM0 K "list" rPop (tVar i)) g) Γ A := fun W σ D S c => by
  obtain ⟨a, us, h1, h2, h3, h4, h5, h6⟩ := S.varL hi
  obtain ⟨v, hv, fv⟩ := h6.get hd
  have lf := S.ok.mutLf (o' := .lst us.dropLast) h5 trivial h3 h4
  have S1 := S.mutL hi h1 h2 h3 h4 h5 lf (Dfs.mono lf _ _ h6.dropLast)
  exact ⟨_, h1, .inl ⟨rfl, us, .inl (.inl h5)⟩, a, us, v, rfl, rfl, h5, by rw [h6.length]; exact hv,
    h _ σ S1 v (Df.mono lf _ _ fv) D.nx fun σ' Γ' W2 e2 S2 _ q => c.nx Γ' W2 σ' (lf.trans (e2.lf S1.ok)) S2 q⟩
/-- list(x.items()), x a dict of the def's own -/
theorem wpN_itemsK {i : Nat} {ds : List (PyData × PyData)} {P : List PyData → Prop} (hi : Γ[i]? = some (.k ds)) (p : P (ds.map fun q => .tuple [q.1, q.2])) : wpN K W0 (LiI.tListItems (tVar i)) Γ P := fun W σ S Q k => by
  obtain ⟨a, kvs, g1, g2, g3, g4, g5, g6⟩ := S.varK hi
  refine ⟨_, g1, a, kvs, rfl, g5, fun H' S' ts kp nS nts nin lS prd => ?_⟩
  have e3 : Le W ⟨W.Fz, W.B, H'⟩ := ⟨⟨fun c q => by
      cases e : W.H c with
      | none => exact absurd e (S.ok.fz c q)
      | some o => show H' c ≠ none; rw [kp c o e]; simp, fun c q => by
      obtain ⟨x, y, z, e⟩ := S.ok.bx c q
      exact ⟨x, y, z, kp c _ e⟩, S.ok.fb⟩, fun _ q => q, fun _ q => q, fun c o e _ => kp c o e, fun _ q n => absurd q n, fun _ q n => absurd q n⟩
  refine k (.ref S') ⟨W.Fz, W.B, H'⟩ _ e3 ⟨S', ts.map V.ref, rfl, nS, fun q => S.ok.fz S' q nS, fun q => ?_, lS, ?_⟩ p
  · obtain ⟨_, _, _, e⟩ := S.ok.bx S' q
    rw [nS] at e; cases e
  · have g := Dps.mono (e3.lf S.ok) _ _ g6
    clear nin lS nts k p hi g1 g5 g6
    induction prd generalizing ds with
    | nil => cases g; exact .nil
    | @cons t q ts kvs r rs ih =>
      cases g with
      | @cons l v _ d es f fs =>
        refine .cons (.tup (.inl (.inl r)) (.cons ?_ (.cons f .nil))) (ih fs)
        cases l with
        | inl n => exact .int n
        | inr x => exact .str x
end
end G

set_option Elab.async false
set_option linter.all false
set_option autoImplicit false
set_option maxRecDepth 100000
set_option maxHeartbeats 4000000
/-! G11: tuple(x.items()), x a dict of the def's own. -/
namespace ZM
open PySem PySem.Spec PyProof.Rows L2 ZL PySem.W
open AutoSeq1 (wpAny_loadPart')
theorem tupNew_items (r d : Addr) (es : Array DictEntry) (ep : Nat) (few : es.size ≤ sizeLine) :
    Meets (Builtin.«tuple.__new__» ⟨[.type "tuple", .ref r], []⟩) (fun A R s => A.handled = none ∧ s.heap.IsItemsView r d ∧ s.heap.DictRaw d es ep ∧
      ∀ (h' : Heap) (tk : Nat) (as : List Addr), (∀ b o, s.heap.get? b = some o → h'.get? b = some o) → as.length = es.size → DilG es s.heap.objs.size h' as → R (.ok (.ret (.ref h'.objs.size))) { s with heap := h'.push { cls := .type "tuple", data := .seq (as.map Value.ref).toArray }, toks := tk }) :=
  .of_wp fun prog w A R s h => by
    obtain ⟨calm, view, raw, fin⟩ := h
    have f1 := sub_tuple_self; have f2 := init_tuple_lookup; have f3 := madeHere_tuple
    have ty : s.TypeIs (.ref r) "dict_items" := view.typeIs
    obtain ⟨ov, gv, cv, dv⟩ := id view
    have calm1 : A.in1.handled = none := calm
    wp_walk using wpAny_loadPart' gv, wpAny_typeOf ty, dil_collect (es := es) (ep := ep) calm1 view raw few
    intro h' tk as keep n g
    show wpAny _ _ (Builtin.Tuple.tupleExact (as.map Value.ref).toArray >>= fun v => ret v) _ _ _
    unfold Builtin.Tuple.tupleExact
    refine wpAny_bind (wpAny_newObj_type (wpAny_pure ⟨_, rfl, ?_⟩) (show (as.map Value.ref).toArray.size ≤ sizeLine by simp; omega))
    exact fin h' tk as keep n g
section
variable {prog : Program} {w : World} {A : Around} {E : Value → Shared → Prop} {s : Shared}
theorem tupCall_items {r d : Addr} {es : Array DictEntry} {ep : Nat} {Q : Value → Shared → Prop} (calm : A.handled = none) (view : s.heap.IsItemsView r d) (raw : s.heap.DictRaw d es ep) (few : es.size ≤ sizeLine)
    (fin : ∀ (h' : Heap) (tk : Nat) (as : List Addr), (∀ b o, s.heap.get? b = some o → h'.get? b = some o) → as.length = es.size → DilG es s.heap.objs.size h' as → Q (.ref h'.objs.size) { s with heap := h'.push { cls := .type "tuple", data := .seq (as.map Value.ref).toArray }, toks := tk }) :
    wpAny (model prog w) A (call (.type "tuple") [.ref r]) Q E s :=
  callType_new PySem.F.called_tuple (by decide) (PySem.F.typeCall_tuple_1 _) (PySem.F.newCall_tuple_1 _) (fun obj => PySem.F.args_object_init_2 obj _) PySem.F.entry_tuple_new (tupNew_items r d es ep few)
    ⟨calm, view, raw, fun h' tk as keep n g => ⟨⟨_, Heap.get?_push_size _ rfl, rfl⟩, fin h' tk as keep n g⟩⟩
end
section
variable {X : Cx}
theorem tup_laid {pins : List (Addr × Obj)} {σ : L2.St} {H : Hp} {s : Shared} {h' : Heap} {tk : Nat} {qs : List (V × V)} {as : List Addr} {S : Addr} (I : Inv X pins σ H s) (few : qs.length ≤ sizeLine)
    (hk : ∀ b o, s.heap.get? b = some o → h'.get? b = some o) (low : s.heap.objs.size ≤ S) (lowA : ∀ a ∈ as, s.heap.objs.size ≤ a) (nd : as.Nodup) (hSn : S ∉ as) (lS : h'.get? S = some { cls := .type "tuple", data := .seq (as.map Value.ref).toArray }) (n : as.length = qs.length)
    (each : ∀ (j : Nat) (a : Addr) (q : V × V), as[j]? = some a → qs[j]? = some q → ∃ x y, RelV q.1 x ∧ RelV q.2 y ∧ IsPair h' a x y) :
    ∃ H' : Hp, (∀ b o, H b = some o → H' b = some o) ∧ H S = none ∧ (∀ t ∈ as, H t = none) ∧ S ∉ as ∧ H' S = some (.tup (as.map V.ref)) ∧ (∀ (j : Nat) (a : Addr) (q : V × V), as[j]? = some a → qs[j]? = some q → H' a = some (.tup [q.1, q.2])) ∧ Inv X pins σ H' { s with heap := h', toks := tk } := by
  have new : ∀ t ∈ as, H t = none := fun t m => I.hok.fresh (lowA t m)
  have newS : H S = none := I.hok.fresh low
  have atP := putP_at as qs (upd H S (.tup (as.map V.ref))) n nd
  have off : ∀ b, b ∉ as → b ≠ S → putP (upd H S (.tup (as.map V.ref))) as qs b = H b := fun b q1 q2 => by rw [putP_off as _ _ q1, upd_ne q2]
  have under : ∀ b o, s.heap.get? b = some o → b ∉ as ∧ b ≠ S := fun b o e => ⟨fun m => absurd (Heap.lt_size e) (Nat.not_lt.mpr (lowA b m)), Nat.ne_of_lt (Nat.lt_of_lt_of_le (Heap.lt_size e) low)⟩
  have kp : ∀ b u, H b = some u → (putP (upd H S (.tup (as.map V.ref))) as qs) b = some u := fun b u e => by
    rw [off b (fun m => by rw [new b m] at e; cases e) (fun m => by rw [m, newS] at e; cases e)]; exact e
  have eS : putP (upd H S (.tup (as.map V.ref))) as qs S = some (.tup (as.map V.ref)) := by rw [putP_off as _ _ hSn, upd_same]
  refine ⟨putP (upd H S (.tup (as.map V.ref))) as qs, kp, newS, new, hSn, eS, atP, ?_⟩
  refine I.call' (ch := []) rfl ⟨fun b o q _ _ _ => hk b o q, fun b o q _ _ _ => ⟨o.slots, hk b o q⟩, fun b o q m _ => ?_, fun b o q _ => ⟨o, hk b o q⟩, fun b us q => kp b _ q, fun b o u q => kp b _ q, fun b ps q => ⟨#[], by rw [kp b _ q]; simp⟩⟩ (fun b u q => ?_) I.bare fun b m => by simp at m
  · obtain ⟨q1, q2⟩ := under b o q
    rw [off b q1 q2]; exact m
  · by_cases hb : b ∈ as
    · obtain ⟨j, e⟩ := List.mem_iff_getElem?.mp hb
      have e2 := List.getElem?_eq_getElem (show j < qs.length from n ▸ (List.getElem?_eq_some_iff.mp e).1)
      have qq := atP j b _ e e2
      rw [qq] at q
      cases q
      obtain ⟨x, y, r1, r2, f3⟩ := each j b _ e e2
      exact ⟨by show 2 ≤ sizeLine; decide, [x, y], .cons r1 (.cons r2 .nil), ⟨_, f3, rfl, _, rfl⟩⟩
    · by_cases hb2 : b = S
      · subst hb2
        rw [eS] at q
        cases q
        exact ⟨by rw [List.length_map]; omega, as.map Value.ref, LiI.vals_refs as, ⟨_, lS, rfl, _, rfl⟩⟩
      · rw [off b hb hb2] at q
        exact (I.hok b u q).stay (fun d v _ y => hk d v y) (fun d y => kp d _ y) fun d us y => kp d _ y
def tTupItems (te : TE) : TE := fun σ H Q => te σ H fun x H1 => ∃ (d : Addr) (kvs : List (Key × V)), x = .ref d ∧ H1 d = some (.dK kvs) ∧
  ∀ (H' : Hp) (S : Addr) (ts : List Addr), (∀ c o, H1 c = some o → H' c = some o) → H1 S = none → (∀ t ∈ ts, H1 t = none) → S ∉ ts → H' S = some (.tup (ts.map V.ref)) → ts.length = kvs.length → (∀ (j : Nat) (t : Addr) (q : Key × V), ts[j]? = some t → kvs[j]? = some q → H' t = some (.tup [kV q.1, q.2])) → Q (.ref S) H'
theorem pe_tupItems {e : Expr} {te : TE} {p apos cpos pos : Pos} (hc : X.calm = true) (he : PE X e te) (hg : Gl X "tuple") (hm : X.mg "tuple" = none) (hv : bootBuiltins "tuple" = some (.type "tuple")) (hbase : attributeBase e "items" X.env (eval e X.env) = eval e X.env := by rfl) (hline : (apos.endLine == cpos.line) = true := by rfl)
    (hs : starEach [.Call (.Attribute e "items" apos) [] [] cpos] X.env = (false, eval (.Call (.Attribute e "items" apos) [] [] cpos) X.env) :: starEach [] X.env := by rfl) :
    PE X (.Call (.Name "tuple" p) [.Call (.Attribute e "items" apos) [] [] cpos] [] pos) (tTupItems te) := by
  refine ⟨fun pins s σ H Q I hq => ?_⟩
  refine wpAny_Call_Name_kw (ld_blt I hg hm hv (PyProof.Rows.callWith_type1 ?_ hs rfl)); rw [hs]
  show wpAny _ _ (spliced ((false, eval (.Call (.Attribute e "items" apos) [] [] cpos) X.env) :: backTo pos (starEach [] X.env))) _ _ s
  refine Calls.spliced_cons (wpAny_Call_method (T := "dict") (id := "dict.items") hbase rfl hline PySem.F.plainAttrs_dict PySem.F.slot_dict_items PySem.F.type_dict_items (thn (he.run pins s σ H _ I hq) fun u s1 ⟨x, H1, I1, rx, d, kvs, ex, hd, q⟩ => ?_))
  subst ex
  obtain rfl : u = Value.ref d := rx
  obtain ⟨hz, hs0, vs, kv, hdo⟩ := I1.hok d _ hd
  obtain ⟨ep, hat⟩ := hdo.dictAt
  obtain ⟨es, raw, esz, rel⟩ := hat.raw
  have lk : kvs.length = vs.length := Paired.length kv
  refine ⟨hdo.typeIs, hdo.mapOf.noDict, ?_⟩
  show wpAny _ _ (callWith cpos (.builtin "dict.items") [.ref d] [] []) _ X.xe s1
  refine method_meetsIn PySem.F.slot_dict_items PySem.F.entry_dict_items rfl (PySem.evalArgs_none ⟨rfl, hdo.typeIs, PySem.F.args_dict_items_1 _, _, meets_dict_items (mixKind X.prog X.w) d hs0, ⟨vs, hdo⟩, Calls.spliced_nil ?_⟩)
  refine tupCall_items (ep := ep) (es := es) (I1.ok.hd hc) ⟨_, Heap.get?_push_size _ rfl, rfl, rfl⟩ (raw.push _) (by omega) fun h' tk as hk n g => ?_
  have hk2 : ∀ b o, s1.heap.get? b = some o → (h'.push { cls := .type "tuple", data := .seq (as.map Value.ref).toArray }).get? b = some o := fun b o e => Heap.get?_push_of_some _ (hk b o (Heap.get?_push_of_some _ e))
  have above : ∀ a ∈ as, s1.heap.objs.size ≤ a := fun a m => Nat.le_of_lt (Nat.lt_of_le_of_lt (by show s1.heap.objs.size ≤ (s1.heap.push _).objs.size; rw [Heap.size_push]; exact Nat.le_succ _) (g.above a m))
  have big : s1.heap.objs.size ≤ h'.objs.size := Nat.le_of_lt (Heap.lt_size (hk _ _ (Heap.get?_push_size s1.heap (o := { cls := .type "dict_items", data := .fields #[.ref d] }) rfl)))
  have each : ∀ (j : Nat) (a : Addr) (q : V × V), as[j]? = some a → (kvs.map fun q => (kV q.1, q.2))[j]? = some q → ∃ x y, RelV q.1 x ∧ RelV q.2 y ∧ IsPair (h'.push { cls := .type "tuple", data := .seq (as.map Value.ref).toArray }) a x y := by
    intro j a q e1 e2
    obtain ⟨jl, pr⟩ := g.pairs j a e1
    have jv : j < vs.length := by omega
    have jk : j < kvs.length := by omega
    rw [List.getElem?_map, List.getElem?_eq_getElem jk] at e2
    cases Option.some.inj e2
    obtain ⟨qv, g1, g2, g3⟩ := LiI.paired_get kv (List.getElem?_eq_getElem jk)
    obtain ⟨r1, r2⟩ := rel j jl qv.1 qv.2 g1
    exact ⟨_, _, by show RelV (kV kvs[j].1) es[j].key; rw [g2]; exact relV_key (show keyIs qv.1 es[j].key = true from r1), by show RelV kvs[j].2 es[j].val; rw [r2]; exact g3, Heap.get?_push_of_some _ pr⟩
  obtain ⟨H', k1, k2, k3, k4, k5, k6, J⟩ := tup_laid (tk := tk) (qs := kvs.map fun q => (kV q.1, q.2)) (S := h'.objs.size) (as := as) I1 (by rw [List.length_map]; exact hz) hk2 big above (g.rise.imp fun l => Nat.ne_of_lt l) (fun m => Nat.lt_irrefl _ (g.there m)) (Heap.get?_push_size _ rfl) (by rw [List.length_map]; omega) each
  refine ⟨.ref _, H', J, rfl, q H' _ as k1 k2 k3 k4 k5 (by omega) fun j t q e1 e2 => ?_⟩
  exact k6 j t (kV q.1, q.2) e1 (by rw [List.getElem?_map, e2]; rfl)
end
end ZM
namespace G
open PySem L2
section
variable {K : PySem.W.Frag} {W0 : Wd} {Γ : Gm}
theorem dps_at {W : Wd} {t : Addr} : ∀ (kvs : List (Key × V)) (ds : List (PyData × PyData)) (j : Nat) (lt : j < kvs.length), Dps K W kvs ds → ∀ d, (ds[j]?.map fun q => PyData.tuple [q.1, q.2]) = some d → W.H t = some (.tup [kV kvs[j].1, kvs[j].2]) → Df K W (.ref t) d
  | [], _, _, lt, _, _, _, _ => absurd lt (Nat.not_lt_zero _)
  | _ :: _, _, 0, _, @Dps.cons _ _ l v _ d0 _ f _, _, z, r => by
    cases Option.some.inj z
    refine .tup (.inl (.inl r)) (.cons ?_ (.cons f .nil))
    cases l with
    | inl n => exact .int n
    | inr x => exact .str x
  | _ :: kvs, _, j + 1, lt, .cons _ fs, d, z, r => dps_at kvs _ j (Nat.lt_of_succ_lt_succ lt) fs d z r
/-- tuple(x.items()), x a dict of the def's own -/
theorem wpE_itemsK {i : Nat} {ds : List (PyData × PyData)} {P : PyData → Prop} (hi : Γ[i]? = some (.k ds)) (p : P (.tuple (ds.map fun q => .tuple [q.1, q.2]))) : wpE K W0 (ZM.tTupItems (tVar i)) Γ P := fun W σ S Q k => by
  obtain ⟨a, kvs, g1, g2, g3, g4, g5, g6⟩ := S.varK hi
  refine ⟨_, g1, a, kvs, rfl, g5, fun H' S' ts kp nS nts nin lS len each => ?_⟩
  have e3 : Le W ⟨W.Fz, W.B, H'⟩ := ⟨⟨fun c q => by
      cases e : W.H c with
      | none => exact absurd e (S.ok.fz c q)
      | some o => show H' c ≠ none; rw [kp c o e]; simp, fun c q => by
      obtain ⟨x, y, z, e⟩ := S.ok.bx c q
      exact ⟨x, y, z, kp c _ e⟩, S.ok.fb⟩, fun _ q => q, fun _ q => q, fun c o e _ => kp c o e, fun _ q n => absurd q n, fun _ q n => absurd q n⟩
  refine k (.ref S') ⟨W.Fz, W.B, H'⟩ _ e3 (.tup (.inl (.inl lS)) ?_) p
  have g := Dps.mono (e3.lf S.ok) _ _ g6
  refine dfs_each _ _ (by rw [List.length_map, List.length_map, len, g6.length]) fun j v d z1 z2 => ?_
  rw [List.getElem?_map] at z1 z2
  cases zt : ts[j]? with
  | none => rw [zt] at z1; cases z1
  | some t =>
    rw [zt] at z1
    cases Option.some.inj z1
    clear z1 lS nts nS nin k p hi g1 g5 g6
    have lt : j < kvs.length := len ▸ (List.getElem?_eq_some_iff.mp zt).1
    have r := each j t _ zt (List.getElem?_eq_getElem lt)
    exact dps_at _ _ j lt g d z2 r
end
end G

set_option Elab.async false
set_option linter.all false
set_option autoImplicit false
set_option maxRecDepth 100000
set_option maxHeartbeats 4000000
/-! G12: t[:0:-1] of tuples; dict(xs) of a list of pairs; how the printer's terms get the rules of G9 to G12. -/
namespace G
open PySem L2 PyProof.Rows
section
variable {prog : Program} {w : World} {B : Around} {E : Value → Shared → Prop} {st : Shared}
/-- the slice [:0:-1] upon n things, n not 0 -/
theorem sliceBackTo {at_ : Addr} {n : Nat} {tk t0 : Tok} {Q : Int × Int × Nat → Shared → Prop} (pos : 0 < n) (hs : st.heap.IsSliceOf at_ .none (.int 0 t0) (.int (-1) tk)) (fin : Q ((n : Int) - 1, -1, n - 1) st) :
    wpAny (model prog w) B (Builtin.Slice.sliceApplied (.ref at_) (pure (n : Int))) Q E st := by
  have adj : Builtin.Slice.sliceAdjust none (some 0) (-1) (n : Int) = ((n : Int) - 1, 0) := by
    unfold Builtin.Slice.sliceAdjust
    simp
    try omega
  have all : Builtin.Slice.slicePlaces ((n : Int) - 1) 0 (-1) = n - 1 := by
    simp only [Builtin.Slice.slicePlaces, show ¬ ((-1 : Int) > 0) by decide, if_false, show (-(-1 : Int)) = 1 from rfl, Int.ediv_one]
    split <;> omega
  obtain ⟨ob, g, _, parts⟩ := hs
  unfold Builtin.Slice.sliceApplied Builtin.Slice.sliceFields
  refine wpAny_bind (wpAny_bind (wpAny_field g parts (x := .none) rfl (wpAny_bind (wpAny_field g parts (x := .int 0 t0) rfl (wpAny_bind (wpAny_field g parts (x := .int (-1) tk) rfl (wpAny_pure (wpAny_bind (slicePart_int ?_)))))))))
  show wpAny _ _ (if ((-1 : Int) == 0) = true then _ else _) _ _ st
  rw [if_neg (by decide)]
  refine wpAny_bind (slicePart_none (wpAny_bind (slicePart_int (wpAny_bind (wpAny_pure ?_)))))
  show wpAny _ _ (pure ((Builtin.Slice.sliceAdjust none (some 0) (-1) (n : Int)).1, (-1 : Int), Builtin.Slice.slicePlaces (Builtin.Slice.sliceAdjust none (some 0) (-1) (n : Int)).1 (Builtin.Slice.sliceAdjust none (some 0) (-1) (n : Int)).2 (-1))) _ _ st
  rw [adj]
  show wpAny _ _ (pure ((n : Int) - 1, (-1 : Int), Builtin.Slice.slicePlaces ((n : Int) - 1) 0 (-1))) _ _ st
  rw [all]
  exact wpAny_pure fin
theorem tupBackTo {t at_ : Addr} {its : Array Value} {tk t0 : Tok} {Q : Value → Shared → Prop} (pos : 0 < its.size) (ht : IsTup st.heap t its) (hs : st.heap.IsSliceOf at_ .none (.int 0 t0) (.int (-1) tk))
    (fin : Q (.ref st.heap.objs.size) { st with heap := st.heap.push { cls := .type "tuple", data := .seq (its.toList.drop 1).reverse.toArray } }) (small : its.size ≤ sizeLine) : wpAny (model prog w) B (getItem (.ref t) (.ref at_)) Q E st := by
  have fits : sizeOk (.seq (its.toList.drop 1).reverse.toArray) := by
    show (its.toList.drop 1).reverse.toArray.size ≤ sizeLine
    simp; omega
  have isS : st.TypeIs (.ref at_) "slice" := by
    obtain ⟨ob, g, c, _⟩ := hs
    exact ⟨ob, g, c⟩
  have part : ((List.range (its.size - 1)).filterMap fun (m : Nat) => its[((its.size : Int) - 1 + (m : Int) * -1).toNat]?).toArray = (its.toList.drop 1).reverse.toArray := by
    rw [back_part its (its.size - 1) (Nat.sub_le _ _), List.reverse_drop]
    simp
  have other : ((((its.size : Int) - 1) == 0 && (-1 : Int) == 1 && (its.size - 1) == its.size) = true) = False := by
    rw [show ((-1 : Int) == 1) = false from rfl, Bool.and_false, Bool.false_and]
    exact eq_false Bool.false_ne_true
  unfold getItem
  try (with_reducible refine wpAny_holding ?_)
  first | refine wpAny_bind (wpAny_pure ?_) | skip
  refine wpAny_bind (wpAny_sequenceKey ht.typeIs (by decide) (wpAny_bind (wpAny_callSpecial?_slot (name := Str.ofString "__getitem__") ht.typeIs PyProof.Rows.slot_tuple_getitem (wpAny_call_entry PyProof.Rows.slot_tuple_getitem ht.typeIs entry_tuple_getitem ?_ (args_tuple_getitem _ _)))))
  show wpAny _ _ (Builtin.Tuple.tupleItemsOf (.ref t) >>= _) _ _ st
  refine wpAny_bind (tupleItemsOf_ ht (wpAny_bind (wpAny_typeOf isS ?_)))
  rw [if_pos (by decide)]
  refine wpAny_bind (sliceBackTo pos hs ?_)
  show wpAny _ _ (if (((its.size : Int) - 1) == 0 && (-1 : Int) == 1 && (its.size - 1) == its.size) = true then _ else _) _ _ st
  rw [if_neg (by rw [other]; exact id), part]
  first
    | exact wpAny_bind (m := Builtin.Tuple.tupleExact _) (wpAny_newObj_type (wpAny_pure ⟨_, rfl, wpAny_pure fin⟩) fits)
    | exact wpAny_bind (m := Builtin.Tuple.tupleExact _) (wpAny_newObj_type (wpAny_bind (wpAny_pure (wpAny_pure ⟨_, rfl, wpAny_pure fin⟩))) fits)
    | exact wpAny_bind (wpAny_bind (m := Builtin.Tuple.tupleExact _) (wpAny_newObj_type (wpAny_pure (wpAny_pure ⟨_, rfl, wpAny_pure fin⟩)) fits))
    | exact wpAny_bind (wpAny_bind (m := Builtin.Tuple.tupleExact _) (wpAny_newObj_type (wpAny_pure ⟨_, rfl, wpAny_pure fin⟩) fits))
end
/-- t[:0:-1], t a tuple that is not empty -/
def tBackT1 (K : PySem.W.Frag) (te : TE) : TE := fun σ H Q => te σ H fun x H1 => ∃ a xs, x = .ref a ∧ SqT K H1 a xs ∧ xs ≠ [] ∧ ∀ p, H1 p = none → Q (.ref p) (upd H1 p (.tup (xs.drop 1).reverse))
section
variable {X : Cx} {K : PySem.W.Frag}
theorem bt1_K {e : Expr} {te : TE} {k k0 : Nat} {p0 p1 p2 p3 pos : Pos} (hK : X.K = K) (he : PE X e te) : PE X (.Subscript e (.Slice none (some (.Constant (.int 0) k0 p0)) (some (.UnaryOp .USub (.Constant (.int 1) k p1) p2)) p3) pos) (tBackT1 K te) := by
  subst hK
  have step : PO X (some (.UnaryOp .USub (.Constant (.int 1) k p1) p2)) (tPart (tUn (rU fun i => .int (-i)) (tC (.int 1)))) := po_some (pe_un un_neg pe_int)
  have upto : PO X (some (.Constant (.int 0) k0 p0)) (tPart (tC (.int 0))) := po_some pe_int
  constructor
  intro pins st σ H Q I wish
  refine Subscript_ (thn (he.run pins st σ H _ I wish) ?_)
  rintro v sA ⟨x, HA, IA, rx, a, xs, rfl, hx, ne, fin⟩
  cases rx
  refine wpAny_Slice (thn (po_none.run pins sA σ HA (fun o H' => o = none ∧ H' = HA) IA ⟨rfl, rfl⟩) ?_)
  rintro lo sB ⟨_, HB, IB, plo, rfl, eH⟩
  subst eH
  refine thn (upto.run pins sB σ _ (fun o H' => o = some 0 ∧ H' = HB) IB ⟨0, rfl, rfl, rfl⟩) ?_
  rintro hi sC ⟨_, _, IC, phi, rfl, eH⟩
  subst eH
  refine thn (step.run pins sC σ _ (fun o H' => o = some (-1) ∧ H' = _) IC ⟨1, rfl, -1, rfl, rfl, rfl⟩) ?_
  rintro by_ sD ⟨_, _, ID, pby, rfl, eH⟩
  subst eH
  cases plo
  cases phi
  cases pby
  rename_i t0 tk
  have IE := ID.kept (t' := sD.toks) (h' := sD.heap.push { cls := .type "slice", data := .fields #[Value.none, Value.int 0 t0, Value.int (-1) tk] }) fun b ob q => Heap.get?_push_of_some _ q
  obtain ⟨its, rv, isT, small⟩ := IE.tuple hx
  have lr := rv.length
  refine tail_any (ops := [.ref a, .ref sD.heap.objs.size]) isT.typeIs (PyProof.Rows.slot_tuple_getitem.lookup) ?_ (by with_unfolding_all rfl)
  refine tupBackTo (by rw [List.size_toArray, ← lr]; exact List.length_pos_iff.mpr ne) isT (Heap.IsSliceOf.new _ _ _ _) ?_ (by rw [List.size_toArray]; omega)
  exact ⟨.ref _, _, IE.laid (t' := sD.toks) (o := .tup (xs.drop 1).reverse) (fun b ob q => Heap.get?_push_of_some _ q) (Nat.le_refl _) ⟨by rw [List.length_reverse, List.length_drop]; omega, (its.drop 1).reverse, (rv.drop 1).reverse, IsTup.new _ _⟩, rfl, fin _ (IE.hok.fresh (Nat.le_refl _))⟩
end
section
variable {K : PySem.W.Frag} {W0 W : Wd} {Γ : Gm} {ta te : TE}
theorem wpE_back1 {P : PyData → Prop} (h : wpE K W0 te Γ fun d => ∃ d0 ds, d = .tuple (d0 :: ds) ∧ P (.tuple ds.reverse)) : wpE K W0 (tBackT1 K te) Γ P := fun W σ S Q k => h W σ S _ fun v W1 d e1 f1 ⟨d0, ds, hd, p⟩ => by
  subst hd
  obtain ⟨a, vs, rfl, q, f⟩ := f1.tup_inv
  cases f with
  | cons f0 f =>
    refine ⟨a, _, rfl, q, fun z => (nomatch z), fun r hr => ?_⟩
    obtain ⟨e, g⟩ := e1.ok.newT hr f.reverse
    exact k _ _ _ (e1.trans e) g p
end
section
variable {X : Cx} {K : PySem.W.Frag} {e e2 : Expr} {te ta : TE}
theorem lzip_K {ta : TA} {p p2 pos pos2 : Pos} (h : X.K = K) (hc : X.calm = true) (hg : Gl X "list") (hm : X.mg "list" = none) (hg2 : Gl X "zip") (hm2 : X.mg "zip" = none) (ha : PA X [e, e2] ta)
    (hs : starEach [.Call (.Name "zip" p2) [e, e2] [] pos2] X.env = (false, eval (.Call (.Name "zip" p2) [e, e2] [] pos2) X.env) :: starEach [] X.env := by rfl)
    (hs2 : starEach [e, e2] X.env = (false, eval e X.env) :: starEach [e2] X.env := by rfl) (hpl : (backTo pos2 (starEach [e2] X.env)).any (·.1) = false := by rfl) :
    PE X (.Call (.Name "list" p) [.Call (.Name "zip" p2) [e, e2] [] pos2] [] pos) (ZM.tListZip K ta) := by
  subst h
  exact ZM.pe_listZip hc hg hm (by decide +kernel) hg2 hm2 ha hs hs2 hpl
theorem litems_K {p apos cpos pos : Pos} (hc : X.calm = true) (hg : Gl X "list") (hm : X.mg "list" = none) (he : PE X e te) (hbase : attributeBase e "items" X.env (eval e X.env) = eval e X.env := by rfl) (hline : (apos.endLine == cpos.line) = true := by rfl)
    (hs : starEach [.Call (.Attribute e "items" apos) [] [] cpos] X.env = (false, eval (.Call (.Attribute e "items" apos) [] [] cpos) X.env) :: starEach [] X.env := by rfl) :
    PE X (.Call (.Name "list" p) [.Call (.Attribute e "items" apos) [] [] cpos] [] pos) (LiI.tListItems te) := LiI.pe_listItems hc he hg hm (by decide +kernel) hbase hline hs
theorem titems_K {p apos cpos pos : Pos} (hc : X.calm = true) (hg : Gl X "tuple") (hm : X.mg "tuple" = none) (he : PE X e te) (hbase : attributeBase e "items" X.env (eval e X.env) = eval e X.env := by rfl) (hline : (apos.endLine == cpos.line) = true := by rfl)
    (hs : starEach [.Call (.Attribute e "items" apos) [] [] cpos] X.env = (false, eval (.Call (.Attribute e "items" apos) [] [] cpos) X.env) :: starEach [] X.env := by rfl) :
    PE X (.Call (.Name "tuple" p) [.Call (.Attribute e "items" apos) [] [] cpos] [] pos) (ZM.tTupItems te) := ZM.pe_tupItems hc he hg hm (by decide +kernel) hbase hline hs
end
section
variable {X : Cx} {K : PySem.W.Frag} {W0 : Wd} {Γ : Gm} {te : TE}
def rDctL (K : PySem.W.Frag) : List V → Hp → VK → Prop := fun xs H Q => ∃ (a : Addr) (ps : List Addr) (kvs : List (Key × V)), xs = [.ref a] ∧ SqL K H a (ps.map V.ref) ∧ Paired (fun p kv => SqT K H p [kV kv.1, kv.2]) ps kvs ∧ ∀ p, H p = none → Q (.ref p) (upd H p (.dK (mergeK [] kvs)))
theorem dctL_K (h : X.K = K) (calm : X.calm = true) : CallR X (.type "dict") (rDctL K) := by
  subst h
  exact call_dictP calm
/-- dict(xs) of a list of pairs -/
theorem wpK_dctL {P : List (PyData × PyData) → Prop} (h : wpL K W0 te Γ fun ds => (∀ x ∈ ds, ∃ k e, x = .tuple [keyD k, e]) ∧ P (worthD ds)) : wpK K W0 (tCB (rDctL K) (tCons te tNil)) Γ P := fun W σ S Q k => h W σ S _ fun v W1 ds e1 l1 ⟨hx, p⟩ => by
  obtain ⟨a, vs, rfl, q, f⟩ := l1.sq
  obtain ⟨ps, kvs, rfl, q1, q2⟩ := dfs_pairs f hx
  refine ⟨a, ps, kvs, rfl, q, q1, fun r hr => ?_⟩
  have m := Dps.merge (acc := []) .nil q2
  rw [List.foldl_map] at m
  obtain ⟨e2, n⟩ := e1.ok.newK hr m
  obtain ⟨p', kvs', ep, n2⟩ := n
  exact k _ _ _ (e1.trans e2) ⟨p', kvs', ep, e1.fresh n2.1, n2.2⟩ p
end
section
variable {K : PySem.W.Frag} {W0 : Wd} {Γ : Gm} {A : AE} {ta te : TE}
/-- x, y = {}, e -/
theorem go_parKN {i j : Nat} (h : wpN K W0 te (Γ) fun ds => A.nx ((Γ.set i (.k [])).set j (.l ds))) : go K W0 (tPar i j (tCons tDNewK (tCons te tNil))) Γ A := fun W σ D S c => fun q hq => by
  obtain ⟨e, nk⟩ := S.ok.newK (K := K) (kvs := []) (ds := []) hq .nil
  exact h _ σ (S.mono e) _ fun v W2 ds e2 n p => ⟨.ref q, v, rfl, c.nx _ W2 _ ((e.trans e2).lf S.ok) ((S.setNwK e nk i).setNw e2 n j) p⟩
/-- e[::-1], e a list -/
theorem wpN_revL {P : List PyData → Prop} (h : wpL K W0 te Γ fun ds => P ds.reverse) : wpN K W0 (tRevL K te) Γ P := fun W σ S Q k => h W σ S _ fun v W1 ds e1 l1 p => by
  obtain ⟨a, vs, rfl, q, f⟩ := l1.sq
  refine ⟨a, vs, rfl, q, fun r hr => ?_⟩
  obtain ⟨e, g⟩ := e1.ok.newL hr f.reverse
  exact k _ _ _ (e1.trans e) (g.up S.ok e1) p
end
/-- two data side by side -/
def prT (p : PyData × PyData) : PyData := .tuple [p.1, p.2]
theorem zipD_zip : ∀ ds es : List PyData, zipD ds es = (ds.zip es).map prT := fun ds es => by
  refine List.ext_getElem? fun i => ?_
  rw [List.getElem?_map]
  cases q : (zipD ds es)[i]? with
  | none =>
    have := List.getElem?_eq_none_iff.mp q
    rw [zipD_len] at this
    rw [List.getElem?_eq_none (by rw [List.length_zip]; exact this)]
    rfl
  | some d =>
    obtain ⟨x, y, h1, h2, rfl⟩ := zipD_get q
    rw [List.getElem?_zip_eq_some.mpr (⟨h1, h2⟩ : ds[i]? = some (x, y).1 ∧ es[i]? = some (x, y).2)]
    rfl
end G

set_option Elab.async false
set_option linter.all false
set_option autoImplicit false
set_option maxRecDepth 100000
set_option maxHeartbeats 4000000
/-! G13: a dict written out with one pair. -/
namespace G
open PySem L2
section
variable {K : PySem.W.Frag} {W0 : Wd} {Γ : Gm} {tk tv : TE}
/-- {e: e2} -/
theorem wpK_disp1 {P : List (PyData × PyData) → Prop} (h : wpE K W0 tk Γ fun y => wpE K W0 tv Γ fun d => (∃ k, y = keyD k) ∧ P [(y, d)]) : wpK K W0 (tDisp [(tk, tv)]) Γ P := fun W σ S Q k => fun p hp => by
  obtain ⟨e, nk⟩ := S.ok.newK (K := K) (kvs := []) (ds := []) hp .nil
  have nf : ¬ W.Fz p := fun f => S.ok.fz p f hp
  have nb : ¬ W.B p := fun f => by
    obtain ⟨_, _, _, z⟩ := S.ok.bx p f
    rw [hp] at z; cases z
  refine h _ σ (S.mono e) _ fun x W2 y e2 f1 h1 => h1 W2 σ (S.mono (e.trans e2)) _ fun v W3 d e3 f2 ⟨⟨l, el⟩, pp⟩ => ?_
  subst el
  cases f1.key_inv
  have e23 := e2.trans e3
  have at3 : W3.H p = some (.dK []) := e23.ex p _ upd_same nb
  have nf3 : ¬ W3.Fz p := fun f => by
    have : (upd W.H p (.dK [])) p = none := e23.nf p f nf
    rw [upd_same] at this; cases this
  have nb3 : ¬ W3.B p := fun f => by
    have : (upd W.H p (.dK [])) p = none := e23.nb p f nb
    rw [upd_same] at this; cases this
  have lf := e3.ok.mutLf (o' := .dK [(l, v)]) at3 trivial nf3 nb3
  refine ⟨at3, [(l, v)], rfl, Nat.le_of_ble_eq_true rfl, ?_⟩
  exact k _ ⟨W3.Fz, W3.B, upd W3.H p (.dK [(l, v)])⟩ _ ((e.trans e23).mut at3 nb3 hp) ⟨p, [(l, v)], rfl, hp, nf3, nb3, upd_same, Dps.mono lf _ _ (.cons f2 .nil)⟩ pp
end
end G

set_option Elab.async false
set_option linter.all false
set_option autoImplicit false
set_option maxRecDepth 100000
set_option maxHeartbeats 4000000
/-! G14: x or y of tuples, by truth. -/
namespace G
open PySem L2
section
variable {K : PySem.W.Frag} {W0 : Wd} {Γ : Gm} {ta tb : TE}
theorem orT_K {X : Cx} {a b : Expr} {rest : List Expr} {pos : Pos} (h : X.K = K) (ha : PE X a ta) (hb : PE X (.BoolOp .Or (b :: rest) pos) tb) : PE X (.BoolOp .Or (a :: b :: rest) pos) (tOrT K ta tb) := by
  subst h
  exact pe_orT ha hb
theorem wpE_orT {P : PyData → Prop} (h : wpE K W0 ta Γ fun d => ∃ ds, d = .tuple ds ∧ (ds ≠ [] → P (.tuple ds)) ∧ (ds = [] → wpE K W0 tb Γ P)) : wpE K W0 (tOrT K ta tb) Γ P := fun W σ S Q k => h W σ S _ fun v W1 d e1 f1 ⟨ds, hd, p1, p2⟩ => by
  subst hd
  obtain ⟨a, vs, rfl, q, f⟩ := id f1.tup_inv
  refine ⟨!ds.isEmpty, .inr (.inl ⟨vs, q, by cases f <;> rfl⟩), ?_⟩
  cases ds with
  | nil =>
    show tb σ W1.H Q
    exact p2 rfl W1 σ (S.mono e1) Q fun v W2 c e2 f2 q => k v W2 c (e1.trans e2) f2 q
  | cons x xs => exact k _ W1 _ e1 f1 (p1 fun z => nomatch z)
end
end G

set_option Elab.async false
set_option linter.all false
set_option autoImplicit false
set_option maxRecDepth 100000
set_option maxHeartbeats 4000000
/-! G15: < of nested data, enumerate of a tuple, 1 + sum([xs.pop() for ..]), xs.index(x), ''.join told exactly. -/
namespace EnT
open PySem PySem.Spec PyProof.Rows L2
open Sem (wp)
/-- enumerate.__new__ of what iter() takes -/
theorem meets_enumB1 {v : Value} {o : Obj} {H : Heap → Prop} (B : Begins v o H) :
    Meets (Builtin.«enumerate.__new__» ⟨[.type "enumerate", v], []⟩) (fun _ R s => H s.heap ∧
      R (.ok (.ret (.ref (s.heap.push o).objs.size))) { s with heap := (s.heap.push o).push { cls := .type "enumerate", data := .fields #[.none, .bool false, .ref s.heap.objs.size, rawInt 0, .none, .none] } }) :=
  .of_wp fun prog w A R s h => by
    obtain ⟨hp, g, d, tk, os⟩ := s; obtain ⟨h1, h⟩ := h
    have hsub := sub_enumerate
    have q1 : ∀ {A' : Around} {E : Value → Shared → Prop} {Q : Value → Shared → Prop}, Q (.ref hp.objs.size) ⟨hp.push o, g, d, tk, os⟩ → wpAny (model prog w) A' (pyIter v) Q E ⟨hp, g, d, tk, os⟩ :=
      fun q => B.iter prog w _ _ ⟨hp, g, d, tk, os⟩ _ h1 q
    wp_walk using q1
    refine wpAny_stack_any fun st => wpAny_pure ?_
    split
    · rename_i c _ _ _ _ _
      cases (c == Value.type "enumerate")
      · wp_walk using q1
        exact ⟨_, rfl, h⟩
      · wp_walk using q1
        exact ⟨_, rfl, h⟩
    · wp_walk using q1
      exact ⟨_, rfl, h⟩
theorem call_enum_tuple {prog : Program} {w : World} {A : Around} {E : Value → Shared → Prop} {s : Shared} {l : Addr} {items : Array Value} {Q : Value → Shared → Prop} (hL : s.heap.IsTuple l items)
    (h : ∀ h', IsEnum h' (s.heap.objs.size + 1) s.heap.objs.size 0 .none → h'.IsTupleIter s.heap.objs.size l 0 → h'.objs.size = s.heap.objs.size + 2 →
      (∀ b o, s.heap.get? b = some o → h'.get? b = some o) → Q (.ref (s.heap.objs.size + 1)) { s with heap := h' }) :
    wpAny (model prog w) A (call (.type "enumerate") [.ref l]) Q E s := by
  refine callType_new F.called_enumerate (by decide) (F.typeCall_enumerate_1 _) (F.newCall_enumerate_1 _) (fun obj => F.args_object_init_2 obj _) F.entry_enumerate_new
    (meets_enumB1 (begins_tuple l items)) ⟨hL, ?_⟩
  have hz : (s.heap.push { cls := .type "tuple_iterator", data := .fields #[.ref l, .int 0 0] }).objs.size = s.heap.objs.size + 1 := Heap.size_push ..
  show _ ∧ _
  rw [hz]
  have he : IsEnum ((s.heap.push { cls := .type "tuple_iterator", data := .fields #[.ref l, .int 0 0] }).push
      { cls := .type "enumerate", data := .fields #[.none, .bool false, .ref s.heap.objs.size, rawInt 0, .none, .none] }) (s.heap.objs.size + 1) s.heap.objs.size 0 .none := by
    have := Heap.get?_push_size (s.heap.push { cls := .type "tuple_iterator", data := .fields #[.ref l, .int 0 0] })
      (o := { cls := .type "enumerate", data := .fields #[.none, .bool false, .ref s.heap.objs.size, rawInt 0, .none, .none] }) rfl
    rw [hz] at this; exact this
  refine ⟨⟨_, he, rfl⟩, h _ he ⟨_, Heap.get?_push_of_some _ (Heap.get?_push_size _ rfl), rfl, rfl⟩ (by rw [Heap.size_push, hz]) fun b o x => Heap.get?_push_of_some _ (Heap.get?_push_of_some _ x)⟩
theorem enum_endT {prog : Program} {w : World} {A : Around} {E : Value → Shared → Prop} {s : Shared} {e it l : Addr} {i : Nat} {items : Array Value} {c : Int} {old : Value} {Q : Option Value → Shared → Prop} (hh : A.in1.handled = none)
    (he : IsEnum s.heap e it c old) (hit : s.heap.IsTupleIter it l i) (hl : s.heap.IsTuple l items) (hx : items[i]? = none)
    (hQ : ∀ h', Heap.ExtBut it s.heap h' → Q none { s with heap := h' }) : wpAny (model prog w) A (pyNext (.ref e)) Q E s := by
  have hT : s.TypeIs (.ref e) "enumerate" := ⟨_, he, rfl⟩
  unfold pyNext
  refine wpAny_bind (wpAny_attempt (wpAny_callSpecial?_slot (name := Str.ofString "__next__") hT F.slot_enumerate_next
    (wpAny_call_entry F.slot_enumerate_next hT F.entry_enumerate_next ?_ (F.args_enumerate_next_1 _))))
  show wpAny _ _ (field (.ref e) 2 >>= _) _ _ _
  refine wpAny_bind (wpAny_field he rfl (x := .ref it) rfl ?_)
  refine wpAny_bind (wpAny_nextOf_tuple_end hh hit hl hx fun h' x he' hx' => ?_)
  obtain ⟨o, ho, hc⟩ := hx'
  refine wpAny_bind (wpAny_isInstance (T := "StopIteration") (b := true) ⟨o, ho, hc⟩ isSubtype_stop ?_)
  exact wpAny_pure (hQ _ he')
/-- the tuple at a, each item in a new pair -/
def IteT (K : PySem.W.Frag) (a : Addr) : It :=
  ⟨fun i H => ∃ (xs : List V) (x : V), SqT K H a xs ∧ xs[i]? = some x, fun i H v H' => ∃ T x, v = .ref T ∧ H T = none ∧ H' = upd H T (.tup [.int (i : Nat), x]) ∧ ∀ xs, SqT K H a xs → xs[i]? = some x, fun i H => ∃ xs : List V, SqT K H a xs ∧ xs.length ≤ i⟩
theorem ne_of_cls {h : Heap} {a b : Addr} {o u : Obj} (ho : h.get? a = some o) (hu : h.get? b = some u) (hc : o.cls ≠ u.cls) : a ≠ b := fun z => by
  subst z
  rw [ho] at hu
  cases hu
  exact hc rfl
theorem turn_enumT {P : Program} {w : World} {K : PySem.W.Frag} {elts : List Expr} {kk : Nat} {tpos : Pos} (a e it : Addr) :
    Turn P w K (.Tuple elts kk tpos) (IteT K a) [e, it] e (fun i h => (∃ old, IsEnum h e it ((i : Nat) : Int) old) ∧ h.IsTupleIter it a i ∧ e ≠ it) where
  mem := by simp
  obj := fun i h st b hb => by
    obtain ⟨⟨old, he⟩, ⟨o, ho, hc, hd⟩, _⟩ := st
    have e' : b = e ∨ b = it := by simpa using hb
    rcases e' with z | z
    · rw [z]; exact ⟨_, he, fun v q => nomatch q⟩
    · rw [z]; exact ⟨o, ho, fun v q => by rw [hd] at q; cases q⟩
  keep := fun i h h' st k => let ⟨⟨old, he⟩, hi, hne⟩ := st; ⟨⟨old, k e (by simp) _ he⟩, hi.at fun o q => k it (by simp) o q, hne⟩
  item := by
    intro X hP hw hK hc i pins s σ H E I hf st hg
    subst hP hw hK
    obtain ⟨⟨old, he⟩, hit, hne⟩ := st
    obtain ⟨xs, x, hq, hx⟩ := hg
    obtain ⟨its, rv, p, hz⟩ := I.tuple hq
    obtain ⟨u, hu, ru⟩ := rv.get hx
    have hel : e < s.heap.objs.size := Heap.lt_size he
    have hil : it < s.heap.objs.size := by obtain ⟨_, q, _⟩ := hit; exact Heap.lt_size q
    have hT : s.heap.IsTuple a its.toArray := by
      obtain ⟨o, ho, hc1, n, hd⟩ := p
      exact ⟨o, ho, hc1, n, hd⟩
    have hai : a ≠ it := by
      obtain ⟨o, ho, hc1, _⟩ := id hT
      obtain ⟨o2, ho2, hc2, _⟩ := id hit
      exact ne_of_cls ho ho2 (by rw [hc1, hc2]; decide)
    have hea : e ≠ a := by
      obtain ⟨o, ho, hc1, _⟩ := id hT
      exact ne_of_cls he ho (by rw [hc1]; show Value.type "enumerate" ≠ Value.type "tuple"; decide)
    have hh : X.A.in1.handled = none := I.ok.hd hc
    have hlt : i < its.toArray.size := by
      have := (List.getElem?_eq_some_iff.mp hu).1
      rw [List.size_toArray]
      exact this
    refine wpAny_pyNext_enum_itemC (Draws.tuple (prog := X.prog) (w := X.w) hh it a hai its.toArray) he ⟨hit, hT⟩ (i := i) hlt hne (by simp [hne, hea]) fun x' h' tk hx' ho hst hTT hsz hk => ?_
    have ex : x' = u := by
      have hx2 : its.toArray[i]? = some x' := hx'
      rw [List.getElem?_toArray, hu] at hx2
      exact (Option.some.inj hx2).symm
    subst ex
    refine ⟨_, rfl, wpAny_letOwnedTupleGo_enum (s := { s with heap := h', toks := tk + 1 }) ho fun h'' he' sb => ?_⟩
    have hT2 : h''.get? s.heap.objs.size = some { cls := .type "tuple", data := .seq #[.int i tk, x'] } := (sb.2 _ (Nat.ne_of_gt hel)).trans hTT
    have new : ObjOk X.prog X.w (upd H s.heap.objs.size (.tup [.int (i : Nat), x])) h'' s.heap.objs.size (.tup [.int (i : Nat), x]) :=
      ⟨by show 2 ≤ sizeLine; decide, [.int i tk, x'], .cons ⟨_, rfl⟩ (.cons ru .nil), ⟨_, hT2, rfl, _, rfl⟩⟩
    have I1 : Inv X pins σ (upd H s.heap.objs.size (.tup [.int (i : Nat), x])) { s with heap := h'', toks := tk + 1 } :=
      I.turnedNew (ch := [e, it]) (fun b ob hb q => (sb.2 b (fun z => hb (by simp [z]))).trans (hk b ob (fun z => hb (by simp [z])) (fun z => hb (by simp [z])) q)) hf (Nat.le_refl _) new
    refine ⟨.ref s.heap.objs.size, _, I1, rfl, ⟨_, x, rfl, I.hok.fresh (Nat.le_refl _), rfl, fun ys hy => by rw [I.tuple_inj hy hq]; exact hx⟩, ⟨⟨x', ?_⟩, hst.1.at fun o q => (sb.2 it (Ne.symm hne)).trans q, hne⟩, fun b hb => ?_⟩
    · have e1 : ((i + 1 : Nat) : Int) = (i : Int) + 1 := by omega
      rw [e1]; exact he'
    · have hb' : b < s.heap.objs.size := by
        have e' : b = e ∨ b = it := by simpa using hb
        rcases e' with z | z
        · rw [z]; exact hel
        · rw [z]; exact hil
      rw [upd_ne (Nat.ne_of_lt hb')]
      exact (hf b hb).1
  done := by
    intro X hP hw hK hc i pins s σ H E I hf st hg
    subst hP hw hK
    obtain ⟨⟨old, he⟩, hit, hne⟩ := st
    obtain ⟨xs, hq, hx⟩ := hg
    obtain ⟨its, rv, p, hz⟩ := I.tuple hq
    obtain ⟨f0, f1, f2, f3, f4, f5⟩ := hf it (by simp)
    have hl := rv.length
    have hT : s.heap.IsTuple a its.toArray := by
      obtain ⟨o, ho, hc1, n, hd⟩ := p
      exact ⟨o, ho, hc1, n, hd⟩
    exact enum_endT (I.ok.hd hc) he hit hT (by simp; omega) fun h' eb => ⟨rfl, I.turned (t' := s.toks) (fun b o hb q => eb b o hb q) f0 f1 f3 f4 f5⟩
  self := fun A i s Q E st h => let ⟨⟨_, he⟩, _⟩ := st; wpAny_pyIter_enum he h
def iEnumT (K : PySem.W.Frag) (ta : TA) : TI := fun σ H R => ta σ H fun vs H1 => ∃ a xs, vs = [.ref a] ∧ SqT K H1 a xs ∧ R (IteT K a) H1
theorem pi_enumT {X : Cx} {e : Expr} {ta : TA} {p pos tpos : Pos} {elts : List Expr} {kk : Nat} (hg : Gl X "enumerate") (hm : X.mg "enumerate" = none) (ha : PA X [e] ta) (hs : starEach [e] X.env = [(false, eval e X.env)] := by rfl) :
    PI X (.Tuple elts kk tpos) (.Call (.Name "enumerate" p) [e] [] pos) (iEnumT X.K ta) := by
  refine ⟨fun pins s σ H R I h => ?_⟩
  refine Call_ (ld_blt I hg hm boot_enumerate (PyProof.Rows.callWith_type1 (thn (ha.run pos pins s σ H _ I h) fun us s1 ⟨vs, H1, I1, r1, q1⟩ => ?_) hs rfl))
  obtain ⟨a, xs, ex, hq, q⟩ := q1
  subst ex
  cases r1 with
  | cons r rr =>
    cases rr
    cases r
    obtain ⟨its, rv, p', hz⟩ := I1.tuple hq
    have hT : s1.heap.IsTuple a its.toArray := by
      obtain ⟨o, ho, hc1, n, hd⟩ := p'
      exact ⟨o, ho, hc1, n, hd⟩
    refine call_enum_tuple hT fun h' he hit hsz hk => wpAny_pyIter_enum he ?_
    have I2 : Inv X pins σ H1 { s1 with heap := h' } := I1.kept (t' := s1.toks) hk
    refine ⟨s1.heap.objs.size + 1, [s1.heap.objs.size + 1, s1.heap.objs.size], _, _, H1, rfl, I2, turn_enumT a (s1.heap.objs.size + 1) s1.heap.objs.size, ⟨⟨.none, he⟩, hit, Nat.succ_ne_self _⟩, fun b hb => ?_, q⟩
    have e' : b = s1.heap.objs.size + 1 ∨ b = s1.heap.objs.size := by simpa using hb
    have hle : s1.heap.objs.size ≤ b := by
      rcases e' with z | z
      · rw [z]; exact Nat.le_add_right _ _
      · rw [z]; exact Nat.le_refl _
    exact I1.fpOk hle (I1.hok.fresh hle)
end EnT
namespace G
open PySem L2
theorem enumT_K {X : Cx} {K : PySem.W.Frag} {e : Expr} {ta : TA} {p pos tpos : Pos} {elts : List Expr} {kk : Nat} (h : X.K = K) (hg : Gl X "enumerate") (hm : X.mg "enumerate" = none) (ha : PA X [e] ta) (hs : starEach [e] X.env = [(false, eval e X.env)] := by rfl) :
    PI X (.Tuple elts kk tpos) (.Call (.Name "enumerate" p) [e] [] pos) (EnT.iEnumT K ta) := by
  subst h
  exact EnT.pi_enumT hg hm ha hs
section
variable {K : PySem.W.Frag} {W0 W W' W1 : Wd} {σ : L2.St} {Γ : Gm} {A : AE} {ta te : TE}
theorem itd_enumT {a : Addr} {vs : List V} {ds : List PyData} (h : SqT K W.H a vs) (f : Dfs K W vs ds) : ItD K (Lf W) (EnT.IteT K a) (enD ds) where
  go := fun W2 i g hi => by
    rw [enD_len] at hi
    exact ⟨vs, vs[i]'(by rw [f.length]; omega), g.rdT h, by simp [f.length, hi]⟩
  stop := fun W2 i g hi => by
    rw [enD_len] at hi
    exact ⟨vs, g.rdT h, by rw [f.length]; omega⟩
  yld := fun W2 i v H' d g ok hd ⟨T, x, hv, hT, hH, hx⟩ => by
    subst hv hH
    have hi : i < ds.length := by
      have := (List.getElem?_eq_some_iff.mp hd).1
      rw [enD_len] at this
      exact this
    unfold enD at hd
    rw [List.getElem?_map, List.getElem?_eq_getElem (by simpa using hi)] at hd
    simp at hd
    subst hd
    have h3 := hx vs (g.rdT h)
    obtain ⟨v', h1, h2⟩ := f.get (List.getElem?_eq_getElem hi)
    rw [h1] at h3
    cases h3
    obtain ⟨e, f'⟩ := ok.newT hT (ds := [.int (i : Nat), ds[i]]) (.cons (.int _) (.cons (Df.mono g _ _ h2) .nil))
    refine ⟨_, rfl, e, ?_⟩
    rw [List.getElem?_eq_getElem hi]
    exact f'
theorem wpI_enumT {P : List PyData → Prop} (h : wpE K W0 te Γ fun d => ∃ ds, d = .tuple ds ∧ P (enD ds)) : wpI K W0 (EnT.iEnumT K (tCons te tNil)) Γ P := fun W σ S R k => h W σ S _ fun v W1 d e1 f1 ⟨ds, hd, p⟩ => by
  subst hd
  obtain ⟨a, vs, rfl, q, f⟩ := f1.tup_inv
  exact ⟨a, vs, rfl, q, k W1 _ _ e1 (itd_enumT q f) p⟩
end
/-! ### < of nested data -/
def rLtD (K : PySem.W.Frag) : R2 := fun x y H Q => ∃ d e, Dp K H x d ∧ Dp K H y e ∧ PySem.W.alike d e = true ∧ d ≠ .none ∧ d.depth ≤ 60 ∧ Q (.bl (PySem.W.dataLt d e)) H
theorem lt_K {X : Cx} {K : PySem.W.Frag} (h : X.K = K) (hu : X.A.units + 64 < cLine) : OpR X (compareOp .Lt) (rLtD K) := by
  subst h
  intro pins s σ H x y v u Q I rx ry h
  obtain ⟨d, e, hd, he, ha, hn, hdp, q⟩ := h
  obtain ⟨as, r1⟩ := Dp.reads I d x v hd rx
  obtain ⟨bs, r2⟩ := Dp.reads I e y u he ry
  exact PySem.W.lt_data r1 r2 ha hn (by omega) ⟨.bl _, H, I, rfl, q⟩
section
variable {K : PySem.W.Frag} {W0 W W' W1 : Wd} {σ : L2.St} {Γ : Gm} {A : AE} {ta te : TE}
theorem opR_ltD {x y : PyData} {P : PyData → Prop} (hx : x.canLay0 = true) (hy : y.canLay0 = true) (ha : PySem.W.alike x y = true) (hn : x ≠ .none) (hd : x.depth ≤ 60) (p : P (.bool (PySem.W.dataLt x y))) : opR K (rLtD K) x y P := fun W v u ok f1 f2 Q k =>
  ⟨x, y, Df.dp _ _ hx f1, Df.dp _ _ hy f2, ha, hn, hd, k _ W _ (.refl ok) (.bl _) p⟩
/-! ### xs.index(x), xs a list of texts -/
theorem idx_K {X : Cx} {o e : Expr} {to te : TE} {apos cpos : Pos} (h : X.K = K) (ho : PE X o to) (he : PE X e te)
    (hbase : attributeBase o "index" X.env (eval o X.env) = eval o X.env := by rfl) (hline : (apos.endLine == cpos.line) = true := by rfl) (hs : starEach [e] X.env = (false, eval e X.env) :: starEach [] X.env := by rfl) (hfew : ((backTo cpos (starEach [e] X.env)).all (fun x => !x.1) && (backToKw cpos (keywordEach [] X.env)).all (fun x => x.1.isSome)
      && decide ([e].length + ([] : List Keyword).length + (if ([] : List Keyword).isEmpty then 0 else 1) < 30)) = true := by rfl) (hplain : (backTo cpos (starEach [] X.env)).any (·.1) = false := by rfl) : PE X (.Call (.Attribute o "index" apos) [e] [] cpos) (tBM K "list" (rIndex K) to (tCons te tNil)) := by
  subst h
  exact pe_bm PySem.F.plainAttrs_list PySem.F.slot_list_index PySem.F.type_list_index mt_index ho (pa_cons he pa_nil hs) hbase hfew hline hs hplain
theorem wpE_index {i : Nat} {ss : List Str} {P : PyData → Prop} (hi : Γ[i]? = some (.d (.list (ss.map PyData.str)))) (h : wpE K W0 te Γ fun d => ∃ (x : Str) (j : Nat), d = .str x ∧ ss[j]? = some x ∧ (∀ m, m < j → ss[m]? ≠ some x) ∧ P (.int (j : Nat))) :
    wpE K W0 (tBM K "list" (rIndex K) (tVar i) (tCons te tNil)) Γ P := fun W σ S Q k => by
  obtain ⟨v, h1, h2⟩ := S.var hi
  obtain ⟨a, vs, rfl, q, f⟩ := (h2.lv S.ok).sq
  refine ⟨_, h1, .inl ⟨rfl, vs, q⟩, h W σ S _ fun u W1 d e f1 ⟨x, j, hd, hj, hm, p⟩ => ?_⟩
  subst hd
  cases f1.str_inv
  obtain ⟨a', vs', e', q', f'⟩ := ((Df.mono (e.lf S.ok) _ _ h2).lv e.ok).sq
  cases e'
  have ev := dfs_strs f'
  subst ev
  refine ⟨a, ss.map V.str, .str x, j, .str x, rfl, rfl, q', rfl, flat_strs ss, by rw [List.getElem?_map, hj]; rfl, ?_, fun m z hmj hz => ?_, k _ W1 _ e (.int _) p⟩
  · show decide (x = x) = true
    exact decide_eq_true rfl
  · rw [List.getElem?_map] at hz
    obtain ⟨y, hy, rfl⟩ := Option.map_eq_some_iff.mp hz
    show decide (y = x) = false
    exact decide_eq_false fun z => hm m hmj (by rw [hy, z])
theorem strsC_of (p : Nat → Prop) : ∀ (ds : List PyData), (∀ y, y ∈ ds → ∃ c, y = .str ⟨#[c]⟩ ∧ p c) → ∃ cs : List Nat, ds = (cs.map fun c => (⟨#[c]⟩ : Str)).map PyData.str ∧ ∀ c ∈ cs, p c
  | [], _ => ⟨[], rfl, fun _ h => nomatch h⟩
  | d :: ds, h2 => by
    obtain ⟨cs, e1, e2⟩ := strsC_of p ds fun y hy => h2 y (List.mem_cons_of_mem _ hy)
    obtain ⟨c, rfl, hc⟩ := h2 d List.mem_cons_self
    refine ⟨c :: cs, by rw [e1]; rfl, fun x hx => ?_⟩
    rcases List.mem_cons.mp hx with rfl | hx
    · exact hc
    · exact e2 x hx
/-- ''.join of texts of one sign each, told exactly -/
theorem wpE_joinC {P : PyData → Prop} (p : Nat → Prop) (n : Nat) (hn : n ≤ 1000000) (h : wpL K W0 te Γ fun ds => ds.length ≤ n ∧ (∀ y, y ∈ ds → ∃ c, y = .str ⟨#[c]⟩ ∧ p c) ∧ ∀ cs : List Nat, cs.length = ds.length → (∀ c ∈ cs, p c) → P (.str ⟨cs.toArray⟩)) : wpE K W0 (tM1 (rJoin K) (tC (.str (Str.ofString ""))) te) Γ P := by
  refine wpE_join (wpE_str ⟨_, rfl, ?_⟩)
  intro W σ S Q k
  refine h W σ S Q fun v W' ds e l ⟨h1, h2, h3⟩ => ?_
  have h2' := strsC_of p ds h2
  obtain ⟨cs, rfl, hc⟩ := h2'
  rw [List.length_map, List.length_map] at h1
  refine k v W' _ e l ⟨_, rfl, ?_, ?_⟩
  · rw [sum_ones, List.length_map, show (Str.ofString "").length = 0 from rfl]
    omega
  · rw [join_ones]
    exact h3 cs (by rw [List.length_map, List.length_map]) hc
/-- x[y], x a dict that is data -/
theorem wpE_dgetD {ty : TE} {P : PyData → Prop} (h : wpE K W0 ta Γ fun x => ∃ ds, x = .dict ds ∧ isTag ds = false ∧ wpE K W0 ty Γ fun y => ∃ k d, y = keyD k ∧ getK ds y = some d ∧ P d) : wpE K W0 (tDGet ta ty) Γ P := fun W σ S Q k => h W σ S _ fun v W1 x e1 f1 ⟨ds, ex, nb, h1⟩ => by
  subst ex
  generalize ed : PyData.dict ds = dd at f1
  cases f1 with
  | bx _ =>
    cases ed
    cases nb
  | pt _ _ _ =>
    cases ed
    cases nb
  | ob _ _ _ =>
    cases ed
    cases nb
  | dt _ _ _ =>
    cases ed
    cases nb
  | rf =>
    cases ed
    cases nb
  | non => cases ed
  | bl _ => cases ed
  | int _ => cases ed
  | str _ => cases ed
  | lst _ _ => cases ed
  | tup _ _ => cases ed
  | @dct a kvs ds' q fz f =>
    cases ed
    refine h1 W1 σ (S.mono e1) _ fun y W2 dy e2 f2 ⟨l, d, el, g, p⟩ => ?_
    subst el
    cases f2.key_inv
    have lf := e2.lf e1.ok
    rcases (Dps.mono lf _ _ f).get (k := l) with ⟨q1, q2⟩ | ⟨v, d', q1, q2, q3⟩
    · rw [q2] at g; cases g
    · rw [q2] at g; cases g
      exact ⟨a, v, rfl, by rw [← q1]; exact .inl ⟨kvs, l, lf.rdL q fz, rfl, rfl⟩, k _ _ _ (e1.trans e2) q3 p⟩
/-- n = 1 + sum([xs.pop() for _ in ..]), xs a list of numbers of the def's own -/
theorem go_sumPop {i j n : Nat} {wi : TI} {xs : List PyData} (hin : i ≠ n) (hi : Γ[i]? = some (.l xs)) (hxs : xs.length ≤ 1000000)
    (h : wpI K W0 wi Γ fun ds => ds.length ≤ xs.length ∧ ∃ ns : List Int, xs.reverse.take ds.length = ns.map PyData.int ∧ A.nx ((Γ.set i (.l (xs.take (xs.length - ds.length)))).set j (.d (.int (1 + ns.sum))))) :
    go K W0 (tAsg (tOp (rADD K) (tC (.int 1)) (tCB (rSum K) (tCons (tLc wi (gName n) tYes (tBM0 K "list" rPop (tVar i)) [n]) tNil))) (gName j)) Γ A := fun W σ D0 S c => h W σ S _ fun W1 J ds e1 it ⟨hz, ns, hns, p⟩ => by
  intro D hD
  have hsz : sizeLine = 16777216 := sizeLine_eq
  have S1 := S.mono e1
  obtain ⟨hlt0, hself⟩ := List.getElem?_eq_some_iff.mp hi
  have nsl : ∀ (ys : List PyData) (k : Nat) (s : Sl), (Γ.set i (.l ys))[k]? = some s → s.own = true → σ[k]? ≠ some (some (.ref D)) := fun ys k s hk ho hσ => by
    rcases get_set hk with ⟨e, _, _⟩ | ⟨_, g⟩
    · subst e
      exact S1.there hi rfl hσ hD
    · exact S1.there g ho hσ hD
  obtain ⟨n1, n2⟩ := e1.ok.newL (K := K) (ds := []) (vs := []) hD .nil
  refine ⟨fun k m H => m = ds.length - k ∧ k ≤ ds.length ∧ ∃ W2 us, W2.H = H ∧ Lf W1 W2 ∧ Sat K W0 W2 σ (Γ.set i (.l (xs.take (xs.length - k)))) ∧ ¬ W2.Fz D ∧ ¬ W2.B D ∧ H D = some (.lst us) ∧ Dfs K W2 us (xs.reverse.take k), ⟨ds.length, by simp, Nat.zero_le _, _, [], rfl, n1.lf e1.ok, ?_, ?_, ?_, upd_same, ?_⟩, ?_⟩
  · rw [Nat.sub_zero, List.take_length, ← hself, List.set_getElem_self]
    exact S1.mono n1
  · exact fun z => e1.ok.fz D z hD
  · intro z
    obtain ⟨_, _, _, e⟩ := e1.ok.bx D z
    rw [hD] at e
    cases e
  · rw [List.take_zero]
    exact .nil
  · rintro k m H ⟨rfl, hk, W2, us, rfl, f2, S2, nf, nb, hl, hf⟩
    by_cases hlt : k < ds.length
    · refine .inr ⟨it.go W2 k f2 hlt, fun H' => ∃ W2 us, W2.H = H' ∧ Lf W1 W2 ∧ Sat K W0 W2 σ (Γ.set i (.l (xs.take (xs.length - (k + 1))))) ∧ ¬ W2.Fz D ∧ ¬ W2.B D ∧ H' D = some (.lst us) ∧ Dfs K W2 us (xs.reverse.take (k + 1)), fun H' q => ⟨ds.length - (k + 1), by omega, rfl, hlt, q⟩, fun x H' hy => ?_⟩
      obtain ⟨W3, rfl, e3, f3⟩ := it.yld W2 k x H' ds[k] f2 S2.ok (List.getElem?_eq_getElem hlt) hy
      have S3 := S2.mono e3
      have nf3 : ¬ W3.Fz D := fun z => by
        have := e3.nf D z nf
        rw [hl] at this
        cases this
      have nb3 : ¬ W3.B D := fun z => by
        have := e3.nb D z nb
        rw [hl] at this
        cases this
      have hl3 := e3.ex D _ hl nb
      have hget : (Γ.set i (.l (xs.take (xs.length - k))))[i]? = some (.l (xs.take (xs.length - k))) := by rw [List.getElem?_set, if_pos rfl, if_pos hlt0]
      obtain ⟨a, vs, h1, h2, h3, h4, h5, h6⟩ := S3.varL hget
      have hDa : D ≠ a := fun z => nsl _ i _ hget rfl (by rw [h1, z])
      have hlen : (xs.take (xs.length - k)).length = xs.length - k := by rw [List.length_take]; omega
      have hd : (xs.take (xs.length - k))[(xs.take (xs.length - k)).length - 1]? = some (xs[xs.length - 1 - k]'(by omega)) := by
        rw [hlen, List.getElem?_take, if_pos (by omega), List.getElem?_eq_getElem (by omega)]
        congr 2
        omega
      obtain ⟨v, hv, fv⟩ := h6.get hd
      have lf := S3.ok.mutLf (o' := .lst vs.dropLast) h5 trivial h3 h4
      have S4 := S3.mutL hget h1 h2 h3 h4 h5 lf (Dfs.mono lf _ _ h6.dropLast)
      have hl4 : (upd W3.H a (.lst vs.dropLast)) D = some (.lst us) := by rw [upd_ne hDa]; exact hl3
      have lf5 := S4.ok.mutLf (o' := .lst (us ++ [v])) hl4 trivial nf3 nb3
      have e6 : (Γ.set i (.l (xs.take (xs.length - k)))).set i (.l (xs.take (xs.length - k)).dropLast) = Γ.set i (.l (xs.take (xs.length - (k + 1)))) := by
        rw [List.set_set, List.dropLast_eq_take, hlen, List.take_take]
        congr 3
        omega
      rw [e6] at S4
      have S5 := S4.mutNew hl4 (S1.le.fresh hD) nb3 lf5 (nsl _)
      refine ⟨?_, ?_⟩
      · show ((σ.set n none).set n (some x)).set n none = σ.set n none
        rw [List.set_set, List.set_set]
      · show tBM0 K "list" rPop (tVar i) ((σ.set n none).set n (some x)) W3.H _
        have hσ : ((σ.set n none).set n (some x))[i]? = some (some (.ref a)) := by
          rw [List.getElem?_set, if_neg (Ne.symm hin), List.getElem?_set, if_neg (Ne.symm hin)]
          exact h1
        refine ⟨_, hσ, .inl ⟨rfl, vs, .inl (.inl h5)⟩, a, vs, v, rfl, rfl, h5, by rw [h6.length]; exact hv, us, hl4, ?_, ⟨W3.Fz, W3.B, upd (upd W3.H a (.lst vs.dropLast)) D (.lst (us ++ [v]))⟩, us ++ [v], rfl, ((f2.trans (e3.lf S2.ok)).trans lf).trans lf5, S5, nf3, nb3, upd_same, ?_⟩
        · rw [hf.length, List.length_take]
          omega
        · have ht : xs.reverse[k]? = some (xs[xs.length - 1 - k]'(by omega)) := by
            rw [List.getElem?_reverse (by omega), List.getElem?_eq_getElem (by omega)]
          rw [take_succ ht]
          exact (Dfs.mono (((e3.lf S2.ok).trans lf).trans lf5) _ _ hf).append (.cons (Df.mono (lf.trans lf5) _ _ fv) .nil)
    · have e : k = ds.length := by omega
      subst e
      refine .inl ⟨it.stop W2 _ f2 (Nat.le_refl _), ?_⟩
      rw [hns] at hf
      have eu := dfs_ints hf
      subst eu
      refine ⟨D, ns, rfl, .inl (.inl hl), .inl ⟨1, ns.sum, rfl, rfl, c.nx _ W2 _ ((e1.lf S.ok).trans f2) (S2.setD j (.int _)) p⟩⟩
end
end G

set_option Elab.async false
set_option linter.all false
set_option autoImplicit false
set_option maxRecDepth 100000
set_option maxHeartbeats 4000000
/-! G16: x.get(y), y in x of dicts that are data; a call that reads an own dict; is not True; x in xs of texts. -/
namespace G
open PySem L2
section
variable {K : PySem.W.Frag} {W0 W W' W1 : Wd} {σ : L2.St} {Γ : Gm} {A : AE} {ta te ty : TE}
theorem Df.dict_inv {v : V} {ds : List (PyData × PyData)} (nb : isTag ds = false) (f1 : Df K W v (.dict ds)) : ∃ a kvs, v = .ref a ∧ Rd W.H a (.dK kvs) ∧ W.Fz a ∧ Dps K W kvs ds := by
  generalize ed : PyData.dict ds = dd at f1
  cases f1 with
  | bx _ =>
    cases ed
    cases nb
  | pt _ _ _ =>
    cases ed
    cases nb
  | ob _ _ _ =>
    cases ed
    cases nb
  | dt _ _ _ =>
    cases ed
    cases nb
  | rf =>
    cases ed
    cases nb
  | non => cases ed
  | bl _ => cases ed
  | int _ => cases ed
  | str _ => cases ed
  | lst _ _ => cases ed
  | tup _ _ => cases ed
  | @dct a kvs ds' q fz f =>
    cases ed
    exact ⟨a, kvs, rfl, q, fz, f⟩
/-- x.get(y) -/
theorem wpE_get1D {P : PyData → Prop} (h : wpE K W0 ta Γ fun x => ∃ ds, x = .dict ds ∧ isTag ds = false ∧ wpE K W0 ty Γ fun y => ∃ k, y = keyD k ∧ P ((getK ds y).getD .none)) : wpE K W0 (tDGet1 ta ty) Γ P := fun W σ S Q k => h W σ S _ fun v W1 x e1 f1 ⟨ds, ex, nb, h1⟩ => by
  subst ex
  obtain ⟨a, kvs, rfl, q, fz, f⟩ := f1.dict_inv nb
  refine ⟨a, rfl, .inl ⟨kvs, q⟩, h1 W1 σ (S.mono e1) _ fun y W2 dy e2 f2 ⟨l, el, p⟩ => ?_⟩
  subst el
  cases f2.key_inv
  have lf := e2.lf e1.ok
  refine ⟨_, .inl ⟨kvs, l, lf.rdL q fz, rfl, rfl⟩, ?_⟩
  rcases (Dps.mono lf _ _ f).get (k := l) with ⟨q1, q2⟩ | ⟨v, d', q1, q2, q3⟩
  · rw [q1]
    rw [q2] at p
    exact k _ _ _ (e1.trans e2) .non p
  · rw [q1]
    rw [q2] at p
    exact k _ _ _ (e1.trans e2) q3 p
/-- y in x, x a dict that is data -/
theorem wpT_dinD {P : Bool → Prop} (h : wpE K W0 ty Γ fun y => ∃ k, y = keyD k ∧ wpE K W0 ta Γ fun x => ∃ ds, x = .dict ds ∧ isTag ds = false ∧ P (getK ds y).isSome) : wpT K W0 (tB (tDIn ty ta)) Γ P := fun W σ S Q k => h W σ S _ fun y W1 dy e1 f1 ⟨l, el, h1⟩ => by
  subst el
  cases f1.key_inv
  refine h1 W1 σ (S.mono e1) _ fun v W2 x e2 f2 ⟨ds, ex, nb, p⟩ => ?_
  subst ex
  obtain ⟨a, kvs, rfl, q, fz, f⟩ := f2.dict_inv nb
  refine ⟨a, valV kvs l, rfl, .inl ⟨kvs, l, q, rfl, rfl⟩, _, rfl, k W2 _ (e1.trans e2) ?_⟩
  rcases f.get (k := l) with ⟨q1, q2⟩ | ⟨v, d', q1, q2, q3⟩
  · rw [q2] at p; rw [q1]; exact p
  · rw [q2] at p; rw [q1]; exact p
/-- a call that reads an own dict behind another argument, and tells None -/
theorem go_callKN {pre : List PyData → Prop} {post : List PyData → Rs → Prop} {E : XK} {i : Nat} {xs : List (PyData × PyData)} (hi : Γ[i]? = some (.k xs))
    (h : wpE K W0 te Γ fun d => pre [d, .dict xs] ∧ (∀ r, post [d, .dict xs] r → r = .d .none) ∧ A.nx Γ) : go K W0 (tDrop (tCall (spF K pre post) [] E (tCons te (tCons (tVar i) tNil)))) Γ A := fun W σ D S c => by
  obtain ⟨a, kvs, g1, g2, g3, g4, g5, g6⟩ := S.varK hi
  refine h W σ S _ fun u W1 d e1 f1 ⟨hp, hq, p⟩ => ⟨_, g1, ?_⟩
  have S1 := S.mono e1
  have h5 := e1.ex _ _ g5 g4
  have n1 : ¬ W1.Fz a := fun z => by
    have := e1.nf a z g3
    rw [g5] at this
    cases this
  have n2 : ¬ W1.B a := fun z => by
    have := e1.nb a z g4
    rw [g5] at this
    cases this
  have okf : Ok ⟨fun b => W1.Fz b ∨ b = a, W1.B, W1.H⟩ := ⟨fun b hb => hb.elim (e1.ok.fz b) (fun e => by rw [e, h5]; exact fun z => nomatch z), e1.ok.bx, fun b hb => hb.elim (e1.ok.fb b) (fun e => by rw [e]; exact n2)⟩
  have lf : Lf W1 ⟨fun b => W1.Fz b ∨ b = a, W1.B, W1.H⟩ := ⟨okf, fun b hb => .inl hb, fun b hb => hb, fun b o q _ => q⟩
  have f6 : Dps K ⟨fun b => W1.Fz b ∨ b = a, W1.B, W1.H⟩ kvs xs := Dps.mono lf _ _ (Dps.mono (e1.lf S.ok) _ _ g6)
  refine ⟨⟨fun b => W1.Fz b ∨ b = a, W1.B, W1.H⟩, [d, .dict xs], rfl, okf, ?_, hp, fun v W2 r e2 r2 hr => ?_⟩
  · exact .cons (Df.mono lf _ _ f1) (.cons (.dct (.inl h5) (.inr rfl) f6) .nil)
  · have hr2 := hq _ hr
    subst hr2
    have e3 : Le W1 ⟨fun b => W2.Fz b ∧ b ≠ a, W2.B, W2.H⟩ := {
      ok := ⟨fun b hb => e2.ok.fz b hb.1, e2.ok.bx, fun b hb => e2.ok.fb b hb.1⟩
      fz := fun b hb => ⟨e2.fz b (.inl hb), fun e => n1 (e ▸ hb)⟩
      b := e2.b
      ex := e2.ex
      nf := fun b hb n => e2.nf b hb.1 fun z => z.elim n hb.2
      nb := e2.nb }
    exact c.nx _ ⟨fun b => W2.Fz b ∧ b ≠ a, W2.B, W2.H⟩ _ ((e1.trans e3).lf S.ok) (S.mono (e1.trans e3)) p
theorem opR_notBl {a b : Bool} {P : PyData → Prop} (p : P (.bool (!decide (a = b)))) : opR K rNotB (.bool a) (.bool b) P := fun W v u ok f1 f2 Q k => by
  cases f1.bool_inv
  cases f2.bool_inv
  exact ⟨a, b, rfl, rfl, k _ W _ (.refl ok) (.bl _) p⟩
/-- x in xs, an own list of texts -/
theorem wpE_inL {i : Nat} {ss : List Str} {P : PyData → Prop} (hi : Γ[i]? = some (.l (ss.map PyData.str))) (h : wpE K W0 ta Γ fun d => ∃ x, d = .str x ∧ P (.bool (decide (x ∈ ss)))) : wpE K W0 (tOp (rIN K) ta (tVar i)) Γ P := fun W σ S Q k => h W σ S _ fun v W1 d e f ⟨x, hd, p⟩ => by
  subst hd
  cases f.str_inv
  obtain ⟨a, vs, h1, h2, h3, h4, h5, h6⟩ := (S.mono e).varL hi
  have ev := dfs_strs h6
  subst ev
  refine ⟨_, h1, .inr ⟨a, _, rfl, .inl (.inl (.inl h5)), rfl, flat_strs ss, ?_⟩⟩
  have e2 : (if false = true then !inV (V.str x) (ss.map V.str) else inV (V.str x) (ss.map V.str)) = decide (x ∈ ss) := inV_strs x ss
  rw [e2]
  exact k _ W1 _ e (.bl _) p
end
end G

set_option Elab.async false
set_option linter.all false
set_option autoImplicit false
set_option maxRecDepth 100000
set_option maxHeartbeats 4000000
/-! G17: a list of the def's own whose items are lists of its own (rows = [[]]; rows[-1].append(e); rows.append([]); tuple(rows.pop())). -/
namespace G
open PySem L2
def Mine (K : PySem.W.Frag) (W0 W : Wd) (b : Addr) (xs : List PyData) : Prop := W0.H b = none ∧ ¬ W.Fz b ∧ ¬ W.B b ∧ ∃ vs, W.H b = some (.lst vs) ∧ Dfs K W vs xs
def noOwn (Γ : Gm) : Prop := ∀ (i : Nat) (s : Sl), Γ[i]? = some s → s.own = false
abbrev rowsD (xss : List (List PyData)) : PyData := .list (xss.map .list)
structure Sat2 (K : PySem.W.Frag) (W0 W : Wd) (σ : L2.St) (Γ : Gm) (r : Nat) (a : Addr) (bs : List Addr) (xss : List (List PyData)) : Prop where
  sat : Sat K W0 W σ Γ
  nr : Γ[r]? = some .no
  own : noOwn Γ
  var : σ[r]? = some (some (.ref a))
  a0 : W0.H a = none
  aF : ¬ W.Fz a
  aB : ¬ W.B a
  aH : W.H a = some (.lst (bs.map V.ref))
  nd : (a :: bs).Nodup
  len : bs.length = xss.length
  all : ∀ (i : Nat) (b : Addr) (xs : List PyData), bs[i]? = some b → xss[i]? = some xs → Mine K W0 W b xs
section
variable {K : PySem.W.Frag} {W0 W W' W1 : Wd} {σ : L2.St} {Γ : Gm} {r : Nat} {a : Addr} {bs : List Addr} {xss : List (List PyData)}
theorem noOwn.set (h : noOwn Γ) {i : Nat} {s : Sl} (hs : s.own = false) : noOwn (Γ.set i s) := fun j t hj => by
  rcases get_set hj with ⟨_, _, rfl⟩ | ⟨_, g⟩
  · exact hs
  · exact h j t g
theorem Sat.mutN (S : Sat K W0 W σ Γ) (no : noOwn Γ) (lf : Lf W W') (le : Le W0 W') : Sat K W0 W' σ Γ :=
  ⟨le, fun i s h => by
    obtain ⟨o, h1, h2⟩ := S.sl i s h
    refine ⟨o, h1, ?_⟩
    have := no i s h
    cases s with
    | no => cases o <;> trivial
    | d x =>
      cases o with
      | none => exact h2
      | some v => exact Df.mono lf _ _ h2
    | l _ => exact absurd this (by simp [Sl.own])
    | k _ => exact absurd this (by simp [Sl.own]), fun i j s t b _ h1 o1 _ _ _ _ => by
    rw [no i s h1] at o1
    exact absurd o1 (by simp)⟩
theorem Mine.mono {b : Addr} {xs : List PyData} (ok : Ok W) (e : Le W W') (h : Mine K W0 W b xs) : Mine K W0 W' b xs := by
  obtain ⟨h2, h3, h4, vs, h5, h6⟩ := h
  refine ⟨h2, fun f => ?_, fun f => ?_, vs, e.ex _ _ h5 h4, Dfs.mono (e.lf ok) _ _ h6⟩
  · have := e.nf b f h3
    rw [h5] at this
    cases this
  · have := e.nb b f h4
    rw [h5] at this
    cases this
theorem Sat2.mono (S : Sat2 K W0 W σ Γ r a bs xss) (e : Le W W') : Sat2 K W0 W' σ Γ r a bs xss where
  sat := S.sat.mono e
  nr := S.nr
  own := S.own
  var := S.var
  a0 := S.a0
  aF := fun f => by
    have := e.nf a f S.aF
    rw [S.aH] at this
    cases this
  aB := fun f => by
    have := e.nb a f S.aB
    rw [S.aH] at this
    cases this
  aH := e.ex _ _ S.aH S.aB
  nd := S.nd
  len := S.len
  all := fun i b xs h1 h2 => (S.all i b xs h1 h2).mono S.sat.ok e
theorem Sat2.setD (S : Sat2 K W0 W σ Γ r a bs xss) {i : Nat} {v : V} {x : PyData} (ne : i ≠ r) (h : Df K W v x) : Sat2 K W0 W (σ.set i (some v)) (Γ.set i (.d x)) r a bs xss :=
  { S with
    sat := S.sat.setD i h
    nr := by rw [List.getElem?_set, if_neg ne]; exact S.nr
    own := S.own.set rfl
    var := by rw [List.getElem?_set, if_neg ne]; exact S.var }
/-- read as data: all of it frozen for the while -/
theorem Sat2.view (S : Sat2 K W0 W σ Γ r a bs xss) : ∃ V1 : Wd, V1.H = W.H ∧ Lf W V1 ∧ Sat K W0 V1 σ (Γ.set r (.d (rowsD xss))) ∧ (∀ W', Le V1 W' → ∃ U, U.H = W'.H ∧ Le W U) := by
  have hm : ∀ b, b ∈ bs → ∃ xs, Mine K W0 W b xs := fun b hb => by
    obtain ⟨i, hi, e⟩ := List.mem_iff_getElem.mp hb
    have hx : i < xss.length := by rw [← S.len]; exact hi
    exact ⟨xss[i], S.all i b _ (by rw [List.getElem?_eq_getElem hi, e]) (List.getElem?_eq_getElem hx)⟩
  have ok' : Ok ⟨fun b => W.Fz b ∨ (b = a ∨ b ∈ bs), W.B, W.H⟩ := ⟨fun b hb => by
      rcases hb with hb | rfl | hb
      · exact S.sat.ok.fz b hb
      · rw [S.aH]; exact fun z => (nomatch z)
      · obtain ⟨xs, _, _, _, vs, q, _⟩ := hm b hb
        rw [q]; exact fun z => (nomatch z), S.sat.ok.bx, fun b hb => by
      rcases hb with hb | rfl | hb
      · exact S.sat.ok.fb b hb
      · exact S.aB
      · obtain ⟨xs, _, _, q, _⟩ := hm b hb
        exact q⟩
  have lf : Lf W ⟨fun b => W.Fz b ∨ (b = a ∨ b ∈ bs), W.B, W.H⟩ := ⟨ok', fun b hb => .inl hb, fun b hb => hb, fun b o q _ => q⟩
  have le : Le W0 ⟨fun b => W.Fz b ∨ (b = a ∨ b ∈ bs), W.B, W.H⟩ := ⟨ok', fun b hb => .inl (S.sat.le.fz b hb), S.sat.le.b, S.sat.le.ex, fun b hb n => by
    rcases hb with hb | rfl | hb
    · exact S.sat.le.nf b hb n
    · exact S.a0
    · obtain ⟨xs, q, _⟩ := hm b hb
      exact q, S.sat.le.nb⟩
  refine ⟨⟨fun b => W.Fz b ∨ (b = a ∨ b ∈ bs), W.B, W.H⟩, rfl, lf, ⟨le, fun i s h => ?_, fun i j s t b _ h1 o1 _ _ _ _ => ?_⟩, fun W' e => ?_⟩
  · rcases get_set h with ⟨e, g, rfl⟩ | ⟨e, g⟩
    · subst e
      refine ⟨_, S.var, ?_⟩
      refine Df.lst (.inl ⟨.inl S.aH, .inr (.inl rfl)⟩) ?_
      have key : ∀ (cs : List Addr) (yss : List (List PyData)), cs.length = yss.length → (∀ (i : Nat) (b : Addr) (xs : List PyData), cs[i]? = some b → yss[i]? = some xs → b ∈ bs ∧ Mine K W0 W b xs) → Dfs K ⟨fun b => W.Fz b ∨ (b = a ∨ b ∈ bs), W.B, W.H⟩ (cs.map V.ref) (yss.map .list) := by
        intro cs
        induction cs with
        | nil =>
          intro yss hl _
          cases yss with
          | nil => exact .nil
          | cons _ _ => cases hl
        | cons c cs ih =>
          intro yss hl hh
          cases yss with
          | nil => cases hl
          | cons y yss =>
            obtain ⟨hb, _, _, _, vs, q5, q6⟩ := hh 0 c y rfl rfl
            exact .cons (.lst (.inl ⟨.inl q5, .inr (.inr hb)⟩) (Dfs.mono lf _ _ q6)) (ih yss (Nat.succ.inj hl) fun i b xs h1 h2 => hh (i + 1) b xs h1 h2)
      exact key bs xss S.len fun i b xs h1 h2 => ⟨List.mem_of_getElem? h1, S.all i b xs h1 h2⟩
    · have no := S.own i s g
      obtain ⟨o, q1, q2⟩ := S.sat.sl i s g
      refine ⟨o, q1, ?_⟩
      cases s with
      | no => cases o <;> trivial
      | d x =>
        cases o with
        | none => exact q2
        | some v => exact Df.mono lf _ _ q2
      | l _ => cases no
      | k _ => cases no
  · have no : noOwn (Γ.set r (.d (rowsD xss))) := S.own.set rfl
    rw [no i s h1] at o1
    cases o1
  · have nF : ∀ b, W.Fz b → ¬ (b = a ∨ b ∈ bs) := fun b hb z => by
      rcases z with rfl | z
      · exact S.aF hb
      · obtain ⟨xs, _, q, _⟩ := hm b z
        exact q hb
    exact ⟨⟨fun b => W'.Fz b ∧ ¬ (b = a ∨ b ∈ bs), W'.B, W'.H⟩, rfl, {
      ok := ⟨fun b hb => e.ok.fz b hb.1, e.ok.bx, fun b hb => e.ok.fb b hb.1⟩
      fz := fun b hb => ⟨e.fz b (.inl hb), nF b hb⟩
      b := e.b
      ex := e.ex
      nf := fun b hb n => e.nf b hb.1 fun z => z.elim n hb.2
      nb := e.nb }⟩

structure AE2 where
  nx : Gm → List (List PyData) → Prop
  rt : Rs → Prop
structure Cn2 (K : PySem.W.Frag) (W0 W : Wd) (D : Ends) (r : Nat) (A : AE2) : Prop where
  nx : ∀ Γ' W' σ' a bs xss, Lf W W' → Sat2 K W0 W' σ' Γ' r a bs xss → A.nx Γ' xss → D.nx σ' W'.H
  rt : ∀ v W' q, Le W0 W' → RsOk K W0 W' v q → A.rt q → D.rt v W'.H
def go2 (K : PySem.W.Frag) (W0 : Wd) (ts : TS) (Γ : Gm) (r : Nat) (xss : List (List PyData)) (A : AE2) : Prop := ∀ W σ D a bs, Sat2 K W0 W σ Γ r a bs xss → Cn2 K W0 W D r A → ts D σ W.H
variable {D : Ends} {A : AE2} {ta tb te : TE} {t u : TS} {tt : TT}
theorem Cn2.later (c : Cn2 K W0 W D r A) (e : Lf W W') : Cn2 K W0 W' D r A :=
  ⟨fun Γ' W2 σ' a bs xss f => c.nx Γ' W2 σ' a bs xss (e.trans f), c.rt⟩
theorem go2_seq (h : go2 K W0 t Γ r xss { A with nx := fun Γ' yss => go2 K W0 u Γ' r yss A }) : go2 K W0 (tSeq t u) Γ r xss A := fun W σ D a bs S c =>
  h W σ { D with nx := u D } a bs S ⟨fun Γ' W' σ' a' bs' yss f S' g => g W' σ' D a' bs' S' (c.later f), c.rt⟩
theorem go2_next (p : A.nx Γ xss) : go2 K W0 tNext Γ r xss A := fun W σ D a bs S c => c.nx Γ W σ a bs xss (.refl S.sat.ok) S p
theorem go2_retN (p : A.rt (.d .none)) : go2 K W0 tRetN Γ r xss A := fun W σ D a bs S c => c.rt .non W (.d .none) S.sat.le Df.non p
theorem go2_ret (h : wpE K W0 te Γ fun d => A.rt (.d d)) : go2 K W0 (tRet te) Γ r xss A := fun W σ D a bs S c =>
  h W σ S.sat _ fun v W' d e f p => c.rt v W' (.d d) (S.sat.le.trans e) f p
theorem go2_if (h : wpT K W0 tt (Γ.set r (.d (rowsD xss))) fun b => (b = true → go2 K W0 t Γ r xss A) ∧ (b = false → go2 K W0 u Γ r xss A)) : go2 K W0 (tIfS tt t u) Γ r xss A := fun W σ D a bs S c => by
  obtain ⟨V1, hV, lf, S1, hU⟩ := S.view
  rw [← hV]
  refine h V1 σ S1 _ fun W' b e p => ?_
  obtain ⟨U, eU, leU⟩ := hU W' e
  rw [← eU]
  cases b with
  | true =>
    show t D σ U.H
    exact p.1 rfl U σ D a bs (S.mono leU) (c.later (leU.lf S.sat.ok))
  | false =>
    show u D σ U.H
    exact p.2 rfl U σ D a bs (S.mono leU) (c.later (leU.lf S.sat.ok))
theorem go2_asgB {i : Nat} (ne : i ≠ r) (h : wpE K W0 te (Γ.set r (.d (rowsD xss))) fun d => ∃ b, d = .bool b ∧ A.nx (Γ.set i (.d (.bool b))) xss) : go2 K W0 (tAsg te (gName i)) Γ r xss A := fun W σ D a bs S c => by
  obtain ⟨V1, hV, lf, S1, hU⟩ := S.view
  rw [← hV]
  refine h V1 σ S1 _ fun v W' d e f ⟨b, hd, p⟩ => ?_
  subst hd
  cases f.bool_inv
  obtain ⟨U, eU, leU⟩ := hU W' e
  rw [← eU]
  exact c.nx _ U _ a bs xss (leU.lf S.sat.ok) ((S.mono leU).setD ne (.bl b)) p
theorem last_split {α : Type} {l : List α} (h : l.length ≠ 0) : ∃ m x, l = m ++ [x] := by
  have hn : l ≠ [] := fun e => h (by rw [e]; rfl)
  exact ⟨l.dropLast, l.getLast hn, (List.dropLast_concat_getLast hn).symm⟩
/-- the last of the rows: its place -/
theorem Sat2.last {ps : List (List PyData)} {q : List PyData} (S : Sat2 K W0 W σ Γ r a bs (ps ++ [q])) : ∃ cs b, bs = cs ++ [b] ∧ cs.length = ps.length ∧ Mine K W0 W b q := by
  obtain ⟨cs, b, rfl⟩ := last_split (l := bs) (by rw [S.len]; simp)
  have hl : cs.length = ps.length := by
    have := S.len
    simp at this
    exact this
  exact ⟨cs, b, rfl, hl, S.all cs.length b q (by simp) (by rw [hl]; simp)⟩
/-- one of the rows, or the rows' own list, is written anew -/
theorem Sat2.mutB {ps : List (List PyData)} {q q' : List PyData} {cs : List Addr} {b : Addr} {us : List V} (S : Sat2 K W0 W σ Γ r a (cs ++ [b]) (ps ++ [q])) (hl : cs.length = ps.length) (m : Mine K W0 W b q)
    (f : Dfs K W us q') : Lf W ⟨W.Fz, W.B, upd W.H b (.lst us)⟩ ∧ Sat2 K W0 ⟨W.Fz, W.B, upd W.H b (.lst us)⟩ σ Γ r a (cs ++ [b]) (ps ++ [q']) := by
  obtain ⟨m0, mF, mB, vs, mH, mf⟩ := m
  have lf := S.sat.ok.mutLf (o' := .lst us) mH trivial mF mB
  have nd := S.nd
  have nab : a ≠ b := fun e => by
    have := (List.nodup_cons.mp nd).1
    exact this (by rw [e]; simp)
  refine ⟨lf, { S with
    sat := S.sat.mutN S.own lf (S.sat.le.mut mH mB m0)
    aH := by
      show upd W.H b _ a = _
      rw [upd_ne nab]
      exact S.aH
    len := by
      have := S.len
      simp at this ⊢
      exact this
    all := fun i c xs h1 h2 => ?_ }⟩
  by_cases hi : i < cs.length
  · rw [List.getElem?_append_left hi] at h1
    rw [List.getElem?_append_left (by omega)] at h2
    obtain ⟨n0, nF, nB, ws, nH, nf⟩ := S.all i c xs (by rw [List.getElem?_append_left hi]; exact h1) (by rw [List.getElem?_append_left (by omega)]; exact h2)
    have nbc : c ≠ b := fun e => by
      subst e
      have := (List.nodup_append.mp (List.nodup_cons.mp nd).2).2.2 c (List.mem_of_getElem? h1) c (by simp)
      exact this rfl
    exact ⟨n0, nF, nB, ws, by show upd W.H b _ c = _; rw [upd_ne nbc]; exact nH, Dfs.mono lf _ _ nf⟩
  · by_cases hj : i = cs.length
    · subst hj
      simp at h1
      rw [hl] at h2
      simp at h2
      subst h1
      subst h2
      exact ⟨m0, mF, mB, us, upd_same, Dfs.mono lf _ _ f⟩
    · rw [List.getElem?_eq_none (by simp; omega)] at h1
      cases h1
/-- rows[-1].append(e) -/
theorem go2_appLast {ps : List (List PyData)} {q : List PyData} (h : wpE K W0 te Γ fun d => q.length < 10000000 ∧ A.nx Γ (ps ++ [q ++ [d]])) :
    go2 K W0 (tDrop (tBM K "list" rAppend (tOp (rIx K) (tVar r) (tUn (rU fun i => .int (-i)) (tC (.int 1)))) (tCons te tNil))) Γ r (ps ++ [q]) A := fun W σ D a bs S c => by
  have hsz : sizeLine = 16777216 := sizeLine_eq
  obtain ⟨cs, b, rfl, hl, m⟩ := S.last
  obtain ⟨m0, mF, mB, vs, mH, mf⟩ := id m
  refine ⟨_, S.var, 1, rfl, .inl ⟨a, (cs ++ [b]).map V.ref, -1, .ref b, rfl, rfl, .inl (.inl S.aH), by rw [List.map_append]; exact atI_last _ _, ?_⟩⟩
  refine ⟨.inl ⟨rfl, vs, .inl (.inl mH)⟩, h W σ S.sat _ fun v W1 d e f ⟨hz, p⟩ => ?_⟩
  have S1 := S.mono e
  have m1 := m.mono S.sat.ok e
  have h5 := e.ex _ _ mH mB
  refine ⟨b, vs, v, rfl, rfl, h5, by rw [mf.length]; omega, ?_⟩
  obtain ⟨lf, S2⟩ := S1.mutB hl m1 (us := vs ++ [v]) (q' := q ++ [d]) ((Dfs.mono (e.lf S.sat.ok) _ _ mf).append (.cons f .nil))
  exact c.nx Γ ⟨W1.Fz, W1.B, upd W1.H b (.lst (vs ++ [v]))⟩ σ a _ _ ((e.lf S.sat.ok).trans lf) S2 p
/-- rows.append([]) -/
theorem go2_appNew (hz : xss.length < 10000000) (p : A.nx Γ (xss ++ [[]])) :
    go2 K W0 (tDrop (tBM K "list" rAppend (tVar r) (tCons (tLst tNil) tNil))) Γ r xss A := fun W σ D a bs S c => by
  have hsz : sizeLine = 16777216 := sizeLine_eq
  refine ⟨_, S.var, .inl ⟨rfl, _, .inl (.inl S.aH)⟩, Nat.zero_le _, fun b hb => ?_⟩
  obtain ⟨e, f⟩ := S.sat.ok.newL (vs := []) (ds := []) hb (Dfs.nil (K := K))
  have S1 := S.mono e
  obtain ⟨p', vs', ep, n1, n2, n3, n4, n5⟩ := f
  cases ep
  refine ⟨a, bs.map V.ref, .ref b, rfl, rfl, S1.aH, by rw [List.length_map, S.len]; omega, ?_⟩
  have nab : a ≠ b := fun z => by
    subst z
    rw [S.aH] at hb
    cases hb
  have lf := S1.sat.ok.mutLf (o' := .lst (bs.map V.ref ++ [.ref b])) S1.aH trivial S1.aF S1.aB
  have nbs : ∀ (i : Nat) (x : Addr), bs[i]? = some x → x ≠ b := fun i x hx z => by
    subst z
    have hi : i < xss.length := by rw [← S.len]; exact (List.getElem?_eq_some_iff.mp hx).1
    obtain ⟨_, _, _, ws, q, _⟩ := S.all i x _ hx (List.getElem?_eq_getElem hi)
    rw [q] at hb
    cases hb
  have W0b : W0.H b = none := S.sat.le.fresh hb
  refine c.nx Γ ⟨_, _, upd (upd W.H b (.lst [])) a (.lst (bs.map V.ref ++ [.ref b]))⟩ σ a (bs ++ [b]) (xss ++ [[]]) ((e.lf S.sat.ok).trans lf) { S1 with
    sat := S1.sat.mutN S.own lf (S1.sat.le.mut S1.aH S1.aB S.a0)
    aH := by
      show upd _ a _ a = _
      rw [upd_same, List.map_append]
      rfl
    nd := by
      have nd := List.nodup_cons.mp S.nd
      refine List.nodup_cons.mpr ⟨fun z => ?_, List.nodup_append.mpr ⟨nd.2, by simp, fun x hx y hy => ?_⟩⟩
      · rcases List.mem_append.mp z with z | z
        · exact nd.1 z
        · exact nab (by simpa using z)
      · obtain ⟨i, hi⟩ := List.mem_iff_getElem?.mp hx
        have : y = b := by simpa using hy
        rw [this]
        exact nbs i x hi
    len := by rw [List.length_append, List.length_append, S.len]; rfl
    all := fun i x xs h1 h2 => ?_ } p
  by_cases hi : i < bs.length
  · rw [List.getElem?_append_left hi] at h1
    rw [List.getElem?_append_left (by rw [← S.len]; exact hi)] at h2
    obtain ⟨q0, qF, qB, ws, qH, qf⟩ := S1.all i x xs h1 h2
    have nax : x ≠ a := fun z => by
      subst z
      exact (List.nodup_cons.mp S.nd).1 (List.mem_of_getElem? h1)
    exact ⟨q0, qF, qB, ws, by show upd _ a _ x = _; rw [upd_ne nax]; exact qH, Dfs.mono lf _ _ qf⟩
  · by_cases hj : i = bs.length
    · subst hj
      simp at h1
      rw [S.len] at h2
      simp at h2
      subst h1
      subst h2
      exact ⟨W0b, n2, n3, [], by show upd _ a _ b = _; rw [upd_ne (Ne.symm nab)]; exact upd_same, .nil⟩
    · rw [List.getElem?_eq_none (by simp; omega)] at h1
      cases h1
/-- x = tuple(rows.pop()) -/
theorem go2_pop {i : Nat} {ps : List (List PyData)} {q : List PyData} (ne : i ≠ r) (p : A.nx (Γ.set i (.d (.tuple q))) ps) :
    go2 K W0 (tAsg (tCB (rTof K) (tCons (tBM0 K "list" rPop (tVar r)) tNil)) (gName i)) Γ r (ps ++ [q]) A := fun W σ D a bs S c => by
  obtain ⟨cs, b, rfl, hl, m⟩ := S.last
  obtain ⟨m0, mF, mB, vs, mH, mf⟩ := id m
  have lf := S.sat.ok.mutLf (o' := .lst ((cs ++ [b]).map V.ref).dropLast) S.aH trivial S.aF S.aB
  have nab : b ≠ a := fun e => by
    subst e
    exact (List.nodup_cons.mp S.nd).1 (by simp)
  refine ⟨_, S.var, .inl ⟨rfl, _, .inl (.inl S.aH)⟩, a, _, .ref b, rfl, rfl, S.aH, by simp, ?_⟩
  refine ⟨b, vs, rfl, .inl ⟨.inl (.inl (by show upd _ a _ b = _; rw [upd_ne nab]; exact mH)), fun l hl2 => ?_⟩⟩
  have S1 : Sat2 K W0 ⟨W.Fz, W.B, upd W.H a (.lst ((cs ++ [b]).map V.ref).dropLast)⟩ σ Γ r a cs ps := { S with
    sat := S.sat.mutN S.own lf (S.sat.le.mut S.aH S.aB S.a0)
    aH := by
      show upd _ a _ a = _
      rw [upd_same]
      simp
    nd := by
      have nd := List.nodup_cons.mp S.nd
      exact List.nodup_cons.mpr ⟨fun z => nd.1 (by simp [z]), (List.nodup_append.mp nd.2).1⟩
    len := hl
    all := fun i x xs h1 h2 => by
      have hi := (List.getElem?_eq_some_iff.mp h1).1
      obtain ⟨q0, qF, qB, ws, qH, qf⟩ := S.all i x xs (by rw [List.getElem?_append_left hi]; exact h1) (by rw [List.getElem?_append_left (by omega)]; exact h2)
      have nax : x ≠ a := fun z => by
        subst z
        exact (List.nodup_cons.mp S.nd).1 (by simp [List.mem_of_getElem? h1])
      exact ⟨q0, qF, qB, ws, by show upd _ a _ x = _; rw [upd_ne nax]; exact qH, Dfs.mono lf _ _ qf⟩ }
  obtain ⟨e, f⟩ := S1.sat.ok.newT hl2 (Dfs.mono lf _ _ mf)
  exact c.nx _ _ _ a cs ps (lf.trans (e.lf S1.sat.ok)) ((S1.mono e).setD ne f) p
/-- rows = [[]]; for x in ..: ..; what follows, the rows being data -/
theorem go_rows {A : AE} {w : Nat} {wi : TI} (hr : r < Γ.length) (nw : w ≠ r) (no : noOwn Γ)
    (h : wpI K W0 wi (Γ.set r .no) fun ds => ∃ Iv : Nat → Gm → List (List PyData) → Prop, Iv 0 (Γ.set r .no) [[]] ∧
      (∀ (i : Nat) (d : PyData) (Γ' : Gm) (yss : List (List PyData)), ds[i]? = some d → Iv i Γ' yss → go2 K W0 t (Γ'.set w (.d d)) r yss ⟨Iv (i + 1), A.rt⟩) ∧
      ∀ Γ' yss, Iv ds.length Γ' yss → go K W0 u (Γ'.set r (.d (rowsD yss))) A) :
    go K W0 (tSeq (tAsg (tLst (tCons (tLst tNil) tNil)) (gName r)) (tSeq (tFor wi (gName w) t) u)) Γ A := fun W σ D S c => by
  have hsz : sizeLine = 16777216 := sizeLine_eq
  refine ⟨Nat.zero_le _, fun b hb => ⟨by rw [hsz]; exact Nat.le_of_ble_eq_true rfl, fun a ha => ?_⟩⟩
  have hb0 : W.H b = none := hb
  obtain ⟨e1, n1⟩ := S.ok.newL (vs := []) (ds := []) hb (Dfs.nil (K := K))
  have ha1 : upd W.H b (.lst []) a = none := ha
  obtain ⟨e2, _⟩ := e1.ok.newT (vs := []) (ds := []) ha (Dfs.nil (K := K))
  have nab : a ≠ b := fun z => by
    subst z
    rw [upd_same] at ha1
    cases ha1
  have okA : Ok ⟨W.Fz, W.B, upd (upd W.H b (.lst [])) a (.lst [.ref b])⟩ := (e1.ok.new (u := .lst [.ref b]) ha).ok
  have leA : Le W ⟨W.Fz, W.B, upd (upd W.H b (.lst [])) a (.lst [.ref b])⟩ := e1.trans (e1.ok.new (u := .lst [.ref b]) ha)
  have fr : ∀ c, W.H c = none → ¬ W.Fz c ∧ ¬ W.B c := fun c hc => ⟨fun z => S.ok.fz c z hc, fun z => by
    obtain ⟨_, _, _, q⟩ := S.ok.bx c z
    rw [hc] at q
    cases q⟩
  have ha0 : W.H a = none := by
    rw [upd_ne nab] at ha1
    exact ha1
  have hlen : r < σ.length := S.len hr
  have S1 : Sat2 K W0 ⟨W.Fz, W.B, upd (upd W.H b (.lst [])) a (.lst [.ref b])⟩ (σ.set r (some (.ref a))) (Γ.set r .no) r a [b] [[]] := {
    sat := (S.mono leA).set r (show SlOk K W0 _ (some (.ref a)) .no from trivial) (fun z => by cases z)
    nr := by rw [List.getElem?_set, if_pos rfl, if_pos hr]
    own := no.set rfl
    var := by rw [List.getElem?_set, if_pos rfl, if_pos hlen]
    a0 := S.le.fresh ha0
    aF := (fr a ha0).1
    aB := (fr a ha0).2
    aH := upd_same
    nd := by simp [nab]
    len := rfl
    all := fun i c xs h1 h2 => by
      cases i with
      | zero =>
        cases h1
        cases h2
        exact ⟨S.le.fresh hb0, (fr b hb0).1, (fr b hb0).2, [], by show upd _ a _ b = _; rw [upd_ne (Ne.symm nab)]; exact upd_same, .nil⟩
      | succ i => cases h1 }
  refine h _ _ S1.sat _ fun W2 J ds e3 it ⟨Iv, i0, hs, hd⟩ => ?_
  have S2 := S1.mono e3
  have lf0 : Lf W W2 := (leA.trans e3).lf S.ok
  refine ⟨fun i m σ' H => m = ds.length - i ∧ i ≤ ds.length ∧ ∃ W3 Γ' a' bs yss, W3.H = H ∧ Lf W2 W3 ∧ Sat2 K W0 W3 σ' Γ' r a' bs yss ∧ Iv i Γ' yss, ⟨ds.length, by simp, Nat.zero_le _, W2, _, a, [b], [[]], rfl, .refl e3.ok, S2, i0⟩, ?_⟩
  rintro i m σ' H ⟨rfl, hi, W3, Γ', a', bs, yss, rfl, f2, S3, hI⟩
  have c2 := c.later (lf0.trans f2)
  by_cases hlt : i < ds.length
  · refine .inr ⟨it.go W3 i f2 hlt, fun σ' H' => ∃ W3 Γ' a' bs yss, W3.H = H' ∧ Lf W2 W3 ∧ Sat2 K W0 W3 σ' Γ' r a' bs yss ∧ Iv (i + 1) Γ' yss, fun σ' H' q => ⟨ds.length - (i + 1), by omega, rfl, hlt, q⟩, fun x H' hy => ?_⟩
    obtain ⟨W4, rfl, e4, f4⟩ := it.yld W3 i x H' ds[i] f2 S3.sat.ok (List.getElem?_eq_getElem hlt) hy
    have f5 : Lf W2 W4 := f2.trans (e4.lf S3.sat.ok)
    refine hs i ds[i] Γ' yss (List.getElem?_eq_getElem hlt) hI W4 _ _ a' bs ((S3.mono e4).setD nw f4) ⟨fun Γ5 W5 σ5 a5 b5 y5 f6 S5 q => ⟨W5, Γ5, a5, b5, y5, rfl, f5.trans f6, S5, q⟩, fun v W5 q e5 r5 p => c2.rt v W5 q e5 r5 p⟩
  · have e : i = ds.length := by omega
    subst e
    refine .inl ⟨it.stop W3 _ f2 (Nat.le_refl _), ?_⟩
    obtain ⟨V1, hV, lf, S4, _⟩ := S3.view
    show u D σ' W3.H
    rw [← hV]
    exact hd Γ' yss hI V1 σ' D S4 (c2.later lf)
/-- *e, e a list that is told -/
theorem wpA_starE {q : TA} {P : List PyData → Prop} (h : wpE K W0 ta Γ fun d => ∃ ds, d = .list ds ∧ wpA K W0 q Γ fun ys => P (ds ++ ys)) : wpA K W0 (StX.tStar K ta q) Γ P := fun W σ S Q k => h W σ S _ fun v W1 d e f ⟨ds, hd, h1⟩ => by
  subst hd
  cases f with
  | @lst a vs _ z g =>
    exact ⟨a, vs, rfl, .inr (z.elim (fun z => .inl z.1) fun z => z _), h1 W1 σ (S.mono e) _ fun us W2 es e2 f2 p => k _ W2 _ (e.trans e2) ((Dfs.mono (e2.lf e.ok) _ _ g).append f2) p⟩
/-! s.split(t) -/
def rSplit : V → List V → Hp → VK → Prop := fun v vs h Z => ∃ s t : Str, v = .str s ∧ vs = [.str t] ∧ (t.length == 0) = false ∧ s.length + 2 ≤ sizeLine ∧ rNewStrs (Txt.split s t) h Z
theorem wpN_split {P : List PyData → Prop} (h : wpE K W0 ta Γ fun d => ∃ s, d = .str s ∧ wpE K W0 te Γ fun e => ∃ t, e = .str t ∧ (t.length == 0) = false ∧ s.length + 2 ≤ sizeLine ∧ P ((Txt.split s t).map PyData.str)) : wpN K W0 (tM1 rSplit ta te) Γ P := fun W σ S Q k => h W σ S _ fun v W1 d e1 f1 ⟨s, hd, h1⟩ => by
  subst hd
  cases f1.str_inv
  refine ⟨⟨s, rfl⟩, h1 W1 σ (S.mono e1) _ fun u W2 d2 e2 f2 ⟨t, hd2, h2, h3, p⟩ => ?_⟩
  subst hd2
  cases f2.str_inv
  refine ⟨s, t, rfl, rfl, h2, h3, fun q hq => ?_⟩
  obtain ⟨e, f⟩ := e2.ok.newL (K := K) hq (strs_dfs (K := K) (W := W2) (ns := Txt.split s t))
  exact k _ _ _ ((e1.trans e2).trans e) (f.up S.ok (e1.trans e2)) p
end
section
variable {K : PySem.W.Frag} {W0 W : Wd} {Γ : Gm} {ta tb : TE}
theorem Dfs.rep {vs : List V} {ds : List PyData} (f : Dfs K W vs ds) : ∀ n : Nat, Dfs K W (List.replicate n vs).flatten (List.replicate n ds).flatten
  | 0 => .nil
  | n + 1 => by
    rw [List.replicate_succ, List.replicate_succ, List.flatten_cons, List.flatten_cons]
    exact f.append (Dfs.rep f n)
theorem flat_rep_len {α : Type} (xs : List α) : ∀ n : Nat, (List.replicate n xs).flatten.length = n * xs.length
  | 0 => by simp
  | n + 1 => by rw [List.replicate_succ, List.flatten_cons, List.length_append, flat_rep_len xs n, Nat.succ_mul, Nat.add_comm]
/-- [..] * k -/
theorem wpN_rep {P : List PyData → Prop} (h : wpN K W0 ta Γ fun xs => wpE K W0 tb Γ fun y => ∃ k : Int, y = .int k ∧ 0 ≤ k ∧ k ≤ 1000 ∧ xs.length ≤ 1000 ∧ P (List.replicate k.toNat xs).flatten) : wpN K W0 (tOp rRep ta tb) Γ P := fun W σ S Q k =>
  h W σ S _ fun v W1 xs e1 n1 h1 => by
    obtain ⟨a, vs, rfl, m2, m3, m4, m5, m6⟩ := n1
    refine h1 W1 σ (S.mono e1) _ fun u W2 d e2 f2 ⟨i, hd, hi0, hi1, hx, p⟩ => ?_
    subst hd
    cases f2.int_inv
    have g6 := Dfs.mono (e2.lf e1.ok) _ _ m6
    have hm : vs.length * i.toNat ≤ 1000 * 1000 := Nat.mul_le_mul (by rw [m6.length]; exact hx) (by omega)
    refine ⟨a, i, vs, rfl, rfl, e2.ex _ _ m5 m4, by omega, by omega, by rw [sizeLine_eq]; omega, fun q hq => ?_⟩
    obtain ⟨e, f⟩ := e2.ok.newL hq (g6.rep i.toNat)
    exact k _ _ _ ((e1.trans e2).trans e) (f.up S.ok (e1.trans e2)) p
end
section
variable {X : Cx} {o e : Expr} {to te : TE} {apos pos : Pos}
theorem split_K (ho : PE X o to) (he : PE X e te) (hs : starEach [e] X.env = [(false, eval e X.env)] := by rfl) (hb : attributeBase o "split" X.env (eval o X.env) = eval o X.env := by rfl) (hl : (apos.endLine == pos.line) = true := by rfl) :
    PE X (.Call (.Attribute o "split" apos) [e] [] pos) (tM1 rSplit to te) := pe_split ho he hs hb hl
end
end G

set_option Elab.async false
set_option linter.all false
set_option autoImplicit false
set_option maxRecDepth 100000
set_option maxHeartbeats 4000000
/-! G18: instances of a class with one attribute, stored once in __init__, as data: the attribute read, a method called, the class called. -/
namespace G
open PySem L2
/-- an instance of the class at C with the attribute f -/
def obD (C : Addr) (f : Str) (d : PyData) : PyData := .dict [(.none, .int (C : Nat)), (.str f, d)]
section
variable {K : PySem.W.Frag} {W0 W W' W1 : Wd} {σ : L2.St} {Γ : Gm} {A : AE} {te : TE} {t : TA} {C : Addr} {f m : Str}
theorem Df.ob_inv {v : V} {d : PyData} (h : Df K W v (obD C f d)) : ∃ a dx u, v = .ref a ∧ W.H a = some (.ins C dx [(f, u)]) ∧ W.Fz a ∧ Df K W u d := by
  unfold obD at h
  generalize ed : PyData.dict [(.none, .int (C : Nat)), (.str f, d)] = dd at h
  cases h with
  | non => cases ed
  | bl _ => cases ed
  | int _ => cases ed
  | str _ => cases ed
  | bx _ => cases ed
  | lst _ _ => cases ed
  | tup _ _ => cases ed
  | pt _ _ _ => cases ed
  | dt _ _ _ => cases ed
  | rf => cases ed
  | dct _ _ t =>
    cases ed
    obtain ⟨k, e⟩ := t.key
    cases k <;> cases e
  | @ob a C' dx fs ds h1 h2 h3 =>
    have e := PyData.dict.inj ed
    have e1 := (List.cons.inj e).1
    have e2 := (List.cons.inj e).2
    have eC : C = C' := by
      have := (Prod.mk.inj e1).2
      have := PyData.int.inj this
      exact Int.ofNat.inj this
    subst eC
    rw [← e2] at h3
    cases fs with
    | nil => cases h3
    | cons p fs =>
      obtain ⟨g, u⟩ := p
      generalize ek : ((.str f, d) :: [] : List (PyData × PyData)) = l at h3
      cases h3 with
      | cons h4 h5 =>
        have k1 := (List.cons.inj ek).1
        have k2 := (List.cons.inj ek).2
        have k3 := (Prod.mk.inj k1).1
        have k4 := (Prod.mk.inj k1).2
        have eg : f = g := PyData.str.inj k3
        subst eg
        subst k4
        rw [← k2] at h5
        cases fs with
        | nil => exact ⟨a, dx, u, rfl, h1, h2, h4⟩
        | cons _ _ => cases h5
/-- x.f -/
theorem wpE_fld1 {P : PyData → Prop} (cl : Cls K C) (na : NoAttr K C f) (h : wpE K W0 te Γ fun d => ∃ y, d = obD C f y ∧ P y) : wpE K W0 (tFld K te f) Γ P := fun W σ S Q k => h W σ S _ fun v W1 d e1 f1 ⟨y, hd, p⟩ => by
  subst hd
  obtain ⟨a, dx, u, rfl, h1, h2, h3⟩ := f1.ob_inv
  exact ⟨a, C, dx, _, u, rfl, h1, cl, na, by simp [List.lookup], k u W1 _ e1 h3 p⟩
/-- x.m(..) -/
theorem wpE_meth1 {pre : List PyData → Prop} {post : List PyData → Rs → Prop} {E : XK} {P : PyData → Prop} (nm : (m == f) = false) (h : wpE K W0 te Γ fun d => (∃ y, d = obD C f y) ∧ wpA K W0 t Γ fun ds => pre (d :: ds) ∧ ∀ r, post (d :: ds) r → P r.data) : wpE K W0 (tMeth C m (spF K pre post) [] E te t) Γ P := fun W σ S Q k => h W σ S _ fun v W1 d e1 f1 ⟨⟨y, hd⟩, h2⟩ => by
  subst hd
  obtain ⟨a, dx, u, rfl, g1, g2, g3⟩ := id f1.ob_inv
  refine ⟨a, dx, _, rfl, g1, by simp [List.lookup, nm], h2 W1 σ (S.mono e1) _ fun vs W2 ds e2 f2 ⟨hp, hq⟩ => ?_⟩
  refine ⟨W2, obD C f y :: ds, rfl, e2.ok, by rw [List.append_nil]; exact .cons (Df.mono (e2.lf e1.ok) _ _ f1) f2, hp, fun v W3 r e3 r3 hr => ?_⟩
  cases r with
  | d x => exact k v W3 x ((e1.trans e2).trans e3) r3 (hq _ hr)
  | l xs =>
    obtain ⟨W4, q1, q2, q3⟩ := Nw.freeze e3 r3
    rw [← q1]
    exact k v W4 _ ((e1.trans e2).trans q2) q3 (hq _ hr)
/-- the promise of an __init__ that stores the one attribute -/
def spInit (K : PySem.W.Frag) (C : Addr) (f : Str) (pre : List PyData → Prop) (post : List PyData → PyData → Prop) : Sp := fun vs H Q _ =>
  ∃ (W : Wd) (ds : List PyData) (x dx : Addr) (us : List V), W.H = H ∧ Ok W ∧ vs = .ref x :: us ∧ Dfs K W us ds ∧ pre ds ∧ W.H x = some (.ins C dx []) ∧ ¬ W.Fz x ∧ ¬ W.B x ∧
    ∀ v W' d, Le W W' → Df K W' v d → post ds d → Q .non (upd W'.H x (.ins C dx [(f, v)]))
/-- C(..) -/
theorem wpE_make1 {pre : List PyData → Prop} {post : List PyData → PyData → Prop} {E : XK} {P : PyData → Prop} (h : wpA K W0 t Γ fun ds => pre ds ∧ ∀ d, post ds d → P (obD C f d)) : wpE K W0 (tMake C (spInit K C f pre post) [] E t) Γ P := fun W σ S Q k => h W σ S _ fun vs W1 ds e1 f1 ⟨hp, hq⟩ => by
  intro x dx hx hdx ne
  have eA := e1.ok.new (u := .own x) hdx
  have hx2 : (upd W1.H dx (.own x)) x = none := by rw [upd_ne (Ne.symm ne)]; exact hx
  have eB := eA.ok.new (u := .ins C dx []) hx2
  have e2 := eA.trans eB
  have nF : ¬ W1.Fz x := fun z => e1.ok.fz x z hx
  have nB : ¬ W1.B x := fun z => by
    obtain ⟨_, _, _, q⟩ := e1.ok.bx x z
    rw [hx] at q
    cases q
  refine ⟨⟨W1.Fz, W1.B, upd (upd W1.H dx (.own x)) x (.ins C dx [])⟩, ds, x, dx, vs, rfl, eB.ok, by rw [List.append_nil], Dfs.mono (e2.lf e1.ok) _ _ f1, hp, upd_same, nF, nB, fun v W' d e3 f3 hd => ⟨rfl, ?_⟩⟩
  have hx3 : W'.H x = some (.ins C dx []) := e3.ex x _ upd_same nB
  have nF3 : ¬ W'.Fz x := fun z => by
    have := e3.nf x z nF
    rw [show (Wd.H _ x) = _ from upd_same] at this
    cases this
  have nB3 : ¬ W'.B x := fun z => by
    have := e3.nb x z nB
    rw [show (Wd.H _ x) = _ from upd_same] at this
    cases this
  have okM := e3.ok.mut (o' := .ins C dx [(f, v)]) hx3 nB3
  have lfM := e3.ok.mutLf (o' := .ins C dx [(f, v)]) hx3 trivial nF3 nB3
  have ok4 : Ok ⟨fun b => W'.Fz b ∨ b = x, W'.B, upd W'.H x (.ins C dx [(f, v)])⟩ := ⟨fun b hb => hb.elim (okM.fz b) (fun e => by rw [e]; show upd _ x _ x ≠ none; rw [upd_same]; exact fun z => (nomatch z)), okM.bx, fun b hb => hb.elim (okM.fb b) (fun e => by rw [e]; exact nB3)⟩
  have lf4 : Lf W' ⟨fun b => W'.Fz b ∨ b = x, W'.B, upd W'.H x (.ins C dx [(f, v)])⟩ := ⟨ok4, fun b hb => .inl hb, fun b hb => hb, lfM.ex⟩
  have e13 := e2.trans e3
  have e4 : Le W1 ⟨fun b => W'.Fz b ∨ b = x, W'.B, upd W'.H x (.ins C dx [(f, v)])⟩ := {
    ok := ok4
    fz := fun b hb => .inl (e13.fz b hb)
    b := e13.b
    ex := fun b o q n => by
      show upd W'.H x _ b = some o
      rw [upd_ne (ne_of_none q hx)]
      exact e13.ex b o q n
    nf := fun b hb n => hb.elim (fun hb => e13.nf b hb n) (fun e => by rw [e]; exact hx)
    nb := e13.nb }
  exact k (.ref x) ⟨fun b => W'.Fz b ∨ b = x, W'.B, upd W'.H x (.ins C dx [(f, v)])⟩ _ (e1.trans e4) (.ob upd_same (.inr rfl) (.cons (k := .inr f) (Df.mono lf4 _ _ f3) .nil)) (hq d hd)
end
end G

set_option Elab.async false
set_option linter.all false
set_option autoImplicit false
set_option maxRecDepth 100000
set_option maxHeartbeats 4000000
/-! G19: a dict of the def's own whose keys are tuples (of ints, of texts) and whose values are truths. -/
namespace G
open PySem L2
abbrev Tab := List (List Key × V)
structure Sat3 (K : PySem.W.Frag) (W0 W : Wd) (σ : L2.St) (Γ : Gm) (r : Nat) (a : Addr) (kvs : Tab) : Prop where
  sat : Sat K W0 W σ Γ
  nr : Γ[r]? = some .no
  own : noOwn Γ
  var : σ[r]? = some (some (.ref a))
  a0 : W0.H a = none
  aF : ¬ W.Fz a
  aB : ¬ W.B a
  aH : W.H a = some (.dT kvs)
section
variable {K : PySem.W.Frag} {W0 W W' W1 : Wd} {σ : L2.St} {Γ : Gm} {r : Nat} {a : Addr} {kvs : Tab}
theorem Sat3.mono (S : Sat3 K W0 W σ Γ r a kvs) (e : Le W W') : Sat3 K W0 W' σ Γ r a kvs where
  sat := S.sat.mono e
  nr := S.nr
  own := S.own
  var := S.var
  a0 := S.a0
  aF := fun f => by
    have := e.nf a f S.aF
    rw [S.aH] at this
    cases this
  aB := fun f => by
    have := e.nb a f S.aB
    rw [S.aH] at this
    cases this
  aH := e.ex _ _ S.aH S.aB
theorem Sat3.setD (S : Sat3 K W0 W σ Γ r a kvs) {i : Nat} {v : V} {x : PyData} (ne : i ≠ r) (h : Df K W v x) : Sat3 K W0 W (σ.set i (some v)) (Γ.set i (.d x)) r a kvs :=
  { S with
    sat := S.sat.setD i h
    nr := by rw [List.getElem?_set, if_neg ne]; exact S.nr
    own := S.own.set rfl
    var := by rw [List.getElem?_set, if_neg ne]; exact S.var }
theorem Sat3.put (S : Sat3 K W0 W σ Γ r a kvs) (kvs' : Tab) : Lf W ⟨W.Fz, W.B, upd W.H a (.dT kvs')⟩ ∧ Sat3 K W0 ⟨W.Fz, W.B, upd W.H a (.dT kvs')⟩ σ Γ r a kvs' := by
  have lf := S.sat.ok.mutLf (o' := .dT kvs') S.aH trivial S.aF S.aB
  exact ⟨lf, { S with
    sat := S.sat.mutN S.own lf (S.sat.le.mut S.aH S.aB S.a0)
    aH := upd_same }⟩
structure AE3 where
  nx : Gm → Tab → Prop
  rt : Rs → Prop
structure Cn3 (K : PySem.W.Frag) (W0 W : Wd) (D : Ends) (r : Nat) (A : AE3) : Prop where
  nx : ∀ Γ' W' σ' a kvs, Lf W W' → Sat3 K W0 W' σ' Γ' r a kvs → A.nx Γ' kvs → D.nx σ' W'.H
  rt : ∀ v W' q, Le W0 W' → RsOk K W0 W' v q → A.rt q → D.rt v W'.H
def go3 (K : PySem.W.Frag) (W0 : Wd) (ts : TS) (Γ : Gm) (r : Nat) (kvs : Tab) (A : AE3) : Prop := ∀ W σ D a, Sat3 K W0 W σ Γ r a kvs → Cn3 K W0 W D r A → ts D σ W.H
/-- an expression that may read the dict -/
def wp3E (K : PySem.W.Frag) (W0 : Wd) (te : TE) (Γ : Gm) (r : Nat) (kvs : Tab) (P : PyData → Prop) : Prop := ∀ W σ a, Sat3 K W0 W σ Γ r a kvs → ∀ Q : VK, (∀ v W' d, Le W W' → Df K W' v d → P d → Q v W'.H) → te σ W.H Q
variable {D : Ends} {A : AE3} {ta tb te : TE} {t u : TS} {tt : TT}
theorem Cn3.later (c : Cn3 K W0 W D r A) (e : Lf W W') : Cn3 K W0 W' D r A :=
  ⟨fun Γ' W2 σ' a kvs f => c.nx Γ' W2 σ' a kvs (e.trans f), c.rt⟩
theorem wp3E_of {P : PyData → Prop} (h : wpE K W0 te Γ P) : wp3E K W0 te Γ r kvs P := fun W σ a S Q k => h W σ S.sat Q k
theorem go3_seq (h : go3 K W0 t Γ r kvs { A with nx := fun Γ' k2 => go3 K W0 u Γ' r k2 A }) : go3 K W0 (tSeq t u) Γ r kvs A := fun W σ D a S c =>
  h W σ { D with nx := u D } a S ⟨fun Γ' W' σ' a' k2 f S' g => g W' σ' D a' S' (c.later f), c.rt⟩
theorem go3_next (p : A.nx Γ kvs) : go3 K W0 tNext Γ r kvs A := fun W σ D a S c => c.nx Γ W σ a kvs (.refl S.sat.ok) S p
theorem go3_ret (h : wp3E K W0 te Γ r kvs fun d => A.rt (.d d)) : go3 K W0 (tRet te) Γ r kvs A := fun W σ D a S c =>
  h W σ a S _ fun v W' d e f p => c.rt v W' (.d d) (S.sat.le.trans e) f p
theorem go3_if (h : wpT K W0 tt Γ fun b => (b = true → go3 K W0 t Γ r kvs A) ∧ (b = false → go3 K W0 u Γ r kvs A)) : go3 K W0 (tIfS tt t u) Γ r kvs A := fun W σ D a S c =>
  h W σ S.sat _ fun W' b e p => by
    cases b with
    | true =>
      show t D σ W'.H
      exact p.1 rfl W' σ D a (S.mono e) (c.later (e.lf S.sat.ok))
    | false =>
      show u D σ W'.H
      exact p.2 rfl W' σ D a (S.mono e) (c.later (e.lf S.sat.ok))
/-- d[x, y] = e, x and y ints -/
theorem go3_put {tx ty : TE} (h : wp3E K W0 te Γ r kvs fun d => ∃ b, d = .bool b ∧ wpE K W0 tx Γ fun x => ∃ i, x = .int i ∧ wpE K W0 ty Γ fun y => ∃ j, y = .int j ∧ kvs.length < 10000000 ∧ A.nx Γ (putK kvs [.inl i, .inl j] (.bl b))) :
    go3 K W0 (sDPut (tVar r) (tTup (tCons tx (tCons ty tNil))) te) Γ r kvs A := fun W σ D a S c => h W σ a S _ fun v W1 d e1 f1 ⟨b, hd, h1⟩ => by
  subst hd
  cases f1.bool_inv
  have S1 := S.mono e1
  refine ⟨_, S1.var, h1 W1 σ S1.sat _ fun x W2 dx e2 f2 ⟨i, hx, h2⟩ => ?_⟩
  subst hx
  cases f2.int_inv
  refine h2 W2 σ (S1.sat.mono e2) _ fun y W3 dy e3 f3 ⟨j, hy, hz, p⟩ => ?_
  subst hy
  cases f3.int_inv
  refine ⟨by show 2 ≤ sizeLine; decide, fun q hq => ?_⟩
  have S3 := (S1.mono e2).mono e3
  have e4 := S3.sat.ok.new (u := .tup [.int i, .int j]) hq
  have S4 := S3.mono e4
  obtain ⟨lf, S5⟩ := S4.put (putK kvs [.inl i, .inl j] (.bl b))
  refine ⟨a, _, rfl, DPut.t (k := [.inl i, .inl j]) S4.aH upd_same (by rw [sizeLine_eq]; omega), ?_⟩
  exact c.nx Γ _ σ a _ (((((e1.trans e2).trans e3).trans e4).lf S.sat.ok).trans lf) S5 p
/-- d.get((x, y), False) -/
theorem wp3E_get2 {tx ty : TE} {P : PyData → Prop} (hk : ∀ p ∈ kvs, ∃ b, p.2 = .bl b) (h : wpE K W0 tx Γ fun x => ∃ i, x = .int i ∧ wpE K W0 ty Γ fun y => ∃ j, y = .int j ∧ ∀ b, (valV kvs [.inl i, .inl j]).getD (.bl false) = .bl b → P (.bool b)) :
    wp3E K W0 (tDGet2 (tVar r) (tTup (tCons tx (tCons ty tNil))) (tC (.bl false))) Γ r kvs P := fun W σ a S Q k => by
  refine ⟨_, S.var, a, rfl, .inr ⟨kvs, .inl S.aH⟩, h W σ S.sat _ fun x W1 dx e1 f1 ⟨i, hx, h1⟩ => ?_⟩
  subst hx
  cases f1.int_inv
  refine h1 W1 σ (S.sat.mono e1) _ fun y W2 dy e2 f2 ⟨j, hy, p⟩ => ?_
  subst hy
  cases f2.int_inv
  refine ⟨by show 2 ≤ sizeLine; decide, fun q hq => ?_⟩
  have S2 := (S.mono e1).mono e2
  have e3 := S2.sat.ok.new (u := .tup [.int i, .int j]) hq
  have S3 := S2.mono e3
  refine ⟨_, DGet.t (k := [.inl i, .inl j]) S3.aH upd_same, ?_⟩
  have hv : ∃ b, (valV kvs [.inl i, .inl j]).getD (.bl false) = .bl b := by
    unfold valV
    cases e : kvs.find? fun kv => decide (kv.1 = [.inl i, .inl j]) with
    | none => exact ⟨false, rfl⟩
    | some p =>
      obtain ⟨b, hb⟩ := hk p (List.mem_of_find?_eq_some e)
      exact ⟨b, by show p.2 = _; exact hb⟩
  obtain ⟨b, hb⟩ := hv
  rw [hb]
  exact k _ _ _ ((e1.trans e2).trans e3) (.bl b) (p b hb)
/-- d = {}; .. -/
theorem go_newT {A : AE} (hr : r < Γ.length) (no : noOwn Γ) (h : go3 K W0 t (Γ.set r .no) r [] ⟨fun _ _ => False, A.rt⟩) : go K W0 (tSeq (tAsg tDNewT (gName r)) t) Γ A := fun W σ D S c => by
  intro q hq
  have e := S.ok.new (u := .dT []) hq
  have fr : ¬ W.Fz q ∧ ¬ W.B q := ⟨fun z => S.ok.fz q z hq, fun z => by
    obtain ⟨_, _, _, w⟩ := S.ok.bx q z
    rw [hq] at w
    cases w⟩
  refine h ⟨W.Fz, W.B, upd W.H q (.dT [])⟩ _ D q {
    sat := (S.mono e).set r (show SlOk K W0 _ (some (.ref q)) .no from trivial) (fun z => by cases z)
    nr := by rw [List.getElem?_set, if_pos rfl, if_pos hr]
    own := no.set rfl
    var := by rw [List.getElem?_set, if_pos rfl, if_pos (S.len hr)]
    a0 := S.le.fresh hq
    aF := fr.1
    aB := fr.2
    aH := upd_same } ⟨fun _ _ _ _ _ _ _ z => z.elim, fun v W' x e' r' p => c.rt v W' x e' r' p⟩
theorem wp3E_orV {P : PyData → Prop} (h : wp3E K W0 ta Γ r kvs fun d => ∃ b, d = .bool b ∧ (b = true → P (.bool true)) ∧ (b = false → wp3E K W0 tb Γ r kvs P)) : wp3E K W0 (tOrV ta tb) Γ r kvs P := fun W σ a S Q k => h W σ a S _ fun v W1 d e1 f1 ⟨b, hb, p⟩ => by
  subst hb
  cases f1.bool_inv
  refine ⟨b, rfl, ?_⟩
  cases b with
  | false =>
    show tb σ W1.H Q
    exact p.2 rfl W1 σ a (S.mono e1) Q fun v W2 c e2 f2 q => k v W2 c (e1.trans e2) f2 q
  | true => exact k _ W1 _ e1 (.bl true) (p.1 rfl)
theorem wipe_at : ∀ {vs : List Nat} {σ : L2.St} {r : Nat}, r ∉ vs → (wipe σ vs)[r]? = σ[r]?
  | [], _, _, _ => rfl
  | w :: ws, σ, r, h => by
    show ((wipe σ ws).set w none)[r]? = _
    rw [List.getElem?_set, if_neg (fun z => h (by rw [← z]; exact List.mem_cons_self)), wipe_at (fun z => h (List.mem_cons_of_mem _ z))]
/-- a for over data that does not change; its target's slots are plain -/
theorem go3_for {wi : TI} {g : TG} (vs : List Nat) (hrv : r ∉ vs)
    (h : wpI K W0 wi Γ fun ds => ∃ Iv : Nat → Gm → Tab → Prop, Iv 0 Γ kvs ∧ (∀ (i : Nat) (d : PyData) (Γ' : Gm) (k2 : Tab), ds[i]? = some d → Iv i Γ' k2 → wpG K W0 vs g d Γ' fun Γ2 => noOwn Γ2 ∧ Γ2[r]? = some .no ∧ go3 K W0 t Γ2 r k2 ⟨Iv (i + 1), A.rt⟩) ∧ ∀ Γ' k2, Iv ds.length Γ' k2 → A.nx Γ' k2) : go3 K W0 (tFor wi g t) Γ r kvs A := fun W σ D a S c =>
  h W σ S.sat _ fun W1 J ds e1 it ⟨Iv, i0, hs, hd⟩ => by
    refine ⟨fun i m σ' H => m = ds.length - i ∧ i ≤ ds.length ∧ ∃ W2 Γ' a2 k2, W2.H = H ∧ Lf W1 W2 ∧ Sat3 K W0 W2 σ' Γ' r a2 k2 ∧ Iv i Γ' k2, ⟨ds.length, by simp, Nat.zero_le _, W1, Γ, a, kvs, rfl, .refl e1.ok, S.mono e1, i0⟩, ?_⟩
    rintro i m σ' H ⟨rfl, hi, W2, Γ', a2, k2, rfl, f2, S2, hI⟩
    have c2 := c.later ((e1.lf S.sat.ok).trans f2)
    by_cases hlt : i < ds.length
    · refine .inr ⟨it.go W2 i f2 hlt, fun σ' H' => ∃ W3 Γ3 a3 k3, W3.H = H' ∧ Lf W1 W3 ∧ Sat3 K W0 W3 σ' Γ3 r a3 k3 ∧ Iv (i + 1) Γ3 k3, fun σ' H' q => ⟨ds.length - (i + 1), by omega, rfl, hlt, q⟩, fun x H' hy => ?_⟩
      obtain ⟨W3, rfl, e3, f3⟩ := it.yld W2 i x H' ds[i] f2 S2.sat.ok (List.getElem?_eq_getElem hlt) hy
      have S3 := S2.mono e3
      refine hs i ds[i] Γ' k2 (List.getElem?_eq_getElem hlt) hI W3 σ' S3.sat x f3 _ fun σ4 Γ4 W4 e4 S4 keep ⟨no4, nr4, hgo⟩ => ?_
      have f4 : Lf W1 W4 := f2.trans ((e3.trans e4).lf S2.sat.ok)
      have S5 : Sat3 K W0 W4 σ4 Γ4 r a2 k2 := { S3.mono e4 with
        sat := S4
        nr := nr4
        own := no4
        var := by rw [← wipe_at hrv, keep, wipe_at hrv]; exact S3.var }
      exact hgo W4 σ4 _ a2 S5 ⟨fun Γ5 W5 σ5 a5 k5 f5 T5 q => ⟨W5, Γ5, a5, k5, rfl, f4.trans f5, T5, q⟩, fun v W5 q e5 r5 p => c2.rt v W5 q e5 r5 p⟩
    · have e : i = ds.length := by omega
      subst e
      exact .inl ⟨it.stop W2 _ f2 (Nat.le_refl _), c2.nx Γ' W2 σ' a2 k2 (.refl S2.sat.ok) S2 (hd Γ' k2 hI)⟩
/-- such a dict as data -/
def rowT (p : (Int × Int) × Bool) : PyData × PyData := (.tuple [.int p.1.1, .int p.1.2], .bool p.2)
def entT2 (p : (Int × Int) × Bool) : List Key × V := ([.inl p.1.1, .inl p.1.2], .bl p.2)
def tabD (es : List ((Int × Int) × Bool)) : PyData := .dict ((.none, .str (Str.ofString "")) :: es.map rowT)
theorem rowT_inj : ∀ {es fs : List ((Int × Int) × Bool)}, es.map rowT = fs.map rowT → es = fs
  | [], [], _ => rfl
  | [], _ :: _, e => nomatch e
  | _ :: _, [], e => nomatch e
  | ((i, j), b) :: es, ((i2, j2), b2) :: fs, e => by
    have h1 := (List.cons.inj e).1
    have h2 := rowT_inj (List.cons.inj e).2
    have h3 := (Prod.mk.inj h1).1
    have h4 : b = b2 := PyData.bool.inj (Prod.mk.inj h1).2
    have h5 := PyData.tuple.inj h3
    have h6 : i = i2 := PyData.int.inj (List.cons.inj h5).1
    have h7 : j = j2 := PyData.int.inj (List.cons.inj (List.cons.inj h5).2).1
    rw [h2, h4, h6, h7]
theorem Df.dt_inv {v : V} {es : List ((Int × Int) × Bool)} (h : Df K W v (tabD es)) : ∃ a, v = .ref a ∧ Rd W.H a (.dT (es.map entT2)) ∧ W.Fz a := by
  unfold tabD at h
  generalize ed : PyData.dict ((.none, .str (Str.ofString "")) :: es.map rowT) = dd at h
  cases h with
  | non => cases ed
  | bl _ => cases ed
  | int _ => cases ed
  | str _ => cases ed
  | bx _ => cases ed
  | lst _ _ => cases ed
  | tup _ _ => cases ed
  | pt _ _ _ => cases ed
  | ob _ _ _ => cases ed
  | rf => cases ed
  | dct _ _ t =>
    cases ed
    obtain ⟨k, e⟩ := t.key
    cases k <;> cases e
  | @dt a kvs es' h1 h2 h3 =>
    have e := (List.cons.inj (PyData.dict.inj ed)).2
    have e2 : es = es' := rowT_inj e
    subst e2
    subst h3
    exact ⟨a, rfl, h1, h2⟩
theorem Sat3.freeze {es : List ((Int × Int) × Bool)} (S : Sat3 K W0 W σ Γ r a (es.map entT2)) : ∃ V1 : Wd, V1.H = W.H ∧ Lf W V1 ∧ Sat K W0 V1 σ (Γ.set r (.d (tabD es))) := by
  have ok' : Ok ⟨fun b => W.Fz b ∨ b = a, W.B, W.H⟩ := ⟨fun b hb => hb.elim (S.sat.ok.fz b) (fun e => by rw [e, S.aH]; exact fun z => (nomatch z)), S.sat.ok.bx, fun b hb => hb.elim (S.sat.ok.fb b) (fun e => by rw [e]; exact S.aB)⟩
  have lf : Lf W ⟨fun b => W.Fz b ∨ b = a, W.B, W.H⟩ := ⟨ok', fun b hb => .inl hb, fun b hb => hb, fun b o q _ => q⟩
  have le : Le W0 ⟨fun b => W.Fz b ∨ b = a, W.B, W.H⟩ := ⟨ok', fun b hb => .inl (S.sat.le.fz b hb), S.sat.le.b, S.sat.le.ex, fun b hb n => hb.elim (fun hb => S.sat.le.nf b hb n) (fun e => by rw [e]; exact S.a0), S.sat.le.nb⟩
  refine ⟨⟨fun b => W.Fz b ∨ b = a, W.B, W.H⟩, rfl, lf, ⟨le, fun i s h => ?_, fun i j s t b _ h1 o1 _ _ _ _ => ?_⟩⟩
  · rcases get_set h with ⟨e, g, rfl⟩ | ⟨e, g⟩
    · subst e
      exact ⟨_, S.var, Df.dt (.inl S.aH) (.inr rfl) rfl⟩
    · have no := S.own i s g
      obtain ⟨o, q1, q2⟩ := S.sat.sl i s g
      refine ⟨o, q1, ?_⟩
      cases s with
      | no => cases o <;> trivial
      | d x =>
        cases o with
        | none => exact q2
        | some v => exact Df.mono lf _ _ q2
      | l _ => cases no
      | k _ => cases no
  · have no : noOwn (Γ.set r (.d (tabD es))) := S.own.set rfl
    rw [no i s h1] at o1
    cases o1
/-- from here on the dict is data -/
theorem go3_data {es : List ((Int × Int) × Bool)} (hk : kvs = es.map entT2) (h : go K W0 t (Γ.set r (.d (tabD es))) ⟨fun _ => False, A.rt, fun _ => False, fun _ => False⟩) : go3 K W0 t Γ r kvs A := fun W σ D a S c => by
  subst hk
  obtain ⟨V1, hV, lf, S1⟩ := S.freeze
  rw [← hV]
  exact h V1 σ D S1 ⟨fun _ _ _ _ _ z => z.elim, fun v W' q e r p => c.rt v W' q e r p, fun _ _ _ _ _ z => z.elim, fun _ _ _ _ _ z => z.elim⟩
/-- d[x, y], d data -/
theorem wpE_dgetT {tx ty : TE} {P : PyData → Prop} (h : wpE K W0 ta Γ fun d => ∃ es, d = tabD es ∧ wpE K W0 tx Γ fun x => ∃ i, x = .int i ∧ wpE K W0 ty Γ fun y => ∃ j b, y = .int j ∧ valV (es.map entT2) [.inl i, .inl j] = some (.bl b) ∧ P (.bool b)) :
    wpE K W0 (tDGet ta (tTup (tCons tx (tCons ty tNil)))) Γ P := fun W σ S Q k => h W σ S _ fun v W1 d e1 f1 ⟨es, hd, h1⟩ => by
  subst hd
  obtain ⟨a, rfl, q, fz⟩ := f1.dt_inv
  refine h1 W1 σ (S.mono e1) _ fun x W2 dx e2 f2 ⟨i, hx, h2⟩ => ?_
  subst hx
  cases f2.int_inv
  refine h2 W2 σ ((S.mono e1).mono e2) _ fun y W3 dy e3 f3 ⟨j, b, hy, hv, p⟩ => ?_
  subst hy
  cases f3.int_inv
  refine ⟨by show 2 ≤ sizeLine; decide, fun z hz => ?_⟩
  have e4 := e3.ok.new (u := .tup [.int i, .int j]) hz
  have lf : Lf W1 _ := (((e2.trans e3).trans e4).lf e1.ok)
  have q4 := lf.rdL q fz
  refine ⟨a, .bl b, rfl, ?_, k _ _ _ (((e1.trans e2).trans e3).trans e4) (.bl b) p⟩
  rw [← hv]
  exact .inr ⟨_, _, _, q4, rfl, upd_same, rfl⟩
/-! sorted(list(d)) -/
def rListT : List V → Hp → VK → Prop := fun vs h Z => ∃ (b : Addr) (ps : Tab), vs = [V.ref b] ∧ Rd h b (.dT ps) ∧ ∀ (q : Addr) (cs : List Addr), h q = none → IsKeys h ps cs → Z (.ref q) (upd h q (.lst (cs.map V.ref)))
def kfH (H : Hp) : V → Int × Int
  | .ref t => match H t with
    | some (.tup [.int i, .int j]) => (i, j)
    | _ => (0, 0)
  | _ => (0, 0)
def keyT (k : Int × Int) : PyData := .tuple [.int k.1, .int k.2]
theorem isKeys_at {H : Hp} : ∀ {es : List ((Int × Int) × Bool)} {bs : List Addr}, IsKeys H (es.map entT2) bs → (∀ x ∈ bs.map V.ref, ∃ t, x = V.ref t ∧ H t = some (.tup [.int (kfH H x).1, .int (kfH H x).2])) ∧ (bs.map V.ref).map (kfH H) = es.map (·.1)
  | [], [], _ => ⟨fun x hx => (nomatch hx), rfl⟩
  | ((i, j), b) :: es, c :: bs, h => by
    cases h with
    | cons h1 h2 =>
      obtain ⟨q1, q2⟩ := isKeys_at h2
      have h3 : H c = some (.tup [.int i, .int j]) := h1
      have h4 : kfH H (.ref c) = (i, j) := by
        simp only [kfH, h3]
      refine ⟨fun x hx => ?_, ?_⟩
      · rcases List.mem_cons.mp hx with rfl | hx
        · exact ⟨c, rfl, by rw [h4]; exact h3⟩
        · exact q1 x hx
      · show kfH H (.ref c) :: _ = (i, j) :: _
        rw [h4, q2]
theorem keys_dfs {ys : List V} (h : ∀ x ∈ ys, ∃ t, x = V.ref t ∧ W.H t = some (.tup [.int (kfH W.H x).1, .int (kfH W.H x).2])) : Dfs K W ys ((ys.map (kfH W.H)).map keyT) := by
  induction ys with
  | nil => exact .nil
  | cons y ys ih =>
    obtain ⟨t, rfl, q⟩ := h y List.mem_cons_self
    exact .cons (.tup (.inl (.inl q)) (.cons (.int _) (.cons (.int _) .nil))) (ih fun x hx => h x (List.mem_cons_of_mem _ hx))
/-- sorted(list(d)), d data: a new list of the keys -/
theorem wpN_sortT {P : List PyData → Prop} (h : wpE K W0 ta Γ fun d => ∃ es, d = tabD es ∧ ∀ (ys : List V) (k : V → Int × Int), (ys.map k).Perm (es.map (·.1)) → SrtO.Srtd (ltP k) ys → P ((ys.map k).map keyT)) : wpN K W0 (tCB (rSortedPO K) (tCons (tCB rListT (tCons ta tNil)) tNil)) Γ P := fun W σ S Q k => h W σ S _ fun v W1 d e1 f1 ⟨es, hd, p⟩ => by
  subst hd
  obtain ⟨a, rfl, q, fz⟩ := f1.dt_inv
  refine ⟨a, _, rfl, q, fun l bs hl hb => ?_⟩
  obtain ⟨k1, k2⟩ := isKeys_at hb
  have e2 := e1.ok.new (u := .lst (bs.map V.ref)) hl
  have up : ∀ x ∈ bs.map V.ref, ∃ t, x = V.ref t ∧ (upd W1.H l (.lst (bs.map V.ref))) t = some (.tup [.int (kfH W1.H x).1, .int (kfH W1.H x).2]) := fun x hx => by
    obtain ⟨t, rfl, h1⟩ := k1 x hx
    exact ⟨t, rfl, by rw [upd_ne (ne_of_none h1 hl)]; exact h1⟩
  refine ⟨l, bs.map V.ref, kfH W1.H, rfl, .inl (.inl upd_same), up, fun ys z srt stb hz => ?_⟩
  have hp : ys.Perm (bs.map V.ref) := stb.perm
  have e3 := e2.ok.new (u := .lst ys) hz
  have fin : Dfs K W1 ys ((ys.map (kfH W1.H)).map keyT) := keys_dfs fun x hx => k1 x (hp.mem_iff.mp hx)
  obtain ⟨e4, n4⟩ := e2.ok.newL (K := K) hz (Dfs.mono (e2.lf e1.ok) _ _ fin)
  refine k _ _ _ ((e1.trans e2).trans e4) (n4.up S.ok (e1.trans e2)) (p ys (kfH W1.H) ?_ srt)
  rw [← k2]
  exact hp.map _
end
section
variable {X : Cx} {K : PySem.W.Frag}
theorem listT_K (hc : X.calm = true) : CallR X (.type "list") rListT := call_list_dT hc
theorem sPO_K (h : X.K = K) : CallR X (.builtin "sorted") (rSortedPO K) := by
  subst h
  exact cr_sortedPO
end
end G

set_option Elab.async false
set_option linter.all false
set_option autoImplicit false
set_option maxRecDepth 100000
set_option maxHeartbeats 4000000
/-! G20: instances: == and len by own methods, isinstance, a method called by keyword, an __init__; two fors with targets of several names and a test. -/
namespace G
open PySem L2
section
variable {X : Cx} {CX : CXT} {k : Nat} {C f : Addr} {fd : FuncData} {ps : List Str} {sp : Sp} {E : XK}
/-- x == y by an own __eq__ -/
def rEqO (C : Addr) (sp : Sp) (E : XK) : R2 := fun x y H Q => ∃ a b dx dy fs gs, x = .ref a ∧ y = .ref b ∧ H a = some (.ins C dx fs) ∧ H b = some (.ins C dy gs) ∧ sp [x, y] H (fun v H' => (∃ r, v = .bl r) ∧ Q v H') E
theorem eqO_K (hm : Meth X.K C "__eq__" f) (F : FnOk X.prog X.w X.K X.mg X.base CX k f fd ps sp) (hr : Room k X.A) (hb : Binds X.K fd ps []) (hx : Passes CX X E) : OpR X (compareOp .Eq) (rEqO C sp E) := by
  intro pins s σ H x y v u Q I rx ry hq
  obtain ⟨a, b, dx, dy, fs, gs, rfl, rfl, ha, hb', hsp⟩ := hq
  cases rx
  cases ry
  show wpAny (model X.prog X.w) X.A (richCompare .Eq (.ref a) (.ref b)) (EP X pins σ Q) X.xe s
  obtain ⟨mA, J, _⟩ := ins_get I.hok ha
  obtain ⟨mB, J', _⟩ := ins_get I.hok hb'
  obtain ⟨od, J, _⟩ := J.look
  obtain ⟨od', J', _⟩ := J'.look
  obtain ⟨m, hF⟩ := I.fr
  refine PySem.W.cmp_K (op := .Eq) (tb := .ref C) hr.units0 hF I.ok.mod.kin J J'.type (by simp [PySem.W.notFirst]) hm.at_ hm.fn ?_
  have hl := F.len _ _ _ _ hsp
  have r2 : Vals [V.ref a, V.ref b] [Value.ref a, Value.ref b] := .cons rfl (.cons rfl .nil)
  refine wpAny_call (codeAny_mono (F.run X.A X.stack s H ⟨[.ref a, .ref b], []⟩ [.ref a, .ref b] [.ref a, .ref b] _ E hr I.env0 (by
    have := hb s [.ref a, .ref b] I.kIn (by simpa using hl)
    simpa using this) r2 hsp) fun r s' hq => ?_)
  cases r with
  | error e => exact hx pins σ H s e s' I hq
  | ok fl =>
    cases fl with
    | ret w =>
      obtain ⟨z, H', I', rz, ⟨r, ez⟩, q⟩ := I.after hq
      subst ez
      cases rz
      exact ⟨.bl r, H', I', rfl, q⟩
    | next => exact False.elim hq
    | brk => exact False.elim hq
    | cont => exact False.elim hq
/-- len(x) by an own __len__ -/
def rLenO (C : Addr) (sp : Sp) (E : XK) : List V → Hp → VK → Prop := fun xs H Q => ∃ a dx fs, xs = [.ref a] ∧ H a = some (.ins C dx fs) ∧ sp [.ref a] H (fun v H' => (∃ n : Nat, v = .int n ∧ n ≤ 10000000) ∧ Q v H') E
theorem lenO_K (hm : Meth X.K C "__len__" f) (F : FnOk X.prog X.w X.K X.mg X.base CX k f fd ps sp) (hr : Room (k + 1) X.A) (hb : Binds X.K fd ps []) (hx : Passes CX X E) : CallR X (.builtin "len") (rLenO C sp E) := by
  intro pins s σ H xs us Q I r hq
  obtain ⟨a, dx, fs, rfl, ha, hsp⟩ := hq
  obtain ⟨u, rfl, ru⟩ := vals1 r
  obtain rfl : u = Value.ref a := ru
  obtain ⟨mA, J, _⟩ := ins_get I.hok ha
  obtain ⟨od, J, _⟩ := J.look
  obtain ⟨m, hF⟩ := I.fr
  refine PySem.W.len_K hF I.ok.mod.kin J hm.at_ hm.fn ?_
  have hl := F.len _ _ _ _ hsp
  have r2 : Vals [V.ref a] [Value.ref a] := .cons rfl .nil
  refine wpAny_call (codeAny_mono (F.run X.A.in1 X.stack s H ⟨[.ref a], []⟩ [.ref a] [.ref a] _ E hr.in1 I.env0.in1 (by
    have := hb s [.ref a] I.kIn (by simpa using hl)
    simpa using this) r2 hsp) fun r s' hq => ?_)
  cases r with
  | error e => exact hx pins σ H s e s' I hq
  | ok fl =>
    cases fl with
    | ret w =>
      obtain ⟨z, H', I', rz, ⟨n, ez, hn⟩, q⟩ := I.after hq
      subst ez
      obtain ⟨t, rfl⟩ := (show ∃ t, w = Value.int n t from rz)
      refine ⟨⟨by omega, by omega⟩, .int n, H', ?_, ⟨_, rfl⟩, q⟩
      exact I'.tok _
    | next => exact False.elim hq
    | brk => exact False.elim hq
    | cont => exact False.elim hq
/-- o.m(nm = e) -/
def tMethK (C : Addr) (m : Str) (sp : Sp) (E : XK) (ta : TE) (tk : TA) : TE := fun σ H Q => ta σ H fun x H1 => ∃ a dx fs, x = .ref a ∧ H1 a = some (.ins C dx fs) ∧ fs.lookup m = none ∧ tk σ H1 fun zs H2 => ∃ z, zs = [z] ∧ sp [x, z] H2 Q E
theorem pe_methK {m nm p0 p1 : Str} {o e : Expr} {ta : TE} {tk : TA} {apos pos kpos : Pos} {pl : Sem Bool} (he : PE X o ta) (c : Cls X.K C) (hm : Meth X.K C m f) (F : FnOk X.prog X.w X.K X.mg X.base CX k f fd [p0, p1] sp) (hr : Room k X.A)
    (hb : ∀ (s : Shared) (a z : Value), BindsTo s fd ⟨[a], [(nm, z)]⟩ [(p0, a), (p1, z)]) (hx : Passes CX X E) (hkw : PK X [⟨some nm, e, kpos⟩] tk)
    (hall : (backToKw pos (keywordEach [⟨some nm, e, kpos⟩] X.env)).all (·.1.isSome) = true := by rfl) (hks : (backToKw pos (keywordEach [⟨some nm, e, kpos⟩] X.env)).filterMap (·.1) = [nm] := by rfl)
    (hpl : ((backTo pos (starEach [] X.env)).any (·.1) || (backToKw pos (keywordEach [⟨some nm, e, kpos⟩] X.env)).any (·.1.isNone)) = false := by rfl)
    (ht : eval (.Call (.Attribute o m apos) [] [⟨some nm, e, kpos⟩] pos) X.env = (do
      let ov ← eval o X.env
      standAt apos.atName
      let (f, first) ← holding [ov] (getMethod ov m pl)
      callWith pos f first (backTo pos (starEach [] X.env)) (backToKw pos (keywordEach [⟨some nm, e, kpos⟩] X.env))) := by rfl) :
    PE X (.Call (.Attribute o m apos) [] [⟨some nm, e, kpos⟩] pos) (tMethK C m sp E ta tk) := by
  refine ⟨fun pins s σ H Q I h => ?_⟩
  refine PySem.W.methodCall_KW (pl := pl) (thn (he.run pins s σ H _ I h) fun u s1 ⟨x, H1, I1, rx, a, dx, fs, ex, ea, l, q⟩ => ?_) ht
  subst ex
  obtain rfl : u = Value.ref a := rx
  refine getmeth_ok I1 ea c hm l ?_
  refine PySem.W.callWith_KW0 (first := [.ref a]) (h₀ := X.base) I.ok.mod.kin hm.kp hall ?_ hpl
  refine thn (hkw.run pos pins s1 σ H1 _ I1 q) fun ws s2 ⟨zs, H2, I2, rz, z, ez, q2⟩ => ⟨I2.kIn, ?_⟩
  subst ez
  rw [hks]
  obtain ⟨w, rfl, rw'⟩ := vals1 rz
  have r2 : Vals [V.ref a, z] [Value.ref a, w] := .cons rfl rz
  refine wpAny_call (codeAny_mono (F.run X.A X.stack s2 H2 ⟨[.ref a], [(nm, w)]⟩ [.ref a, w] [.ref a, z] Q E hr I2.env0 (hb s2 (.ref a) w) r2 q2) fun r s' hq => ?_)
  cases r with
  | error e => exact hx pins σ H2 s2 e s' I2 hq
  | ok fl =>
    cases fl with
    | ret u => exact I2.after hq
    | next => exact False.elim hq
    | brk => exact False.elim hq
    | cont => exact False.elim hq
theorem isO_K (c : C8.InsC X.K C) : CallR X (.builtin "isinstance") (fun xs H Q => ∃ a dx fs, xs = [.ref a, .ref C] ∧ H a = some (.ins C dx fs) ∧ Q (.bl true) H) := C8.call_isC c
end
/-! the layer's side -/
section
variable {K : PySem.W.Frag} {W0 W W' W1 : Wd} {σ : L2.St} {Γ : Gm} {A : AE} {ta tb te : TE} {t tk : TA} {C : Addr} {f m : Str}
theorem Rs.take {v : V} {r : Rs} {b : PyData} (e : r = .d b) (h : RsOk K W W' v r) : Df K W' v b := by
  subst e
  exact h
theorem wpE_opO {pre : List PyData → Prop} {post : List PyData → Rs → Prop} {E : XK} {P : PyData → Prop} (h : wpE K W0 ta Γ fun x => (∃ y, x = obD C f y) ∧ wpE K W0 tb Γ fun z => (∃ y, z = obD C f y) ∧ pre [x, z] ∧ ∀ r, post [x, z] r → ∃ b, r = .d (.bool b) ∧ P (.bool b)) :
    wpE K W0 (tOp (rEqO C (spF K pre post) E) ta tb) Γ P := fun W σ S Q k => h W σ S _ fun v W1 d e1 f1 ⟨⟨y, hd⟩, h1⟩ => h1 W1 σ (S.mono e1) _ fun u W2 d' e2 f2 ⟨⟨y', hd'⟩, hp, hq⟩ => by
  subst hd hd'
  have f1' := Df.mono (e2.lf e1.ok) _ _ f1
  obtain ⟨a, dx, u1, rfl, g1, _, _⟩ := id f1'.ob_inv
  obtain ⟨b, dy, u2, rfl, g2, _, _⟩ := id f2.ob_inv
  refine ⟨a, b, dx, dy, _, _, rfl, rfl, g1, g2, W2, _, rfl, e2.ok, .cons f1' (.cons f2 .nil), hp, fun v W3 r e3 r3 hr => ?_⟩
  obtain ⟨c, hc, p⟩ := hq r hr
  have f3 := Rs.take hc r3
  cases f3.bool_inv
  exact ⟨⟨c, rfl⟩, k _ W3 _ ((e1.trans e2).trans e3) (.bl c) p⟩
theorem wpE_lenO {pre : List PyData → Prop} {post : List PyData → Rs → Prop} {E : XK} {P : PyData → Prop} (h : wpE K W0 te Γ fun x => (∃ y, x = obD C f y) ∧ pre [x] ∧ ∀ r, post [x] r → ∃ n : Nat, r = .d (.int n) ∧ n ≤ 10000000 ∧ P (.int n)) :
    wpE K W0 (tCB (rLenO C (spF K pre post) E) (tCons te tNil)) Γ P := fun W σ S Q k => h W σ S _ fun v W1 d e1 f1 ⟨⟨y, hd⟩, hp, hq⟩ => by
  subst hd
  obtain ⟨a, dx, u1, rfl, g1, _, _⟩ := id f1.ob_inv
  refine ⟨a, dx, _, rfl, g1, W1, _, rfl, e1.ok, .cons f1 .nil, hp, fun v W3 r e3 r3 hr => ?_⟩
  obtain ⟨n, hc, hn, p⟩ := hq r hr
  have f3 := Rs.take hc r3
  cases f3.int_inv
  exact ⟨⟨n, rfl, hn⟩, k _ W3 _ (e1.trans e3) (.int n) p⟩
theorem wpE_isC {P : PyData → Prop} (h : wpE K W0 te Γ fun x => (∃ y, x = obD C f y) ∧ P (.bool true)) :
    wpE K W0 (tCB (fun xs H Q => ∃ a dx fs, xs = [.ref a, .ref C] ∧ H a = some (.ins C dx fs) ∧ Q (.bl true) H) (tCons te (tCons (tC (.ref C)) tNil))) Γ P := fun W σ S Q k => h W σ S _ fun v W1 d e1 f1 ⟨⟨y, hd⟩, p⟩ => by
  subst hd
  obtain ⟨a, dx, u1, rfl, g1, _, _⟩ := id f1.ob_inv
  exact ⟨a, dx, _, rfl, g1, k _ W1 _ e1 (.bl true) p⟩
theorem wpE_methK {pre : List PyData → Prop} {post : List PyData → Rs → Prop} {E : XK} {P : PyData → Prop} (nm : (m == f) = false) (h : wpE K W0 te Γ fun d => (∃ y, d = obD C f y) ∧ wpE K W0 ta Γ fun z => pre [d, z] ∧ ∀ r, post [d, z] r → P r.data) :
    wpE K W0 (tMethK C m (spF K pre post) E te (tCons ta tNil)) Γ P := fun W σ S Q k => h W σ S _ fun v W1 d e1 f1 ⟨⟨y, hd⟩, h2⟩ => by
  subst hd
  obtain ⟨a, dx, u, rfl, g1, g2, g3⟩ := id f1.ob_inv
  refine ⟨a, dx, _, rfl, g1, by simp [List.lookup, nm], h2 W1 σ (S.mono e1) _ fun z W2 dz e2 f2 ⟨hp, hq⟩ => ?_⟩
  refine ⟨z, rfl, W2, [obD C f y, dz], rfl, e2.ok, .cons (Df.mono (e2.lf e1.ok) _ _ f1) (.cons f2 .nil), hp, fun v W3 r e3 r3 hr => ?_⟩
  cases r with
  | d x => exact k v W3 x ((e1.trans e2).trans e3) r3 (hq _ hr)
  | l xs =>
    obtain ⟨W4, q1, q2, q3⟩ := Nw.freeze e3 r3
    rw [← q1]
    exact k v W4 _ ((e1.trans e2).trans q2) q3 (hq _ hr)
/-- x.m() -/
theorem wpE_meth0 {pre : List PyData → Prop} {post : List PyData → Rs → Prop} {E : XK} {P : PyData → Prop} (nm : (m == f) = false) (h : wpE K W0 te Γ fun d => (∃ y, d = obD C f y) ∧ pre [d] ∧ ∀ r, post [d] r → P r.data) : wpE K W0 (tMeth C m (spF K pre post) [] E te tNil) Γ P :=
  wpE_meth1 nm (h.imp fun _ ⟨h1, h2⟩ => ⟨h1, wpA_nil h2⟩)
/-- d = {}; then a statement at whose end the dict is data -/
theorem go_newT2 {t : TS} {r : Nat} (hr : r < Γ.length) (no : noOwn Γ) (h : go3 K W0 t (Γ.set r .no) r [] ⟨fun Γ' kvs => ∃ es, kvs = es.map entT2 ∧ A.nx (Γ'.set r (.d (tabD es))), A.rt⟩) : go K W0 (tSeq (tAsg tDNewT (gName r)) t) Γ A := fun W σ D S c => by
  intro q hq
  have e := S.ok.new (u := .dT []) hq
  have fr : ¬ W.Fz q ∧ ¬ W.B q := ⟨fun z => S.ok.fz q z hq, fun z => by
    obtain ⟨_, _, _, w⟩ := S.ok.bx q z
    rw [hq] at w
    cases w⟩
  refine h ⟨W.Fz, W.B, upd W.H q (.dT [])⟩ _ D q {
    sat := (S.mono e).set r (show SlOk K W0 _ (some (.ref q)) .no from trivial) (fun z => by cases z)
    nr := by rw [List.getElem?_set, if_pos rfl, if_pos hr]
    own := no.set rfl
    var := by rw [List.getElem?_set, if_pos rfl, if_pos (S.len hr)]
    a0 := S.le.fresh hq
    aF := fr.1
    aB := fr.2
    aH := upd_same } ⟨fun Γ' W' σ' a kvs lf S' ⟨es, hk, p⟩ => ?_, fun v W' x e' r' p => c.rt v W' x e' r' p⟩
  subst hk
  obtain ⟨V1, hV, lf1, S1⟩ := S'.freeze
  rw [← hV]
  exact c.nx _ V1 σ' (((e.lf S.ok).trans lf).trans lf1) S1 p
/-- an address of which nothing is said -/
def rfD (a : Addr) : PyData := .dict [(.none, .bool true), (.none, .int (a : Nat))]
theorem Df.rf_inv {v : V} {a : Addr} (h : Df K W v (rfD a)) : v = .ref a := by
  unfold rfD at h
  generalize ed : PyData.dict [(.none, .bool true), (.none, .int (a : Nat))] = dd at h
  cases h with
  | non => cases ed
  | bl _ => cases ed
  | int _ => cases ed
  | str _ => cases ed
  | bx _ => cases ed
  | lst _ _ => cases ed
  | tup _ _ => cases ed
  | pt _ _ _ => cases ed
  | dt _ _ _ => cases ed
  | ob _ _ _ => cases ed
  | dct _ _ t =>
    cases ed
    obtain ⟨k, e⟩ := t.key
    cases k <;> cases e
  | @rf b =>
    have e := (List.cons.inj (List.cons.inj (PyData.dict.inj ed)).2).1
    have e2 : a = b := Int.ofNat.inj (PyData.int.inj (Prod.mk.inj e).2)
    rw [e2]
/-- an __init__ whose last row stores the one attribute -/
theorem fn_okI {P : Program} {w : World} {mg : Str → Option Value} {base : Heap} {x qual : Str} {st : Stmt} {g : Addr} {fd : FuncData} {N ps : List Str} {k : Nat} {pre : List PyData → Prop} {post : List PyData → PyData → Prop}
    (F : Fun K x qual st g fd) (S : FnScope N ps (defScope st)) (cl : Cls K C) (na : NoAttr K C f) (len : ∀ ds, pre ds → ds.length + 1 = ps.length)
    (h : ∀ (cdv : Value) (A : Around) (outer : List PySem.Env) (s : Shared) (H : Hp) (E : XK), Room k (A.deeper (PyProof.Rows.envOfC qual (defScope st) s.heap.objs.size g cdv)) →
      ∃ a b te, PSs (cxOf CX0 P w K mg base N qual (defScope st) g cdv A outer s H E).nox (defBody st) (tSeq a (tSeq b (sFld K (tVar 0) te f))) ∧
        ∀ W0 ds x, pre ds → go K W0 (tSeq a b) (startG N (rfD x :: ds)) ⟨fun Γ' => Γ'[0]? = some (.d (rfD x)) ∧ wpE K W0 te Γ' (post ds), fun _ => False, fun _ => False, fun _ => False⟩) :
    FnOk P w K mg base CX0 (k + 1) g fd ps (spInit K C f pre post) := by
  refine F.ok S (fun vs H Q E hs => ?_) (fun cdv A outer s H vs Q E hr hs => ?_)
  · obtain ⟨W, ds, x, dx, us, _, _, rfl, fs, hp, _⟩ := hs
    rw [List.length_cons, fs.length, len ds hp]
  · obtain ⟨a, b, te, h1, h2⟩ := h cdv A outer s H E hr
    refine ⟨_, h1, ?_⟩
    obtain ⟨W, ds, x, dx, us, rfl, ok, rfl, fs, hp, hx, nF, nB, hq⟩ := hs
    have st0 : Sat K W W (L2.start N (.ref x :: us)) (startG N (rfD x :: ds)) := sat_start ok (.cons .rf fs)
    refine h2 W ds x hp W _ { nx := fun σ' H' => sFld K (tVar 0) te f { nx := fun _ H' => Q .non H', rt := Q } σ' H', rt := Q } st0 ⟨fun Γ' W' σ' lf S' ⟨g0, q⟩ => ?_, fun _ _ _ _ _ z => z.elim, fun _ _ _ _ _ z => z.elim, fun _ _ _ _ _ z => z.elim⟩
    refine q W' σ' S' _ fun v W2 d e2 f2 hd => ?_
    obtain ⟨v0, hv0, df⟩ := S'.var g0
    have := df.rf_inv
    subst this
    exact ⟨_, hv0, x, C, dx, [], rfl, (S'.le.trans e2).ex x _ hx nB, cl, na, by decide, hq v W2 d (S'.le.trans e2) f2 hd⟩
/-- [e for tg in xs for tg1 in ys if test] -/
theorem wpN_lc2G {wi wi1 : TI} {g g1 : TG} {tt1 : TT} {vs vs1 : List Nat} {P : List PyData → Prop}
    (h : wpIc K W0 wi Γ fun ds => ∃ Iv : Nat → List PyData → Prop, Iv 0 [] ∧ (∀ i d acc, ds[i]? = some d → Iv i acc → wpG K W0 vs g d (wipeG Γ vs) fun Γ' => noOwn Γ' ∧ wpI K W0 wi1 Γ' fun es => ∃ Jv : Nat → List PyData → Prop, Jv 0 acc ∧
      (∀ m e acc', es[m]? = some e → Jv m acc' → acc'.length < 10000000 ∧ wpG K W0 vs1 g1 e (wipeG Γ' vs1) fun Γ2 => wpT K W0 tt1 Γ2 fun b => (b = true → wpE K W0 te Γ2 fun y => Jv (m + 1) (acc' ++ [y])) ∧ (b = false → Jv (m + 1) acc')) ∧ ∀ acc', Jv es.length acc' → Iv (i + 1) acc') ∧ ∀ acc, Iv ds.length acc → P acc) :
    wpN K W0 (tLc2 wi g tYes wi1 g1 tt1 te vs vs1) Γ P := fun W σ S Q k => h W σ S _ fun W1 J ds e1 it ⟨Iv, i0, hs, hd⟩ => by
  intro D hD
  have hsz : sizeLine = 16777216 := sizeLine_eq
  have S1 := S.mono e1
  obtain ⟨n1, n2⟩ := e1.ok.newL (K := K) (ds := []) (vs := []) hD .nil
  have fzD : ¬ W1.Fz D := fun z => e1.ok.fz D z hD
  have bD : ¬ W1.B D := fun z => by
    obtain ⟨_, _, _, e⟩ := e1.ok.bx D z
    rw [hD] at e
    cases e
  let At : (List PyData → Prop) → Hp → Prop := fun R H => ∃ W2 acc us, W2.H = H ∧ Le W1 W2 ∧ ¬ W2.Fz D ∧ ¬ W2.B D ∧ H D = some (.lst us) ∧ Dfs K W2 us acc ∧ R acc
  refine ⟨fun i m H => m = ds.length - i ∧ i ≤ ds.length ∧ At (Iv i) H, ⟨ds.length, by simp, Nat.zero_le _, _, [], [], rfl, n1, fzD, bD, upd_same, .nil, i0⟩, ?_⟩
  rintro i m H ⟨rfl, hi, W2, acc, us, rfl, e2, nf, nb, hl, hf, hI⟩
  by_cases hlt : i < ds.length
  · refine .inr ⟨it.go W2 i e2 hlt, At (Iv (i + 1)), fun H' q => ⟨ds.length - (i + 1), by omega, rfl, hlt, q⟩, fun x H' hy => ?_⟩
    obtain ⟨W3, rfl, e3, f3⟩ := it.yld W2 i x H' ds[i] e2 e2.ok (List.getElem?_eq_getElem hlt) hy
    have keep : ∀ {Wa Wb : Wd} {us : List V}, ¬ Wa.Fz D → ¬ Wa.B D → Wa.H D = some (.lst us) → Le Wa Wb → ¬ Wb.Fz D ∧ ¬ Wb.B D ∧ Wb.H D = some (.lst us) := fun {Wa Wb us} p1 p2 p3 e => ⟨fun z => (by
      have := e.nf D z p1
      rw [p3] at this
      cases this), fun z => (by
      have := e.nb D z p2
      rw [p3] at this
      cases this), e.ex D _ p3 p2⟩
    have S3 : Sat K W0 W3 (wipe σ vs) (wipeG Γ vs) := (S1.mono (e2.trans e3)).wipe vs
    refine hs i ds[i] acc (List.getElem?_eq_getElem hlt) hI W3 _ S3 x f3 _ fun σ' Γ' Wt et St wt ⟨no, hw⟩ => ⟨wt.trans (wipe_wipe fun _ h => h), ?_⟩
    show wi1 σ' Wt.H _
    refine hw Wt σ' St _ fun W4 J1 es e4 it1 ⟨Jv, j0, js, jd⟩ => ?_
    have e24 : Le W2 W4 := (e3.trans et).trans e4
    obtain ⟨k1, k2, k3⟩ := keep nf nb hl e24
    have S4 := St.mono e4
    refine ⟨fun m n H => n = es.length - m ∧ m ≤ es.length ∧ ∃ W5, Lf W4 W5 ∧ W5.H = H ∧ Le W1 W5 ∧ ¬ W5.Fz D ∧ ¬ W5.B D ∧ ∃ us acc', H D = some (.lst us) ∧ Dfs K W5 us acc' ∧ Jv m acc', ⟨es.length, by simp, Nat.zero_le _, W4, .refl e4.ok, rfl, e2.trans e24, k1, k2, us, acc, k3, Dfs.mono (e24.lf e2.ok) _ _ hf, j0⟩, ?_⟩
    rintro m n H ⟨rfl, hm, W5, lf5, rfl, e5, q1, q2, us5, acc5, q3, q4, hJ⟩
    by_cases hmt : m < es.length
    · refine .inr ⟨it1.go W5 m lf5 hmt, fun H => ∃ W5, Lf W4 W5 ∧ W5.H = H ∧ Le W1 W5 ∧ ¬ W5.Fz D ∧ ¬ W5.B D ∧ ∃ us acc', H D = some (.lst us) ∧ Dfs K W5 us acc' ∧ Jv (m + 1) acc', fun H' q => ⟨es.length - (m + 1), by omega, rfl, hmt, q⟩, fun y H' hy => ?_⟩
      obtain ⟨W6, rfl, e6, f6⟩ := it1.yld W5 m y H' es[m] lf5 e5.ok (List.getElem?_eq_getElem hmt) hy
      have le06 : Le W0 W6 := (S.le.trans e1).trans (e5.trans e6)
      have S6 : Sat K W0 W6 (wipe σ' vs1) (wipeG Γ' vs1) := (S4.mutN no (lf5.trans (e6.lf e5.ok)) le06).wipe vs1
      obtain ⟨hsz5, hg⟩ := js m es[m] acc5 (List.getElem?_eq_getElem hmt) hJ
      refine hg W6 _ S6 y f6 _ fun σ3 Γ3 W7 e7 S7 w7 ht => ⟨w7.trans (wipe_wipe fun _ h => h), ?_⟩
      refine ht W7 σ3 S7 _ fun W8 b e8 hb => ?_
      have e58 : Le W5 W8 := (e6.trans e7).trans e8
      cases b with
      | false =>
        obtain ⟨r1, r2, r3⟩ := keep q1 q2 q3 e58
        exact ⟨W8, lf5.trans (e58.lf e5.ok), rfl, e5.trans e58, r1, r2, us5, acc5, r3, Dfs.mono (e58.lf e5.ok) _ _ q4, hb.2 rfl⟩
      | true =>
        show te σ3 W8.H _
        refine hb.1 rfl W8 σ3 (S7.mono e8) _ fun z W9 dz e9 f9 hz => ?_
        have e59 : Le W5 W9 := e58.trans e9
        obtain ⟨r1, r2, r3⟩ := keep q1 q2 q3 e59
        have lf := e9.ok.mutLf (o' := .lst (us5 ++ [z])) r3 trivial r1 r2
        refine ⟨us5, r3, by rw [q4.length]; omega, ⟨W9.Fz, W9.B, upd W9.H D (.lst (us5 ++ [z]))⟩, lf5.trans ((e59.lf e5.ok).trans lf), rfl, (e5.trans e59).mut r3 r2 hD, r1, r2, us5 ++ [z], acc5 ++ [dz], upd_same, ?_, hz⟩
        exact (Dfs.mono lf _ _ (Dfs.mono (e59.lf e5.ok) _ _ q4)).append (.cons (Df.mono lf _ _ f9) .nil)
    · have e : m = es.length := by omega
      subst e
      exact .inl ⟨it1.stop W5 _ lf5 (Nat.le_refl _), W5, acc5, us5, rfl, e5, q1, q2, q3, q4, jd acc5 hJ⟩
  · have e : i = ds.length := by omega
    subst e
    refine .inl ⟨it.stop W2 _ e2 (Nat.le_refl _), k _ W2 acc (e1.trans e2) ?_ (hd acc hI)⟩
    have : Nw K W1 W2 (.ref D) acc := ⟨D, us, rfl, hD, nf, nb, hl, hf⟩
    exact this.up S.ok e1
end
end G

set_option Elab.async false
set_option linter.all false
set_option autoImplicit false
set_option maxRecDepth 100000
set_option maxHeartbeats 4000000
/-! G21: == of an instance with anything, isinstance by an own class with both answers, str by an own __str__, f-strings, str of an int, an instance made of an own list, clear. -/
namespace G
open PySem L2
section
variable {X : Cx} {CX : CXT} {k : Nat} {C f : Addr} {fd : FuncData} {ps : List Str} {sp : Sp} {E : XK}
def rEqW (K : PySem.W.Frag) (C : Addr) (sp : Sp) (E : XK) : R2 := fun x y H Q => ∃ a dx fs, x = .ref a ∧ H a = some (.ins C dx fs) ∧ ((∃ b dy gs, y = .ref b ∧ H b = some (.ins C dy gs)) ∨ ∃ t, TyX K H y t ∧ PySem.W.notFirst K C t = true) ∧ sp [x, y] H (fun v H' => (∃ r, v = .bl r) ∧ Q v H') E
theorem eqW_K {K : PySem.W.Frag} (hK : X.K = K) (hm : Meth X.K C "__eq__" f) (F : FnOk X.prog X.w X.K X.mg X.base CX k f fd ps sp) (hr : Room k X.A) (hb : Binds X.K fd ps []) (hx : Passes CX X E) : OpR X (compareOp .Eq) (rEqW K C sp E) := by
  subst hK
  intro pins s σ H x y v u Q I rx ry hq
  obtain ⟨a, dx, fs, rfl, ha, hy, hsp⟩ := hq
  cases rx
  show wpAny (model X.prog X.w) X.A (richCompare .Eq (.ref a) u) (EP X pins σ Q) X.xe s
  obtain ⟨mA, J, _⟩ := ins_get I.hok ha
  obtain ⟨od, J, _⟩ := J.look
  obtain ⟨m, hF⟩ := I.fr
  have hl := F.len _ _ _ _ hsp
  have r2 : Vals [V.ref a, y] [Value.ref a, u] := .cons rfl (.cons ry .nil)
  have run : wpAny (model X.prog X.w) X.A (call (.ref f) [.ref a, u]) (PySem.W.CmpBack (EP X pins σ Q)) X.xe s := by
    refine wpAny_call (codeAny_mono (F.run X.A X.stack s H ⟨[.ref a, u], []⟩ [.ref a, u] [.ref a, y] _ E hr I.env0 (by
      have := hb s [.ref a, u] I.kIn (by simpa using hl)
      simpa using this) r2 hsp) fun r s' hq => ?_)
    cases r with
    | error e => exact hx pins σ H s e s' I hq
    | ok fl =>
      cases fl with
      | ret w =>
        obtain ⟨z, H', I', rz, ⟨r, ez⟩, q⟩ := I.after hq
        subst ez
        cases rz
        exact ⟨.bl r, H', I', rfl, q⟩
      | next => exact False.elim hq
      | brk => exact False.elim hq
      | cont => exact False.elim hq
  rcases hy with ⟨b, dy, gs, rfl, hb'⟩ | ⟨t, ty, nf⟩
  · cases ry
    obtain ⟨mB, J', _⟩ := ins_get I.hok hb'
    obtain ⟨od', J', _⟩ := J'.look
    exact PySem.W.cmp_K (op := .Eq) (tb := .ref C) hr.units0 hF I.ok.mod.kin J J'.type (by simp [PySem.W.notFirst]) hm.at_ hm.fn run
  · obtain ⟨P, Z, hp, _⟩ := kit_of I ry ty
    exact PySem.W.cmp_K (op := .Eq) (tb := t) hr.units0 hF I.ok.mod.kin J (Z.ty _ _ I.kIn hp) nf hm.at_ hm.fn run
/-- str(x) by an own __str__ -/
def rStrO (C : Addr) (sp : Sp) (E : XK) : List V → Hp → VK → Prop := fun xs H Q => ∃ a dx fs, xs = [.ref a] ∧ H a = some (.ins C dx fs) ∧ sp [.ref a] H (fun v H' => (∃ z, v = .str z) ∧ Q v H') E
theorem strO_K (hm : Meth X.K C "__str__" f) (F : FnOk X.prog X.w X.K X.mg X.base CX k f fd ps sp) (hr : Room (k + 2) X.A) (hb : Binds X.K fd ps []) (hx : Passes CX X E) : CallR X (.type "str") (rStrO C sp E) := by
  intro pins s σ H xs us Q I r hq
  obtain ⟨a, dx, fs, rfl, ha, hsp⟩ := hq
  obtain ⟨u, rfl, ru⟩ := vals1 r
  obtain rfl : u = Value.ref a := ru
  obtain ⟨mA, J, _⟩ := ins_get I.hok ha
  obtain ⟨od, J, _⟩ := J.look
  refine PySem.W.kso_call hr.in1.in1.units0 I.kIn J hm.at_ hm.fn ?_
  have hl := F.len _ _ _ _ hsp
  have r2 : Vals [V.ref a] [Value.ref a] := .cons rfl .nil
  refine wpAny_call (codeAny_mono (F.run X.A.in1.in1 X.stack s H ⟨[.ref a], []⟩ [.ref a] [.ref a] _ E hr.in1.in1 I.env0.in1.in1 (by
    have := hb s [.ref a] I.kIn (by simpa using hl)
    simpa using this) r2 hsp) fun r s' hq => ?_)
  cases r with
  | error e => exact hx pins σ H s e s' I hq
  | ok fl =>
    cases fl with
    | ret w =>
      obtain ⟨z, H', I', rz, ⟨y, ez⟩, q⟩ := I.after hq
      subst ez
      obtain ⟨t, rfl⟩ := (show ∃ t, w = Value.str y t from rz)
      exact ⟨.str y, H', I', ⟨_, rfl⟩, q⟩
    | next => exact False.elim hq
    | brk => exact False.elim hq
    | cont => exact False.elim hq
theorem mt_clear' : MtR X "list.clear" rClear := mt_clear
end
section
variable {K : PySem.W.Frag} {W0 W W' W1 : Wd} {σ : L2.St} {Γ : Gm} {A : AE} {ta tb te : TE} {t tk : TA} {C : Addr} {f m : Str}
theorem wpE_eqW {pre : List PyData → Prop} {post : List PyData → Rs → Prop} {E : XK} {P : PyData → Prop} (h : wpE K W0 ta Γ fun x => (∃ y, x = obD C f y) ∧ wpE K W0 tb Γ fun z => ((∃ y, z = obD C f y) ∨ (tyN z ≠ "?" ∧ PySem.W.notFirst K C (.type (tyN z)) = true)) ∧ pre [x, z] ∧ ∀ r, post [x, z] r → ∃ b, r = .d (.bool b) ∧ P (.bool b)) :
    wpE K W0 (tOp (rEqW K C (spF K pre post) E) ta tb) Γ P := fun W σ S Q k => h W σ S _ fun v W1 d e1 f1 ⟨⟨y, hd⟩, h1⟩ => h1 W1 σ (S.mono e1) _ fun u W2 d' e2 f2 ⟨hd', hp, hq⟩ => by
  subst hd
  have f1' := Df.mono (e2.lf e1.ok) _ _ f1
  obtain ⟨a, dx, u1, rfl, g1, _, _⟩ := id f1'.ob_inv
  refine ⟨a, dx, _, rfl, g1, ?_, W2, _, rfl, e2.ok, .cons f1' (.cons f2 .nil), hp, fun v W3 r e3 r3 hr => ?_⟩
  · rcases hd' with ⟨y', rfl⟩ | ⟨q1, q2⟩
    · obtain ⟨b, dy, u2, rfl, g2, _, _⟩ := id f2.ob_inv
      exact .inl ⟨b, dy, _, rfl, g2⟩
    · exact .inr ⟨_, f2.ty e2.ok q1, q2⟩
  · obtain ⟨c, hc, p⟩ := hq r hr
    have f3 := Rs.take hc r3
    cases f3.bool_inv
    exact ⟨⟨c, rfl⟩, k _ W3 _ ((e1.trans e2).trans e3) (.bl c) p⟩
theorem wpE_isiW (c : C8.InsC K C) {P : PyData → Prop} (h : wpE K W0 te Γ fun x => ((∃ y, x = obD C f y) ∧ P (.bool true)) ∨ (tyN x ≠ "?" ∧ ∃ b, PySem.W.kitOne K (.type (tyN x)) (.ref C) = some b ∧ P (.bool b))) :
    wpE K W0 (tCB (rIsi K) (tCons te (tCons (tC (.ref C)) tNil))) Γ P := fun W σ S Q k => h W σ S _ fun v W1 d e1 f1 hd => by
  rcases hd with ⟨⟨y, hd⟩, p⟩ | ⟨q1, b, q2, p⟩
  · subst hd
    obtain ⟨a, dx, u1, rfl, g1, _, _⟩ := id f1.ob_inv
    exact ⟨_, .ref C, .ref C, .ref C, true, rfl, .own C, .base (.ins g1 c.cl c.ha c.hn c.htk c.hm), c.me, k _ W1 _ e1 (.bl true) p⟩
  · exact ⟨_, .ref C, _, .ref C, b, rfl, .own C, f1.ty e1.ok q1, q2, k _ W1 _ e1 (.bl b) p⟩
theorem notFirst_of {t : Value} (h : PySem.W.kitOne K t (.ref C) = some false) : PySem.W.notFirst K C t = true := by
  unfold PySem.W.kitOne at h
  split at h
  · cases h
  · unfold PySem.W.kitCls at h
    simp only at h
    split at h
    · unfold PySem.W.notFirst
      rw [h]
      simp
    · cases h
theorem wpE_strO {pre : List PyData → Prop} {post : List PyData → Rs → Prop} {E : XK} {P : PyData → Prop} (h : wpE K W0 te Γ fun x => (∃ y, x = obD C f y) ∧ pre [x] ∧ ∀ r, post [x] r → ∃ z : Str, r = .d (.str z) ∧ P (.str z)) :
    wpE K W0 (tCB (rStrO C (spF K pre post) E) (tCons te tNil)) Γ P := fun W σ S Q k => h W σ S _ fun v W1 d e1 f1 ⟨⟨y, hd⟩, hp, hq⟩ => by
  subst hd
  obtain ⟨a, dx, u1, rfl, g1, _, _⟩ := id f1.ob_inv
  refine ⟨a, dx, _, rfl, g1, W1, _, rfl, e1.ok, .cons f1 .nil, hp, fun v W3 r e3 r3 hr => ?_⟩
  obtain ⟨z, hc, p⟩ := hq r hr
  have f3 := Rs.take hc r3
  cases f3.str_inv
  exact ⟨⟨z, rfl⟩, k _ W3 _ (e1.trans e3) (.str z) p⟩
/-- f-strings -/
theorem wpE_fmtI {P : PyData → Prop} (h : wpE K W0 te Γ fun d => ∃ i : Int, d = .int i ∧ i.natAbs.log2 < 1920 ∧ P (.str (toString i))) : wpE K W0 (tFmt te) Γ P := fun W σ S Q k => h W σ S _ fun v W1 d e1 f1 ⟨i, hd, hl, p⟩ => by
  subst hd
  cases f1.int_inv
  exact .inr ⟨i, rfl, hl, k _ W1 _ e1 (.str _) p⟩
theorem wpE_fmtS {P : PyData → Prop} (h : wpE K W0 te Γ fun d => ∃ y : Str, d = .str y ∧ y.length ≤ sizeLine ∧ P (.str y)) : wpE K W0 (tFmt te) Γ P := fun W σ S Q k => h W σ S _ fun v W1 d e1 f1 ⟨y, hd, hl, p⟩ => by
  subst hd
  cases f1.str_inv
  exact .inl ⟨y, rfl, hl, k _ W1 _ e1 (.str _) p⟩
def wpJ (K : PySem.W.Frag) (W0 : Wd) (Γ : Gm) (P : Str → Prop) : List TE → Str → Prop
  | [], acc => P acc
  | t :: ts, acc => wpE K W0 t Γ fun d => ∃ y : Str, d = .str y ∧ (acc ++ y).length ≤ sizeLine ∧ wpJ K W0 Γ P ts (acc ++ y)
theorem wpJ_run {P : Str → Prop} : ∀ (ts : List TE) (acc : Str) (W : Wd) (σ : L2.St), wpJ K W0 Γ P ts acc → Sat K W0 W σ Γ → ∀ Q : Str → Hp → Prop, (∀ W' out, Le W W' → P out → Q out W'.H) → tJs ts acc σ W.H Q
  | [], acc, W, σ, h, S, Q, k => k W acc (.refl S.ok) h
  | t :: ts, acc, W, σ, h, S, Q, k => h W σ S _ fun v W1 d e1 f1 ⟨y, hd, hl, h2⟩ => by
    subst hd
    cases f1.str_inv
    exact ⟨y, rfl, hl, wpJ_run ts _ W1 σ h2 (S.mono e1) Q fun W' out e p => k W' out (e1.trans e) p⟩
theorem wpE_joined {ts : List TE} {P : PyData → Prop} (h : wpJ K W0 Γ (fun out => P (.str out)) ts Str.empty) : wpE K W0 (fun σ H Q => tJs ts Str.empty σ H fun out H1 => Q (.str out) H1) Γ P := fun W σ S Q k =>
  wpJ_run ts Str.empty W σ h S _ fun W' out e p => k _ W' _ e (.str out) p
/-- str(i) -/
theorem wpE_strI {P : PyData → Prop} (h : wpE K W0 te Γ fun d => ∃ i : Int, d = .int i ∧ i.natAbs.log2 < 1920 ∧ P (.str (toString i))) :
    wpE K W0 (tCB (fun xs H Q => ∃ i : Int, xs = [.int i] ∧ i.natAbs.log2 < 1920 ∧ Q (.str (toString i)) H) (tCons te tNil)) Γ P := fun W σ S Q k => h W σ S _ fun v W1 d e1 f1 ⟨i, hd, hl, p⟩ => by
  subst hd
  cases f1.int_inv
  exact ⟨i, rfl, hl, k _ W1 _ e1 (.str _) p⟩
/-- xs.clear() -/
theorem go_clear {i : Nat} {xs : List PyData} (hi : Γ[i]? = some (.l xs)) (p : A.nx (Γ.set i (.l []))) : go K W0 (tDrop (tBM0 K "list" rClear (tVar i))) Γ A := fun W σ D S c => by
  obtain ⟨a, vs, h1, h2, h3, h4, h5, h6⟩ := S.varL hi
  have lf := S.ok.mutLf (o' := .lst []) h5 trivial h3 h4
  have S1 := S.mutL hi h1 h2 h3 h4 h5 lf Dfs.nil
  exact ⟨_, h1, .inl ⟨rfl, vs, .inl (.inl h5)⟩, a, vs, rfl, rfl, h5, c.nx _ _ _ lf S1 p⟩
mutual
def thinB : PyData → Bool
  | .none => true
  | .bool _ => true
  | .int _ => true
  | .str _ => true
  | .tuple ds => thinAll ds
  | _ => false
def thinAll : List PyData → Bool
  | [] => true
  | d :: ds => thinB d && thinAll ds
end
mutual
theorem Df.thin (e : ∀ a o, W.H a = some o → ¬ Mut (some o) → W'.H a = some o) : ∀ (d : PyData) (v : V), thinB d = true → Df K W v d → Df K W' v d
  | _, _, _, .non => .non
  | _, _, _, .bl b => .bl b
  | _, _, _, .int i => .int i
  | _, _, _, .str x => .str x
  | .tuple ds, _, h, .tup q t => .tup (q.elim (fun q => .inl (q.elim (fun q => .inl (e _ _ q fun m => m)) fun ⟨o, q⟩ => .inr ⟨o, e _ _ q fun m => m⟩)) .inr) (Dfs.thin e ds _ (by simpa [thinB] using h) t)
  | .list _, _, h, _ => by simp [thinB] at h
  | .dict _, _, h, _ => by simp [thinB] at h
theorem Dfs.thin (e : ∀ a o, W.H a = some o → ¬ Mut (some o) → W'.H a = some o) : ∀ (ds : List PyData) (vs : List V), thinAll ds = true → Dfs K W vs ds → Dfs K W' vs ds
  | [], _, _, .nil => .nil
  | d :: ds, _, h, .cons q t => by
    have h' : thinB d = true ∧ thinAll ds = true := by simpa [thinAll] using h
    exact .cons (Df.thin e d _ h'.1 q) (Dfs.thin e ds _ h'.2 t)
end
/-- C(xs), xs an own list that stays own -/
theorem wpE_makeV {pre : List PyData → Prop} {post : List PyData → PyData → Prop} {E : XK} {P : PyData → Prop} {i : Nat} {xs : List PyData} (hi : Γ[i]? = some (.l xs)) (hp : pre [.list xs]) (hq : ∀ d, post [.list xs] d → thinB d = true ∧ P (obD C f d)) :
    wpE K W0 (tMake C (spInit K C f pre post) [] E (tCons (tVar i) tNil)) Γ P := fun W σ S Q k => by
  obtain ⟨a, vs, g1, g2, g3, g4, g5, g6⟩ := S.varL hi
  refine ⟨_, g1, ?_⟩
  intro x dx hx hdx ne
  have eA := S.ok.new (u := .own x) hdx
  have hx2 : (upd W.H dx (.own x)) x = none := by rw [upd_ne (Ne.symm ne)]; exact hx
  have eB := eA.ok.new (u := .ins C dx []) hx2
  have e2 := eA.trans eB
  have nF : ¬ W.Fz x := fun z => S.ok.fz x z hx
  have nB : ¬ W.B x := fun z => by
    obtain ⟨_, _, _, q⟩ := S.ok.bx x z
    rw [hx] at q
    cases q
  have ax : a ≠ x := ne_of_none g5 hx
  have h5 := e2.ex _ _ g5 g4
  have okf : Ok ⟨fun b => W.Fz b ∨ b = a, W.B, upd (upd W.H dx (.own x)) x (.ins C dx [])⟩ := ⟨fun b hb => hb.elim (eB.ok.fz b) (fun e => by rw [e]; show upd _ x _ a ≠ none; rw [show upd (upd W.H dx (.own x)) x (.ins C dx []) a = _ from h5]; exact fun z => nomatch z), eB.ok.bx, fun b hb => hb.elim (eB.ok.fb b) (fun e => by rw [e]; exact g4)⟩
  have lf : Lf ⟨W.Fz, W.B, upd (upd W.H dx (.own x)) x (.ins C dx [])⟩ ⟨fun b => W.Fz b ∨ b = a, W.B, upd (upd W.H dx (.own x)) x (.ins C dx [])⟩ := ⟨okf, fun b hb => .inl hb, fun b hb => hb, fun b o q _ => q⟩
  have f6 : Dfs K ⟨fun b => W.Fz b ∨ b = a, W.B, upd (upd W.H dx (.own x)) x (.ins C dx [])⟩ vs xs := Dfs.mono lf _ _ (Dfs.mono (e2.lf S.ok) _ _ g6)
  refine ⟨⟨fun b => W.Fz b ∨ b = a, W.B, upd (upd W.H dx (.own x)) x (.ins C dx [])⟩, [.list xs], x, dx, [.ref a], rfl, okf, rfl, .cons (.lst (.inl ⟨.inl h5, .inr rfl⟩) f6) .nil, hp, upd_same, fun z => z.elim nF fun z => ax z.symm, nB, fun v W' d e3 f3 hd => ⟨rfl, ?_⟩⟩
  obtain ⟨th, p⟩ := hq d hd
  have hx3 : W'.H x = some (.ins C dx []) := e3.ex x _ upd_same nB
  have nF3 : ¬ W'.Fz x := fun z => by
    have := e3.nf x z (fun z => z.elim nF fun z => ax z.symm)
    rw [show (Wd.H _ x) = _ from upd_same] at this
    cases this
  have nB3 : ¬ W'.B x := fun z => by
    have := e3.nb x z nB
    rw [show (Wd.H _ x) = _ from upd_same] at this
    cases this
  have okM := e3.ok.mut (o' := .ins C dx [(f, v)]) hx3 nB3
  have ok4 : Ok ⟨fun b => (W'.Fz b ∧ b ≠ a) ∨ b = x, W'.B, upd W'.H x (.ins C dx [(f, v)])⟩ := ⟨fun b hb => hb.elim (fun hb => okM.fz b hb.1) (fun e => by rw [e]; show upd _ x _ x ≠ none; rw [upd_same]; exact fun z => (nomatch z)), okM.bx, fun b hb => hb.elim (fun hb => okM.fb b hb.1) (fun e => by rw [e]; exact nB3)⟩
  have thin : Df K ⟨fun b => (W'.Fz b ∧ b ≠ a) ∨ b = x, W'.B, upd W'.H x (.ins C dx [(f, v)])⟩ v d := Df.thin (W := W') (fun b o q nm => by
    show upd W'.H x _ b = some o
    by_cases hb : b = x
    · subst hb
      rw [hx3] at q
      cases q
      exact absurd trivial nm
    · rw [upd_ne hb]
      exact q) d v th f3
  have up : ∀ b, (upd (upd W.H dx (.own x)) x (.ins C dx [])) b = none → W.H b = none := fun b hb => e2.fresh hb
  have e4 : Le W ⟨fun b => (W'.Fz b ∧ b ≠ a) ∨ b = x, W'.B, upd W'.H x (.ins C dx [(f, v)])⟩ := {
    ok := ok4
    fz := fun b hb => .inl ⟨e3.fz b (.inl hb), fun e => g3 (e ▸ hb)⟩
    b := fun b hb => e3.b b hb
    ex := fun b o q n => by
      show upd W'.H x _ b = some o
      rw [upd_ne (ne_of_none q hx)]
      exact e3.ex b o (e2.ex b o q n) n
    nf := fun b hb n => hb.elim (fun hb => up b (e3.nf b hb.1 fun z => z.elim n hb.2)) (fun e => by rw [e]; exact hx)
    nb := fun b hb n => up b (e3.nb b hb n) }
  exact k (.ref x) ⟨fun b => (W'.Fz b ∧ b ≠ a) ∨ b = x, W'.B, upd W'.H x (.ins C dx [(f, v)])⟩ _ e4 (.ob upd_same (.inr rfl) (.cons (k := .inr f) thin .nil)) p
end
end G

set_option Elab.async false
set_option linter.all false
set_option autoImplicit false
set_option maxRecDepth 100000
set_option maxHeartbeats 4000000
/-! G22: x, *ys = xs (a list). -/
namespace PySem
section
variable {prog : Program} {w : World} {A : Around} {E : Value → Shared → Prop} {s : Shared}
theorem walksS_rest (hh : A.handled = none) (it l : Addr) (items : Array Value) (hl : l ≠ it) : WalksS prog w A.in1 it [it, l] [it] (fun a b => a = b) (items.size - 1) (fun j v => items[1 + j]? = some v) (fun j s => s.heap.IsListIter it l (1 + j) ∧ s.heap.IsList l items) where
  sub := fun b hb => by
    rw [List.mem_singleton.mp hb]
    exact List.mem_cons_self
  grefl := fun _ => rfl
  gtrans := fun _ _ _ a b => a.trans b
  frame := fun i s h' tk st _ k => ⟨st.1.at (k _ List.mem_cons_self), by
    obtain ⟨o, ho, r⟩ := st.2
    exact ⟨o, k _ (List.mem_cons_of_mem _ List.mem_cons_self) o ho, r⟩⟩
  item := fun i s Q E hi st hQ => by
    have hlt : 1 + i < items.size := by omega
    refine wpAny_pyNext_list_item st.1 st.2 (x := items[1 + i]) (by simp [hlt]) fun h' hit hs => ?_
    refine hQ _ _ (by simp [hlt]) ⟨hit, st.2.extBut hs.extBut hl⟩ ⟨fun b o hb ho => hs.extBut b o (fun e => hb (by rw [e]; exact List.mem_cons_self)) ho, rfl, rfl, rfl, Nat.le_refl _⟩
  done := fun s Q E st hQ => by
    refine wpAny_pyNext_list_end (by show A.in1.handled = none; exact hh) st.1 st.2 (by simp; omega) fun h' hs => ?_
    exact hQ _ ⟨fun b o hb ho => hs b o (fun e => hb (by rw [e]; exact List.mem_cons_self)) ho, rfl, rfl, rfl, Nat.le_refl _⟩
  self := fun i s Q E st h => wpAny_pyIter_listiter st.1 h
theorem wpAny_unpackItems_star {l : Addr} {items : Array Value} {Q : List Value → Shared → Prop} (hh : A.handled = none) (hl : s.heap.IsList l items) (h0 : 0 < items.size) (hz : items.size ≤ sizeLine)
    (hQ : ∀ (h' : Heap) (tk : Nat), (∀ b o, s.heap.get? b = some o → h'.get? b = some o) → Q [items[0], .ref h'.objs.size] { s with heap := h'.push { cls := .type "list", data := .seq (items.toList.drop 1).toArray }, toks := tk }) :
    wpAny (model prog w) A (unpackItems (.ref l) 2 (some 1)) Q E s := by
  have hlt : l ≠ s.heap.objs.size := by
    obtain ⟨o, ho, _⟩ := hl
    exact Nat.ne_of_lt (Heap.lt_size ho)
  unfold unpackItems
  refine wpAny_bind ?_
  unfold notIterableAtAll
  refine wpAny_bind (wpAny_specialOf hl.typeIs slot_list_iter.lookup ?_)
  refine wpAny_pure ?_
  simp only [Bool.false_eq_true, if_false]
  refine wpAny_bind (wpAny_holding (wpAny_pyIter_list hl ?_))
  have hit0 : Heap.IsListIter (s.heap.push { cls := .type "list_iterator", data := .fields #[.ref l, .int 0 0] }) s.heap.objs.size l 0 := ⟨_, Heap.get?_push_size _ rfl, rfl, rfl⟩
  refine wpAny_bind (wpAny_holding ?_)
  show wpAny _ _ (pyNext (.ref s.heap.objs.size) >>= _) _ _ _
  refine wpAny_bind (wpAny_pyNext_list_item hit0 (hl.push _) (x := items[0]) (by simp [h0]) fun h1 hit1 hs1 => ?_)
  refine wpAny_bind (wpAny_holding (wpAny_pure (wpAny_pure ?_)))
  show wpAny _ _ (if ([items[0]] : List Value).length < 1 then _ else _) _ _ _
  rw [if_neg (by simp)]
  have hl1 : h1.IsList l items := (hl.push _).extBut hs1.extBut hlt
  refine wpAny_bind (wpAny_holding (wpAny_collect_iter (T := "list_iterator") (.inr (.inr (.inl rfl))) (walksS_rest hh s.heap.objs.size l items hlt) (fun i s h => h.1.typeIs) ⟨hit1, hl1⟩ (fun b hb => ?_) List.mem_cons_self (fun s' acc mv hacc => ?_) (by omega)))
  · rcases List.mem_cons.mp hb with e | hb
    · rw [e]
      obtain ⟨o, ho, _⟩ := hit1
      exact Heap.lt_size ho
    · rw [List.mem_singleton.mp hb]
      obtain ⟨o, ho, _⟩ := hl1
      exact Heap.lt_size ho
  · have eacc : acc.toList = items.toList.drop 1 := by
      obtain ⟨a1, a2⟩ := hacc
      apply List.ext_getElem?
      intro j
      rw [List.getElem?_drop]
      by_cases hj : j < acc.size
      · have h2 := a2 j acc[j] (by simp [hj])
        rw [Array.getElem?_toList, Array.getElem?_toList, h2]
        simp [hj]
      · rw [List.getElem?_eq_none (by simp; omega), List.getElem?_eq_none (by simp; omega)]
    rw [eacc]
    show wpAny _ _ (if (items.toList.drop 1).length < 0 then _ else _) _ _ _
    rw [if_neg (by omega)]
    have e1 : (items.toList.drop 1).take ((items.toList.drop 1).length - 0) = items.toList.drop 1 := by
      rw [Nat.sub_zero, List.take_length]
    have e2 : (items.toList.drop 1).drop ((items.toList.drop 1).length - 0) = [] := by
      rw [Nat.sub_zero, List.drop_length]
    show wpAny _ _ (newList ((items.toList.drop 1).take ((items.toList.drop 1).length - 0)) >>= _) _ _ _
    rw [e1]
    refine wpAny_bind (wpAny_newObj_type (wpAny_pure ?_) (by
      show (items.toList.drop 1).toArray.size ≤ sizeLine
      rw [List.size_toArray, List.length_drop, Array.length_toList]
      omega))
    have e3 : ([items[0]] : List Value) ++ [Value.ref s'.heap.objs.size] ++ (items.toList.drop 1).drop ((items.toList.drop 1).length - 0) = [items[0], .ref s'.heap.objs.size] := by
      rw [e2]
      rfl
    obtain ⟨hp', g', d', tk', os'⟩ := s'
    obtain ⟨m1, m2, m3, m4, m5⟩ := mv
    dsimp only at m1 m2 m3 m4 m5 e3 ⊢
    subst m2 m3 m4
    rw [e3]
    have kp : ∀ b o, s.heap.get? b = some o → hp'.get? b = some o := fun b o ho => by
      have nb : b ≠ s.heap.objs.size := Nat.ne_of_lt (Heap.lt_size ho)
      exact m1 b o (fun z => nb (List.mem_singleton.mp z)) (hs1.extBut b o nb (Heap.get?_push_of_some _ ho))
    exact hQ hp' tk' kp
end
end PySem
namespace G
open PySem L2 PyProof.Rows
/-- x, *y = a list -/
def gStar (K : PySem.W.Frag) (t : TGs) : TG := fun v σ H Q => ∃ a y xs, v = .ref a ∧ SqL K H a (y :: xs) ∧ ∀ p, H p = none → t [y, .ref p] σ (upd H p (.lst xs)) Q
theorem pg_star {X : Cx} {K : PySem.W.Frag} {es fs : List Expr} {k : Nat} {t : TGs} {pos : Pos} (hK : X.K = K) (hc : X.calm = true) (h : PGs X fs t)
    (hm : (assignEach es X.env).map (·.2) = (assignEach fs X.env).map (·.2) := by rfl) (hn : (assignEach es X.env).length = 2 := by rfl) (hst : (assignEach es X.env).findIdx? (·.1) = some 1 := by rfl) : PG X (.Tuple es k pos) (gStar K t) := by
  subst hK
  refine ⟨fun pins s σ H v u Q I r hw => ?_⟩
  obtain ⟨a, y, xs, rfl, hq, hw⟩ := hw
  cases r
  obtain ⟨its, rv, pl, hz⟩ := I.list hq
  have hl : s.heap.IsList a its.toArray := pl.isList
  rw [arm_assign_Tuple]
  refine wpAny_bind (wpAny_standAt ?_)
  unfold unpack
  rw [hn, hst, hm]
  have hlen := rv.length
  rw [List.length_cons] at hlen hz
  cases rv with
  | @cons y' v' xs' us' r1 r2 =>
    refine wpAny_bind (wpAny_holding (wpAny_unpackItems_star (I.ok.hd hc) hl (by simp) (by rw [List.size_toArray]; omega) fun h' tk kp => ?_))
    have I1 : Inv X pins σ H { s with heap := h', toks := tk } := I.kept kp
    have hf : H h'.objs.size = none := I1.hok.fresh (Nat.le_refl _)
    have I2 := I1.laid (t' := tk) (o := .lst _) (h' := h'.push { cls := .type "list", data := .seq (us').toArray }) (fun b u e => Heap.get?_push_of_some _ e) (Nat.le_refl _) ⟨by omega, us', 0, r2, Heap.get?_push_size _ rfl⟩
    exact h.run pins _ σ _ [y, .ref h'.objs.size] _ Q I2 (.cons (by simpa using r1) (.cons rfl .nil)) (hw _ hf)
section
variable {K : PySem.W.Frag} {W0 : Wd} {Γ : Gm} {vs : List Nat}
theorem wpG_star {t : TGs} {ds : List PyData} {d : PyData} {es : List PyData} {P : Gm → Prop} (hd : ds = d :: es) (h : wpGs K W0 vs t [d, .list es] Γ P) : wpG K W0 vs (gStar K t) (.list ds) Γ P := fun W σ S v f Q k => by
  subst hd
  obtain ⟨a, us, rfl, q, fs⟩ := (f.lv S.ok).sq
  cases fs with
  | @cons y _ xs _ f1 f2 =>
    refine ⟨a, y, _, rfl, q, fun p hp => ?_⟩
    obtain ⟨e1, n1⟩ := S.ok.newL (K := K) hp f2
    obtain ⟨W2, h1, e2, f3⟩ := n1.freeze e1
    have h1' : W2.H = upd W.H p (.lst _) := h1
    rw [← h1']
    exact h W2 σ (S.mono e2) _ (.cons (Df.mono (e2.lf S.ok) _ _ f1) (.cons f3 .nil)) Q fun σ' Γ' W' e S' w p => k σ' Γ' W' (e2.trans e) S' w p
end
end G

set_option Elab.async false
set_option linter.all false
set_option autoImplicit false
set_option maxRecDepth 100000
set_option maxHeartbeats 4000000
/-! G23: two own lists that a called def changes: one of data, one whose items are (data, an own list). -/
namespace G
open PySem L2
inductive Rows5 (K : PySem.W.Frag) (W0 W : Wd) : List Addr → List Addr → List (PyData × List PyData) → Prop where
  | nil : Rows5 K W0 W [] [] []
  | cons {t b : Addr} {f : V} {d : PyData} {xs : List PyData} {ts bs : List Addr} {sy : List (PyData × List PyData)} : W.H t = some (.tup [f, .ref b]) → Df K W f d → Mine K W0 W b xs → Rows5 K W0 W ts bs sy → Rows5 K W0 W (t :: ts) (b :: bs) ((d, xs) :: sy)
structure Bst (K : PySem.W.Frag) (W0 W : Wd) (m s : Addr) (ts bs : List Addr) (mk : List PyData) (sy : List (PyData × List PyData)) : Prop where
  mm : Mine K W0 W m mk
  s0 : W0.H s = none
  sF : ¬ W.Fz s
  sB : ¬ W.B s
  sH : W.H s = some (.lst (ts.map V.ref))
  rw : Rows5 K W0 W ts bs sy
  nd : (m :: s :: bs).Nodup
abbrev syD (sy : List (PyData × List PyData)) : PyData := .list (sy.map fun p => .tuple [p.1, .list p.2])
section
variable {K : PySem.W.Frag} {W0 W W' W1 : Wd} {σ : L2.St} {Γ : Gm} {m s : Addr} {ts bs : List Addr} {mk : List PyData} {sy : List (PyData × List PyData)}
theorem Rows5.mono (ok : Ok W) (e : Le W W') : ∀ {ts bs : List Addr} {sy : List (PyData × List PyData)}, Rows5 K W0 W ts bs sy → Rows5 K W0 W' ts bs sy
  | _, _, _, .nil => .nil
  | _, _, _, .cons h1 h2 h3 h4 => .cons ((e.lf ok).ex _ _ h1 (.inr fun z => z)) (Df.mono (e.lf ok) _ _ h2) (h3.mono ok e) (Rows5.mono ok e h4)
theorem Rows5.len : ∀ {ts bs : List Addr} {sy : List (PyData × List PyData)}, Rows5 K W0 W ts bs sy → ts.length = sy.length ∧ bs.length = sy.length
  | _, _, _, .nil => ⟨rfl, rfl⟩
  | _, _, _, .cons _ _ _ h4 => by
    obtain ⟨a, b⟩ := h4.len
    simp [a, b]
theorem Mine.other {a b : Addr} {us vs0 : List V} {xs : List PyData} (hH : W.H a = some (.lst vs0)) (lf : Lf W ⟨W.Fz, W.B, upd W.H a (.lst us)⟩) (ne : b ≠ a) (h : Mine K W0 W b xs) : Mine K W0 ⟨W.Fz, W.B, upd W.H a (.lst us)⟩ b xs := by
  obtain ⟨h2, h3, h4, vs, h5, h6⟩ := h
  exact ⟨h2, h3, h4, vs, by show upd W.H a _ b = _; rw [upd_ne ne]; exact h5, Dfs.mono lf _ _ h6⟩
theorem Rows5.other {a : Addr} {us vs0 : List V} (hH : W.H a = some (.lst vs0)) (lf : Lf W ⟨W.Fz, W.B, upd W.H a (.lst us)⟩) : ∀ {ts bs : List Addr} {sy : List (PyData × List PyData)}, a ∉ bs → Rows5 K W0 W ts bs sy → Rows5 K W0 ⟨W.Fz, W.B, upd W.H a (.lst us)⟩ ts bs sy
  | _, _, _, _, .nil => .nil
  | _, _, _, hn, .cons h1 h2 h3 h4 => .cons (lf.ex _ _ h1 (.inr fun z => z)) (Df.mono lf _ _ h2) (h3.other hH lf fun z => hn (by rw [← z]; exact List.mem_cons_self)) (Rows5.other hH lf (fun z => hn (List.mem_cons_of_mem _ z)) h4)
theorem Bst.mono (ok : Ok W) (S : Bst K W0 W m s ts bs mk sy) (e : Le W W') : Bst K W0 W' m s ts bs mk sy where
  mm := S.mm.mono ok e
  s0 := S.s0
  sF := fun f => by
    have := e.nf s f S.sF
    rw [S.sH] at this
    cases this
  sB := fun f => by
    have := e.nb s f S.sB
    rw [S.sH] at this
    cases this
  sH := e.ex _ _ S.sH S.sB
  rw := S.rw.mono ok e
  nd := S.nd
theorem Bst.parts (S : Bst K W0 W m s ts bs mk sy) : m ≠ s ∧ m ∉ bs ∧ s ∉ bs ∧ bs.Nodup := by
  have h := S.nd
  rw [List.nodup_cons, List.nodup_cons] at h
  exact ⟨fun z => h.1 (by rw [z]; exact List.mem_cons_self), fun z => h.1 (List.mem_cons_of_mem _ z), h.2.1, h.2.2⟩
/-- one more maker -/
theorem Bst.appM (ok : Ok W) (le : Le W0 W) (S : Bst K W0 W m s ts bs mk sy) {v : V} {d : PyData} (f : Df K W v d) : ∃ vs, W.H m = some (.lst vs) ∧ vs.length = mk.length ∧ Lf W ⟨W.Fz, W.B, upd W.H m (.lst (vs ++ [v]))⟩ ∧ Le W0 ⟨W.Fz, W.B, upd W.H m (.lst (vs ++ [v]))⟩ ∧ Bst K W0 ⟨W.Fz, W.B, upd W.H m (.lst (vs ++ [v]))⟩ m s ts bs (mk ++ [d]) sy := by
  obtain ⟨h2, h3, h4, vs, h5, h6⟩ := S.mm
  obtain ⟨p1, p2, p3, p4⟩ := S.parts
  have lf := ok.mutLf (o' := .lst (vs ++ [v])) h5 trivial h3 h4
  refine ⟨vs, h5, h6.length, lf, le.mut h5 h4 h2, ?_⟩
  exact {
    mm := ⟨h2, h3, h4, vs ++ [v], upd_same, (Dfs.mono lf _ _ h6).append (.cons (Df.mono lf _ _ f) .nil)⟩
    s0 := S.s0
    sF := S.sF
    sB := S.sB
    sH := by show upd W.H m _ s = _; rw [upd_ne (Ne.symm p1)]; exact S.sH
    rw := S.rw.other h5 lf p2
    nd := S.nd }
theorem Rows5.snoc {t b : Addr} {f : V} {d : PyData} {xs : List PyData} (h1 : W.H t = some (.tup [f, .ref b])) (h2 : Df K W f d) (h3 : Mine K W0 W b xs) : ∀ {ts bs : List Addr} {sy : List (PyData × List PyData)}, Rows5 K W0 W ts bs sy → Rows5 K W0 W (ts ++ [t]) (bs ++ [b]) (sy ++ [(d, xs)])
  | _, _, _, .nil => .cons h1 h2 h3 .nil
  | _, _, _, .cons a1 a2 a3 a4 => .cons a1 a2 a3 (a4.snoc h1 h2 h3)
/-- a list and a tuple are new; then the tuple is the last of the sayings -/
theorem Bst.appS (ok : Ok W) (le : Le W0 W) (S : Bst K W0 W m s ts bs mk sy) {v : V} {d : PyData} (f : Df K W v d) {q p : Addr} (hq : W.H q = none) (hp : (upd W.H q (.lst [])) p = none) :
    Lf W ⟨W.Fz, W.B, upd (upd (upd W.H q (.lst [])) p (.tup [v, .ref q])) s (.lst (ts.map V.ref ++ [.ref p]))⟩ ∧ Le W0 ⟨W.Fz, W.B, upd (upd (upd W.H q (.lst [])) p (.tup [v, .ref q])) s (.lst (ts.map V.ref ++ [.ref p]))⟩ ∧
      Bst K W0 ⟨W.Fz, W.B, upd (upd (upd W.H q (.lst [])) p (.tup [v, .ref q])) s (.lst (ts.map V.ref ++ [.ref p]))⟩ m s (ts ++ [p]) (bs ++ [q]) mk (sy ++ [(d, [])]) := by
  have e1 := ok.new (u := .lst []) hq
  have e2 := e1.ok.new (u := .tup [v, .ref q]) hp
  have e := e1.trans e2
  have S2 := S.mono ok e
  have okL := e.ok
  have f2 : Df K ⟨W.Fz, W.B, upd (upd W.H q (.lst [])) p (.tup [v, .ref q])⟩ v d := Df.mono (e.lf ok) _ _ f
  have hqB : ¬ W.B q := fun z => by
    obtain ⟨_, _, _, w⟩ := ok.bx q z
    rw [hq] at w
    cases w
  have hqF : ¬ W.Fz q := fun z => ok.fz q z hq
  have qp : q ≠ p := fun z => by
    rw [← z, upd_same] at hp
    cases hp
  have hq2 : (upd (upd W.H q (.lst [])) p (.tup [v, .ref q])) q = some (.lst []) := by
    rw [upd_ne qp, upd_same]
  have mq : Mine K W0 ⟨W.Fz, W.B, upd (upd W.H q (.lst [])) p (.tup [v, .ref q])⟩ q [] := ⟨le.fresh hq, hqF, hqB, [], hq2, .nil⟩
  have qs : q ≠ s := fun z => by
    rw [z, S.sH] at hq
    cases hq
  have qm : q ≠ m := fun z => by
    obtain ⟨_, _, _, vs, h5, _⟩ := S.mm
    rw [z, h5] at hq
    cases hq
  have qb : q ∉ bs := by
    have all : ∀ {ts bs : List Addr} {sy : List (PyData × List PyData)}, Rows5 K W0 W ts bs sy → q ∉ bs := by
      intro ts bs sy h
      induction h with
      | nil => exact fun z => nomatch z
      | cons a1 a2 a3 a4 ih =>
        intro z
        rcases List.mem_cons.mp z with e | e
        · obtain ⟨_, _, _, vs, h5, _⟩ := a3
          rw [← e, hq] at h5
          cases h5
        · exact ih e
    exact all S.rw
  have lf := okL.mutLf (o' := .lst (ts.map V.ref ++ [.ref p])) S2.sH trivial S2.sF S2.sB
  obtain ⟨p1, p2, p3, p4⟩ := S.parts
  refine ⟨(e.lf ok).trans lf, (le.trans e).mut S2.sH S2.sB S2.s0, ?_⟩
  exact {
    mm := S2.mm.other S2.sH lf p1
    s0 := S.s0
    sF := S.sF
    sB := S.sB
    sH := by show upd _ s _ s = _; rw [upd_same, List.map_append]; rfl
    rw := (Rows5.snoc (t := p) upd_same f2 mq S2.rw).other S2.sH lf (fun z => (List.mem_append.mp z).elim p3 fun z => qs (List.mem_singleton.mp z).symm)
    nd := by
      rw [List.nodup_cons, List.nodup_cons, List.nodup_append]
      refine ⟨fun z => ?_, fun z => ?_, p4, by simp, fun a ha b hb z => ?_⟩
      · rcases List.mem_cons.mp z with z | z
        · exact p1 z
        · exact (List.mem_append.mp z).elim p2 fun z => qm (List.mem_singleton.mp z).symm
      · exact (List.mem_append.mp z).elim p3 fun z => qs (List.mem_singleton.mp z).symm
      · rw [List.mem_singleton.mp hb] at z
        rw [z] at ha
        exact qb ha }
theorem Rows5.last : ∀ {ts bs : List Addr} {ps : List (PyData × List PyData)} {d : PyData} {xs : List PyData}, Rows5 K W0 W ts bs (ps ++ [(d, xs)]) → ∃ ts' bs' t b f, ts = ts' ++ [t] ∧ bs = bs' ++ [b] ∧ Rows5 K W0 W ts' bs' ps ∧ W.H t = some (.tup [f, .ref b]) ∧ Df K W f d ∧ Mine K W0 W b xs
  | _, _, [], d, xs, h => by
    cases h with
    | cons h1 h2 h3 h4 =>
      cases h4
      exact ⟨[], [], _, _, _, rfl, rfl, .nil, h1, h2, h3⟩
  | _, _, p :: ps, d, xs, h => by
    cases h with
    | cons h1 h2 h3 h4 =>
      obtain ⟨ts', bs', t, b, f, rfl, rfl, r, q1, q2, q3⟩ := h4.last
      exact ⟨_ :: ts', _ :: bs', t, b, f, rfl, rfl, .cons h1 h2 h3 r, q1, q2, q3⟩
/-- one more rule of the last saying -/
theorem Bst.appR {ps : List (PyData × List PyData)} {d0 : PyData} {xs : List PyData} (ok : Ok W) (le : Le W0 W) (S : Bst K W0 W m s ts bs mk (ps ++ [(d0, xs)])) {v : V} {d : PyData} (f : Df K W v d) :
    ∃ ts' t b g vs, ts = ts' ++ [t] ∧ W.H t = some (.tup [g, .ref b]) ∧ W.H b = some (.lst vs) ∧ vs.length = xs.length ∧ Lf W ⟨W.Fz, W.B, upd W.H b (.lst (vs ++ [v]))⟩ ∧ Le W0 ⟨W.Fz, W.B, upd W.H b (.lst (vs ++ [v]))⟩ ∧ Bst K W0 ⟨W.Fz, W.B, upd W.H b (.lst (vs ++ [v]))⟩ m s ts bs mk (ps ++ [(d0, xs ++ [d])]) := by
  obtain ⟨ts', bs', t, b, g, rfl, rfl, r, q1, q2, q3⟩ := S.rw.last
  obtain ⟨h2, h3, h4, vs, h5, h6⟩ := id q3
  obtain ⟨p1, p2, p3, p4⟩ := S.parts
  have lf := ok.mutLf (o' := .lst (vs ++ [v])) h5 trivial h3 h4
  have bm : b ≠ m := fun z => p2 (by rw [← z]; exact List.mem_append_right _ List.mem_cons_self)
  have bS : b ≠ s := fun z => p3 (by rw [← z]; exact List.mem_append_right _ List.mem_cons_self)
  have bb : b ∉ bs' := by
    rw [List.nodup_append] at p4
    exact fun z => p4.2.2 b z b List.mem_cons_self rfl
  refine ⟨ts', t, b, g, vs, rfl, q1, h5, h6.length, lf, le.mut h5 h4 h2, ?_⟩
  exact {
    mm := S.mm.other h5 lf (Ne.symm bm)
    s0 := S.s0
    sF := S.sF
    sB := S.sB
    sH := by show upd W.H b _ s = _; rw [upd_ne (Ne.symm bS)]; exact S.sH
    rw := Rows5.snoc (lf.ex _ _ q1 (.inr fun z => z)) (Df.mono lf _ _ q2) ⟨h2, h3, h4, vs ++ [v], upd_same, (Dfs.mono lf _ _ h6).append (.cons (Df.mono lf _ _ f) .nil)⟩ (r.other h5 lf bb)
    nd := S.nd }
theorem Rows5.data (lf : Lf W W1) (hH : W1.H = W.H) : ∀ {ts bs : List Addr} {sy : List (PyData × List PyData)}, (∀ b ∈ bs, W1.Fz b) → Rows5 K W0 W ts bs sy → Dfs K W1 (ts.map V.ref) (sy.map fun p => .tuple [p.1, .list p.2])
  | _, _, _, _, .nil => .nil
  | _, _, _, hz, .cons h1 h2 ⟨_, _, _, vs, h5, h6⟩ h4 => .cons (.tup (.inl (.inl (by rw [hH]; exact h1))) (.cons (Df.mono lf _ _ h2) (.cons (.lst (.inl ⟨.inl (by rw [hH]; exact h5), hz _ List.mem_cons_self⟩) (Dfs.mono lf _ _ h6)) .nil))) (Rows5.data lf hH (fun b hb => hz b (List.mem_cons_of_mem _ hb)) h4)
theorem Rows5.at_ : ∀ {ts bs : List Addr} {sy : List (PyData × List PyData)}, Rows5 K W0 W ts bs sy → ∀ b ∈ bs, W0.H b = none ∧ ¬ W.B b ∧ W.H b ≠ none
  | _, _, _, .nil, b, hb => nomatch hb
  | _, _, _, .cons _ _ ⟨a1, a2, a3, vs, a5, _⟩ h4, b, hb => (List.mem_cons.mp hb).elim (fun e => by
    rw [e]
    exact ⟨a1, a3, by rw [a5]; exact fun z => nomatch z⟩) (h4.at_ b)
end
structure Sat5 (K : PySem.W.Frag) (W0 W : Wd) (σ : L2.St) (Γ : Gm) (r1 r2 : Nat) (m s : Addr) (ts bs : List Addr) (mk : List PyData) (sy : List (PyData × List PyData)) : Prop where
  sat : Sat K W0 W σ Γ
  n1 : Γ[r1]? = some .no
  n2 : Γ[r2]? = some .no
  own : noOwn Γ
  v1 : σ[r1]? = some (some (.ref m))
  v2 : σ[r2]? = some (some (.ref s))
  st : Bst K W0 W m s ts bs mk sy
structure AE5 where
  nx : Gm → List PyData → List (PyData × List PyData) → Prop
  rt : PyData → List PyData → List (PyData × List PyData) → Prop
  rs : Rs → Prop
structure Cn5 (K : PySem.W.Frag) (W0 W : Wd) (D : Ends) (r1 r2 : Nat) (m s : Addr) (A : AE5) : Prop where
  nx : ∀ Γ' W' σ' ts bs mk sy, Lf W W' → Sat5 K W0 W' σ' Γ' r1 r2 m s ts bs mk sy → A.nx Γ' mk sy → D.nx σ' W'.H
  rt : ∀ v W' d ts bs mk sy, Lf W W' → Le W0 W' → Df K W' v d → Bst K W0 W' m s ts bs mk sy → A.rt d mk sy → D.rt v W'.H
  rs : ∀ v W' q, Le W0 W' → RsOk K W0 W' v q → A.rs q → D.rt v W'.H
def go5 (K : PySem.W.Frag) (W0 : Wd) (t : TS) (Γ : Gm) (r1 r2 : Nat) (mk : List PyData) (sy : List (PyData × List PyData)) (A : AE5) : Prop := ∀ W σ D m s ts bs, Sat5 K W0 W σ Γ r1 r2 m s ts bs mk sy → Cn5 K W0 W D r1 r2 m s A → t D σ W.H
def wp5T (K : PySem.W.Frag) (W0 : Wd) (t : TT) (Γ : Gm) (r1 r2 : Nat) (mk : List PyData) (sy : List (PyData × List PyData)) (P : Bool → Prop) : Prop := ∀ W σ m s ts bs, Sat5 K W0 W σ Γ r1 r2 m s ts bs mk sy → ∀ Q : Bool → Hp → Prop, (∀ W' b, Le W W' → P b → Q b W'.H) → t σ W.H Q
section
variable {K : PySem.W.Frag} {W0 W W' W1 : Wd} {σ : L2.St} {Γ : Gm} {r1 r2 : Nat} {m s : Addr} {ts bs : List Addr} {mk : List PyData} {sy : List (PyData × List PyData)} {D : Ends} {A : AE5} {t u : TS} {te ta : TE} {tt tu : TT}
theorem Sat5.mono (S : Sat5 K W0 W σ Γ r1 r2 m s ts bs mk sy) (e : Le W W') : Sat5 K W0 W' σ Γ r1 r2 m s ts bs mk sy :=
  { S with
    sat := S.sat.mono e
    st := S.st.mono S.sat.ok e }
theorem Sat5.setD (S : Sat5 K W0 W σ Γ r1 r2 m s ts bs mk sy) {i : Nat} {v : V} {x : PyData} (h1 : i ≠ r1) (h2 : i ≠ r2) (h : Df K W v x) : Sat5 K W0 W (σ.set i (some v)) (Γ.set i (.d x)) r1 r2 m s ts bs mk sy :=
  { S with
    sat := S.sat.setD i h
    n1 := by rw [List.getElem?_set, if_neg h1]; exact S.n1
    n2 := by rw [List.getElem?_set, if_neg h2]; exact S.n2
    own := S.own.set rfl
    v1 := by rw [List.getElem?_set, if_neg h1]; exact S.v1
    v2 := by rw [List.getElem?_set, if_neg h2]; exact S.v2 }
theorem Sat5.put {ts' bs' : List Addr} {mk' : List PyData} {sy' : List (PyData × List PyData)} (S : Sat5 K W0 W σ Γ r1 r2 m s ts bs mk sy) (lf : Lf W W') (le : Le W0 W') (b : Bst K W0 W' m s ts' bs' mk' sy') : Sat5 K W0 W' σ Γ r1 r2 m s ts' bs' mk' sy' :=
  { sat := S.sat.mutN S.own lf le
    n1 := S.n1
    n2 := S.n2
    own := S.own
    v1 := S.v1
    v2 := S.v2
    st := b }
theorem Cn5.later (c : Cn5 K W0 W D r1 r2 m s A) (e : Lf W W') : Cn5 K W0 W' D r1 r2 m s A :=
  ⟨fun Γ' W2 σ' ts bs mk sy f => c.nx Γ' W2 σ' ts bs mk sy (e.trans f), fun v W2 d ts bs mk sy f => c.rt v W2 d ts bs mk sy (e.trans f), c.rs⟩
theorem go5_seq (h : go5 K W0 t Γ r1 r2 mk sy { A with nx := fun Γ' k y => go5 K W0 u Γ' r1 r2 k y A }) : go5 K W0 (tSeq t u) Γ r1 r2 mk sy A := fun W σ D m s ts bs S c =>
  h W σ { D with nx := u D } m s ts bs S ⟨fun Γ' W' σ' ts bs k y f S' g => g W' σ' D m s ts bs S' (c.later f), c.rt, c.rs⟩
theorem go5_next (p : A.nx Γ mk sy) : go5 K W0 tNext Γ r1 r2 mk sy A := fun W σ D m s ts bs S c => c.nx Γ W σ ts bs mk sy (.refl S.sat.ok) S p
theorem go5_asg {i : Nat} (h1 : i ≠ r1) (h2 : i ≠ r2) (h : wpE K W0 te Γ fun d => A.nx (Γ.set i (.d d)) mk sy) : go5 K W0 (tAsg te (gName i)) Γ r1 r2 mk sy A := fun W σ D m s ts bs S c =>
  h W σ S.sat _ fun v W' d e f p => c.nx _ W' _ ts bs mk sy (e.lf S.sat.ok) ((S.mono e).setD h1 h2 f) p
theorem go5_ret (h : wpE K W0 te Γ fun d => A.rt d mk sy) : go5 K W0 (tRet te) Γ r1 r2 mk sy A := fun W σ D m s ts bs S c =>
  h W σ S.sat _ fun v W' d e f p => c.rt v W' d ts bs mk sy (e.lf S.sat.ok) (S.sat.le.trans e) f (S.st.mono S.sat.ok e) p
theorem go5_if (h : wp5T K W0 tt Γ r1 r2 mk sy fun b => (b = true → go5 K W0 t Γ r1 r2 mk sy A) ∧ (b = false → go5 K W0 u Γ r1 r2 mk sy A)) : go5 K W0 (tIfS tt t u) Γ r1 r2 mk sy A := fun W σ D m s ts bs S c =>
  h W σ m s ts bs S _ fun W' b e p => by
    cases b with
    | true =>
      show t D σ W'.H
      exact p.1 rfl W' σ D m s ts bs (S.mono e) (c.later (e.lf S.sat.ok))
    | false =>
      show u D σ W'.H
      exact p.2 rfl W' σ D m s ts bs (S.mono e) (c.later (e.lf S.sat.ok))
theorem wp5T_of {P : Bool → Prop} (h : wpT K W0 tt Γ P) : wp5T K W0 tt Γ r1 r2 mk sy P := fun W σ m s ts bs S Q k => h W σ S.sat Q k
theorem wp5T_and {P : Bool → Prop} (h : wp5T K W0 tt Γ r1 r2 mk sy fun b => (b = true → wp5T K W0 tu Γ r1 r2 mk sy P) ∧ (b = false → P false)) : wp5T K W0 (tAnd tt tu) Γ r1 r2 mk sy P := fun W σ m s ts bs S Q k => h W σ m s ts bs S _ fun W1 b e p => by
  cases b with
  | true =>
    show tu σ W1.H Q
    exact p.1 rfl W1 σ m s ts bs (S.mono e) Q fun W2 c e2 q => k W2 c (e.trans e2) q
  | false =>
    show Q false W1.H
    exact k W1 false e (p.2 rfl)
/-- len(r2) op i -/
theorem wp5T_len {r : R2} {i : Int} {P : Bool → Prop} (h : opR K r (.int (sy.length : Nat)) (.int i) fun d => ∃ b, d = .bool b ∧ P b) : wp5T K W0 (tTest (tOp r (tCB (rLen K) (tCons (tVar r2) tNil)) (tC (.int i)))) Γ r1 r2 mk sy P := fun W σ m s ts bs S Q k => by
  obtain ⟨l1, l2⟩ := S.st.rw.len
  refine ⟨_, S.v2, .ref s, sy.length, rfl, ?_, ?_⟩
  · have e : sy.length = (ts.map V.ref).length := by rw [List.length_map, l1]
    rw [e]
    exact .inl ⟨_, .inl (.inl S.st.sH), rfl⟩
  · refine h W _ _ S.sat.ok (.int _) (.int _) _ fun z W' d e f ⟨b, hd, p⟩ => ?_
    subst hd
    cases f.bool_inv
    exact ⟨b, rfl, k W' b e p⟩
/-- makers.append(e) -/
theorem go5_appM (h : wpE K W0 te Γ fun d => mk.length < 1000000 ∧ A.nx Γ (mk ++ [d]) sy) : go5 K W0 (tDrop (tBM K "list" rAppend (tVar r1) (tCons te tNil))) Γ r1 r2 mk sy A := fun W σ D m s ts bs S c => by
  have hsz : sizeLine = 16777216 := sizeLine_eq
  obtain ⟨_, _, _, vs0, h0, _⟩ := S.st.mm
  refine ⟨_, S.v1, .inl ⟨rfl, vs0, .inl (.inl h0)⟩, h W σ S.sat _ fun v W1 d e f ⟨hl, p⟩ => ?_⟩
  have S1 := S.mono e
  obtain ⟨vs, h1, hlen, lf, le, b⟩ := S1.st.appM S1.sat.ok S1.sat.le f
  exact ⟨m, vs, v, rfl, rfl, h1, by rw [hlen]; omega, c.nx Γ _ σ ts bs _ _ ((e.lf S.sat.ok).trans lf) (S1.put lf le b) p⟩
/-- sayings.append((e, [])) -/
theorem go5_appS (h : wpE K W0 te Γ fun d => sy.length < 1000000 ∧ A.nx Γ mk (sy ++ [(d, [])])) : go5 K W0 (tDrop (tBM K "list" rAppend (tVar r2) (tCons (tTup (tCons te (tCons (tLst tNil) tNil))) tNil))) Γ r1 r2 mk sy A := fun W σ D m s ts bs S c => by
  have hsz : sizeLine = 16777216 := sizeLine_eq
  refine ⟨_, S.v2, .inl ⟨rfl, _, .inl (.inl S.st.sH)⟩, h W σ S.sat _ fun v W1 d e f ⟨hl, p⟩ => ?_⟩
  have S1 := S.mono e
  refine ⟨Nat.zero_le _, fun q hq => ⟨by show 2 ≤ sizeLine; omega, fun t ht => ?_⟩⟩
  obtain ⟨lf, le, b⟩ := S1.st.appS S1.sat.ok S1.sat.le f hq ht
  obtain ⟨l1, l2⟩ := S1.st.rw.len
  refine ⟨s, ts.map V.ref, .ref t, rfl, rfl, ?_, by rw [List.length_map, l1]; omega, c.nx Γ _ σ _ _ _ _ ((e.lf S.sat.ok).trans lf) (S1.put lf le b) p⟩
  have e2 := (S1.sat.ok.new (u := .lst []) hq)
  have e3 := e2.ok.new (u := .tup [v, .ref q]) ht
  exact (e2.trans e3).ex _ _ S1.st.sH S1.st.sB
/-- sayings[-1][1].append(e) -/
theorem go5_appR {ps : List (PyData × List PyData)} {d0 : PyData} {xs : List PyData} (hs : sy = ps ++ [(d0, xs)]) (h : wpE K W0 te Γ fun d => xs.length < 1000000 ∧ A.nx Γ mk (ps ++ [(d0, xs ++ [d])])) :
    go5 K W0 (tDrop (tBM K "list" rAppend (tOp (rIx K) (tOp (rIx K) (tVar r2) (tUn (rU fun i => .int (-i)) (tC (.int 1)))) (tC (.int 1))) (tCons te tNil))) Γ r1 r2 mk sy A := fun W σ D m s ts bs S c => by
  have hsz : sizeLine = 16777216 := sizeLine_eq
  subst hs
  obtain ⟨ts', bs', t, b, g, rfl, rfl, r, q1, q2, q3⟩ := S.st.rw.last
  obtain ⟨_, _, _, vs0, h0, _⟩ := id q3
  refine ⟨_, S.v2, 1, rfl, ?_⟩
  refine .inl ⟨s, (ts' ++ [t]).map V.ref, -1, .ref t, rfl, rfl, .inl (.inl S.st.sH), by rw [List.map_append]; exact atI_last _ _, ?_⟩
  refine .inr (.inl ⟨t, [g, .ref b], 1, .ref b, rfl, rfl, .inl (.inl q1), rfl, ?_⟩)
  refine ⟨.inl ⟨rfl, vs0, .inl (.inl h0)⟩, h W σ S.sat _ fun v W1 d e f ⟨hl, p⟩ => ?_⟩
  have S1 := S.mono e
  obtain ⟨ts2, t2, b2, g2, vs, e1, e2, e3, e4, lf, le, bst⟩ := S1.st.appR S1.sat.ok S1.sat.le f
  have et : t = t2 := by
    have := List.append_inj_right' e1 rfl
    exact (List.cons.inj this).1
  subst et
  have q4 := (e.lf S.sat.ok).ex _ _ q1 (.inr fun z => z)
  rw [q4] at e2
  cases e2
  exact ⟨b, vs, v, rfl, rfl, e3, by rw [e4]; omega, c.nx Γ _ σ _ _ _ _ ((e.lf S.sat.ok).trans lf) (S1.put lf le bst) p⟩
theorem go5_for {wi : TI} {g : TG} (vs : List Nat) (h1v : r1 ∉ vs) (h2v : r2 ∉ vs)
    (h : wpI K W0 wi Γ fun ds => ∃ Iv : Nat → Gm → List PyData → List (PyData × List PyData) → Prop, Iv 0 Γ mk sy ∧ (∀ (i : Nat) (d : PyData) (Γ' : Gm) k y, ds[i]? = some d → Iv i Γ' k y → wpG K W0 vs g d Γ' fun Γ2 => noOwn Γ2 ∧ Γ2[r1]? = some .no ∧ Γ2[r2]? = some .no ∧ go5 K W0 t Γ2 r1 r2 k y { A with nx := Iv (i + 1) }) ∧ ∀ Γ' k y, Iv ds.length Γ' k y → A.nx Γ' k y) : go5 K W0 (tFor wi g t) Γ r1 r2 mk sy A := fun W σ D m s ts bs S c =>
  h W σ S.sat _ fun W1 J ds e1 it ⟨Iv, i0, hs, hd⟩ => by
    refine ⟨fun i n σ' H => n = ds.length - i ∧ i ≤ ds.length ∧ ∃ W2 Γ' ts2 bs2 k y, W2.H = H ∧ Lf W1 W2 ∧ Sat5 K W0 W2 σ' Γ' r1 r2 m s ts2 bs2 k y ∧ Iv i Γ' k y, ⟨ds.length, by simp, Nat.zero_le _, W1, Γ, ts, bs, mk, sy, rfl, .refl e1.ok, S.mono e1, i0⟩, ?_⟩
    rintro i n σ' H ⟨rfl, hi, W2, Γ', ts2, bs2, k, y, rfl, f2, S2, hI⟩
    have c2 := c.later ((e1.lf S.sat.ok).trans f2)
    by_cases hlt : i < ds.length
    · refine .inr ⟨it.go W2 i f2 hlt, fun σ' H' => ∃ W3 Γ3 ts3 bs3 k3 y3, W3.H = H' ∧ Lf W1 W3 ∧ Sat5 K W0 W3 σ' Γ3 r1 r2 m s ts3 bs3 k3 y3 ∧ Iv (i + 1) Γ3 k3 y3, fun σ' H' q => ⟨ds.length - (i + 1), by omega, rfl, hlt, q⟩, fun x H' hy => ?_⟩
      obtain ⟨W3, rfl, e3, f3⟩ := it.yld W2 i x H' ds[i] f2 S2.sat.ok (List.getElem?_eq_getElem hlt) hy
      have S3 := S2.mono e3
      refine hs i ds[i] Γ' k y (List.getElem?_eq_getElem hlt) hI W3 σ' S3.sat x f3 _ fun σ4 Γ4 W4 e4 S4 keep ⟨no4, n1, n2, hgo⟩ => ?_
      have f4 : Lf W1 W4 := f2.trans ((e3.trans e4).lf S2.sat.ok)
      have S5 : Sat5 K W0 W4 σ4 Γ4 r1 r2 m s ts2 bs2 k y := {
        sat := S4
        n1 := n1
        n2 := n2
        own := no4
        v1 := by rw [← wipe_at h1v, keep, wipe_at h1v]; exact S3.v1
        v2 := by rw [← wipe_at h2v, keep, wipe_at h2v]; exact S3.v2
        st := S3.st.mono S3.sat.ok e4 }
      exact hgo W4 σ4 _ m s ts2 bs2 S5 ⟨fun Γ5 W5 σ5 ts5 bs5 k5 y5 f5 T5 q => ⟨W5, Γ5, ts5, bs5, k5, y5, rfl, f4.trans f5, T5, q⟩, fun v W5 d ts5 bs5 k5 y5 f5 => c2.rt v W5 d ts5 bs5 k5 y5 (((e3.trans e4).lf S2.sat.ok).trans f5), c2.rs⟩
    · have e : i = ds.length := by omega
      subst e
      exact .inl ⟨it.stop W2 _ f2 (Nat.le_refl _), c2.nx Γ' W2 σ' ts2 bs2 k y (.refl S2.sat.ok) S2 (hd Γ' k y hI)⟩
/-- the promise of a def that changes the two lists and tells True -/
def spPut (K : PySem.W.Frag) (pre : PyData → List PyData → List (PyData × List PyData) → Prop) (post : PyData → List PyData → List (PyData × List PyData) → List PyData → List (PyData × List PyData) → Prop) : Sp := fun vs H Q _ =>
  ∃ (W0 W : Wd) (m s : Addr) (ts bs : List Addr) (v : V) (d : PyData) (mk : List PyData) (sy : List (PyData × List PyData)), vs = [v, .ref m, .ref s] ∧ W.H = H ∧ Le W0 W ∧ Df K W v d ∧ Bst K W0 W m s ts bs mk sy ∧ pre d mk sy ∧
    ∀ W' ts' bs' mk' sy', Lf W W' → Le W0 W' → Bst K W0 W' m s ts' bs' mk' sy' → post d mk sy mk' sy' → Q (.bl true) W'.H
/-- if not f(e, r1, r2): never -/
theorem go5_put {pre : PyData → List PyData → List (PyData × List PyData) → Prop} {post : PyData → List PyData → List (PyData × List PyData) → List PyData → List (PyData × List PyData) → Prop} {E : XK}
    (h : wpE K W0 te Γ fun d => pre d mk sy ∧ ∀ k y, post d mk sy k y → go5 K W0 u Γ r1 r2 k y A) : go5 K W0 (tIfS (tNot (tTest (tCall (spPut K pre post) [] E (tCons te (tCons (tVar r1) (tCons (tVar r2) tNil)))))) t u) Γ r1 r2 mk sy A := fun W σ D m s ts bs S c =>
  h W σ S.sat _ fun v W1 d e f ⟨hp, hq⟩ => by
    have S1 := S.mono e
    refine ⟨_, S.v1, _, S.v2, W0, W1, m, s, ts, bs, v, d, mk, sy, rfl, rfl, S1.sat.le, f, S1.st, hp, fun W' ts' bs' k y lf le b hk => ⟨true, rfl, ?_⟩⟩
    show u D σ W'.H
    exact hq k y hk W' σ D m s ts' bs' (S1.put lf le b) (c.later ((e.lf S.sat.ok).trans lf))
theorem fn_ok5 {P : Program} {w : World} {mg : Str → Option Value} {base : Heap} {x qual : Str} {st : Stmt} {f : Addr} {fd : FuncData} {N ps : List Str} {k : Nat} {pre : PyData → List PyData → List (PyData × List PyData) → Prop} {post : PyData → List PyData → List (PyData × List PyData) → List PyData → List (PyData × List PyData) → Prop}
    (F : Fun K x qual st f fd) (S : FnScope N ps (defScope st)) (len : ps.length = 3) (hN : 3 ≤ N.length)
    (h : ∀ (cdv : Value) (A : Around) (outer : List PySem.Env) (s : Shared) (H : Hp) (E : XK), Room k (A.deeper (PyProof.Rows.envOfC qual (defScope st) s.heap.objs.size f cdv)) →
      ∃ t, PSs (cxOf CX0 P w K mg base N qual (defScope st) f cdv A outer s H E).nox (defBody st) t ∧ ∀ W0 d mk sy, pre d mk sy → go5 K W0 t ([.d d, .no, .no] ++ List.replicate (N.length - 3) .no) 1 2 mk sy ⟨fun _ _ _ => False, fun r k y => r = .bool true ∧ post d mk sy k y, fun _ => False⟩) :
    FnOk P w K mg base CX0 (k + 1) f fd ps (spPut K pre post) := by
  refine F.ok S (fun vs H Q E hs => ?_) (fun cdv A outer s H vs Q E hr hs => ?_)
  · obtain ⟨_, _, _, _, _, _, _, _, _, _, rfl, _⟩ := hs
    exact len.symm
  · obtain ⟨t, h1, h2⟩ := h cdv A outer s H E hr
    refine ⟨t, h1, ?_⟩
    obtain ⟨W0, W, m, s, ts, bs, v, d, mk, sy, rfl, rfl, le, df, bst, hp, hq⟩ := hs
    have st0 : Sat K W0 W (L2.start N [v, .ref m, .ref s]) ([.d d, .no, .no] ++ List.replicate (N.length - 3) .no) := by
      refine ⟨le, fun i s h => ?_, fun i j xs ys a _ h o _ _ _ _ => ?_⟩
      · unfold L2.start
        match i, h with
        | 0, h => cases h; exact ⟨some v, rfl, df⟩
        | 1, h => cases h; exact ⟨some (.ref _), rfl, trivial⟩
        | 2, h => cases h; exact ⟨some (.ref _), rfl, trivial⟩
        | i + 3, h =>
          have h' : (List.replicate (N.length - 3) Sl.no)[i]? = some s := h
          rw [List.getElem?_replicate] at h'
          split at h'
          · rename_i q
            cases h'
            refine ⟨none, ?_, trivial⟩
            show (List.replicate (N.length - 3) none)[i]? = _
            rw [List.getElem?_replicate, if_pos q]
          · cases h'
      · match i, h with
        | 0, h => cases h; cases o
        | 1, h => cases h; cases o
        | 2, h => cases h; cases o
        | i + 3, h =>
          have h' : (List.replicate (N.length - 3) Sl.no)[i]? = some xs := h
          rw [List.getElem?_replicate] at h'
          split at h'
          · cases h'
            cases o
          · cases h'
    refine h2 W0 d mk sy hp W _ _ m s ts bs { sat := st0, n1 := rfl, n2 := rfl, own := fun i sl hi => ?_, v1 := rfl, v2 := rfl, st := bst } ⟨fun _ _ _ _ _ _ _ _ _ z => z.elim, fun v W' r ts' bs' k y lf le' df' b ⟨hr, hk⟩ => ?_, fun _ _ _ _ _ z => z.elim⟩
    · rcases List.mem_append.mp (List.mem_of_getElem? hi) with z | z
      · rcases List.mem_cons.mp z with e | z
        · rw [e]; rfl
        rcases List.mem_cons.mp z with e | z
        · rw [e]; rfl
        rw [List.mem_singleton.mp z]; rfl
      · rw [List.eq_of_mem_replicate z]; rfl
    · subst hr
      cases df'.bool_inv
      exact hq W' ts' bs' k y lf le' b hk
/-- r1 = []; r2 = []; .. -/
theorem go_new5 {A : AE} (h1 : r1 < Γ.length) (h2 : r2 < Γ.length) (h12 : r1 ≠ r2) (no : noOwn Γ) (h : go5 K W0 t ((Γ.set r1 .no).set r2 .no) r1 r2 [] [] ⟨fun _ _ _ => False, fun _ _ _ => False, A.rt⟩) :
    go K W0 (tSeq (tAsg (tLst tNil) (gName r1)) (tSeq (tAsg (tLst tNil) (gName r2)) t)) Γ A := fun W σ D S c => by
  refine ⟨Nat.zero_le _, fun q hq => ?_⟩
  have e1 := S.ok.new (u := .lst []) hq
  refine ⟨Nat.zero_le _, fun p hp => ?_⟩
  have e2 := e1.ok.new (u := .lst []) hp
  have e := e1.trans e2
  have qp : q ≠ p := fun z => by
    rw [← z, upd_same] at hp
    cases hp
  have fr : ∀ a, W.H a = none → ¬ W.Fz a ∧ ¬ W.B a := fun a ha => ⟨fun z => S.ok.fz a z ha, fun z => by
    obtain ⟨_, _, _, w⟩ := S.ok.bx a z
    rw [ha] at w
    cases w⟩
  have hp0 : W.H p = none := e1.fresh hp
  have S1 : Sat K W0 ⟨W.Fz, W.B, upd (upd W.H q (.lst [])) p (.lst [])⟩ ((σ.set r1 (some (.ref q))).set r2 (some (.ref p))) ((Γ.set r1 .no).set r2 .no) :=
    (((S.mono e).set r1 (show SlOk K W0 _ (some (.ref q)) .no from trivial) (fun z => by cases z)).set r2 (show SlOk K W0 _ (some (.ref p)) .no from trivial) (fun z => by cases z))
  refine h ⟨W.Fz, W.B, upd (upd W.H q (.lst [])) p (.lst [])⟩ _ D q p [] [] {
    sat := S1
    n1 := by rw [List.getElem?_set, if_neg (Ne.symm h12), List.getElem?_set, if_pos rfl, if_pos h1]
    n2 := by rw [List.getElem?_set, if_pos rfl, if_pos (by rw [List.length_set]; exact h2)]
    own := (no.set rfl).set rfl
    v1 := by rw [List.getElem?_set, if_neg (Ne.symm h12), List.getElem?_set, if_pos rfl, if_pos (S.len h1)]
    v2 := by rw [List.getElem?_set, if_pos rfl, if_pos (by rw [List.length_set]; exact S.len h2)]
    st := {
      mm := ⟨S.le.fresh hq, (fr q hq).1, (fr q hq).2, [], by show upd _ p _ q = _; rw [upd_ne qp, upd_same], .nil⟩
      s0 := S.le.fresh hp0
      sF := (fr p hp0).1
      sB := (fr p hp0).2
      sH := upd_same
      rw := .nil
      nd := by simp [qp] } } ⟨fun _ _ _ _ _ _ _ _ _ z => z.elim, fun _ _ _ _ _ _ _ _ _ _ _ z => z.elim, fun v W' x e' r' p => c.rt v W' x e' r' p⟩
/-- from here on the two lists are data -/
theorem go5_data (h12 : r1 ≠ r2) (h : go K W0 t ((Γ.set r1 (.d (.list mk))).set r2 (.d (syD sy))) ⟨fun _ => False, A.rs, fun _ => False, fun _ => False⟩) : go5 K W0 t Γ r1 r2 mk sy A := fun W σ D m s ts bs S c => by
  obtain ⟨a1, a2, a3, vs, a5, a6⟩ := S.st.mm
  have at_ := S.st.rw.at_
  have okV : Ok ⟨fun b => W.Fz b ∨ b = m ∨ b = s ∨ b ∈ bs, W.B, W.H⟩ := ⟨fun b hb => by
    rcases hb with hb | rfl | rfl | hb
    · exact S.sat.ok.fz b hb
    · show W.H b ≠ none
      rw [a5]
      exact fun z => nomatch z
    · show W.H b ≠ none
      rw [S.st.sH]
      exact fun z => nomatch z
    · exact (at_ b hb).2.2, S.sat.ok.bx, fun b hb => by
    rcases hb with hb | rfl | rfl | hb
    · exact S.sat.ok.fb b hb
    · exact a3
    · exact S.st.sB
    · exact (at_ b hb).2.1⟩
  have lf : Lf W ⟨fun b => W.Fz b ∨ b = m ∨ b = s ∨ b ∈ bs, W.B, W.H⟩ := ⟨okV, fun b hb => .inl hb, fun b hb => hb, fun b o q _ => q⟩
  have le : Le W0 ⟨fun b => W.Fz b ∨ b = m ∨ b = s ∨ b ∈ bs, W.B, W.H⟩ := ⟨okV, fun b hb => .inl (S.sat.le.fz b hb), S.sat.le.b, S.sat.le.ex, fun b hb n => by
    rcases hb with hb | rfl | rfl | hb
    · exact S.sat.le.nf b hb n
    · exact a1
    · exact S.st.s0
    · exact (at_ b hb).1, S.sat.le.nb⟩
  have dm : Df K ⟨fun b => W.Fz b ∨ b = m ∨ b = s ∨ b ∈ bs, W.B, W.H⟩ (.ref m) (.list mk) := .lst (.inl ⟨.inl a5, .inr (.inl rfl)⟩) (Dfs.mono lf _ _ a6)
  have ds : Df K ⟨fun b => W.Fz b ∨ b = m ∨ b = s ∨ b ∈ bs, W.B, W.H⟩ (.ref s) (syD sy) := .lst (.inl ⟨.inl S.st.sH, .inr (.inr (.inl rfl))⟩) (S.st.rw.data lf rfl fun b hb => .inr (.inr (.inr hb)))
  have S1 : Sat K W0 ⟨fun b => W.Fz b ∨ b = m ∨ b = s ∨ b ∈ bs, W.B, W.H⟩ σ ((Γ.set r1 (.d (.list mk))).set r2 (.d (syD sy))) := by
    refine ⟨le, fun i sl h => ?_, fun i j sa sb a _ h1 o1 _ _ _ _ => ?_⟩
    · rcases get_set h with ⟨e, g, rfl⟩ | ⟨e, g⟩
      · subst e
        exact ⟨_, S.v2, ds⟩
      · rcases get_set g with ⟨e', g', rfl⟩ | ⟨e', g'⟩
        · subst e'
          exact ⟨_, S.v1, dm⟩
        · have no := S.own i sl g'
          obtain ⟨o, q1, q2⟩ := S.sat.sl i sl g'
          refine ⟨o, q1, ?_⟩
          cases sl with
          | no => cases o <;> trivial
          | d x =>
            cases o with
            | none => exact q2
            | some v => exact Df.mono lf _ _ q2
          | l _ => cases no
          | k _ => cases no
    · have no : noOwn ((Γ.set r1 (.d (.list mk))).set r2 (.d (syD sy))) := (S.own.set rfl).set rfl
      rw [no i sa h1] at o1
      cases o1
  exact h ⟨fun b => W.Fz b ∨ b = m ∨ b = s ∨ b ∈ bs, W.B, W.H⟩ σ D S1 ⟨fun _ _ _ _ _ z => z.elim, fun v W' q e r p => c.rs v W' q e r p, fun _ _ _ _ _ z => z.elim, fun _ _ _ _ _ z => z.elim⟩
end
end G

set_option Elab.async false
set_option linter.all false
set_option autoImplicit false
set_option maxRecDepth 100000
set_option maxHeartbeats 4000000
/-! G24: tuple(zip(x, y)); t[::2], t[1::2]; a table of defs, a call of what it holds. -/
namespace ZL
open PySem
open PySem.Sem (wp)
def StB (tup : Bool) (i1 i2 l1 l2 : Addr) (xs ys : Array Value) (k : Nat) (h : Heap) : Prop := match tup with
  | false => h.IsListIter i1 l1 k ∧ h.IsListIter i2 l2 k ∧ h.IsList l1 xs ∧ h.IsList l2 ys
  | true => h.IsTupleIter i1 l1 k ∧ h.IsTupleIter i2 l2 k ∧ h.IsTuple l1 xs ∧ h.IsTuple l2 ys
theorem zs_any {prog : Program} {w : World} {A : Around} {z TI TO i1 i2 l1 l2 S : Addr} {xs ys : Array Value} (tup : Bool) (calm : A.handled = none) (D : ZipApart z TI TO i1 i2 l1 l2) :
    Zs prog w A z TI TO i1 i2 l1 l2 S xs ys (StB tup i1 i2 l1 l2 xs ys) := by
  cases tup with
  | false => exact zs_list calm D
  | true => exact zs_tuple calm D
section
variable {prog : Program} {w : World} {A : Around} {E : Value → Shared → Prop} {s : Shared} {z TI TO i1 i2 l1 l2 : Addr} {xs ys : Array Value}
theorem zl_collect {R : List Value → Shared → Prop} (tup : Bool) (calm : A.handled = none) (D : ZipApart z TI TO i1 i2 l1 l2) (far : Far s.heap.objs.size z TI TO i1 i2 l1 l2) (few : min xs.size ys.size ≤ sizeLine)
    (zip : IsZip s.heap z TI TO .none) (outp : ∃ a b, IsPair s.heap TO a b) (its : IsPair s.heap TI (.ref i1) (.ref i2)) (st : StB tup i1 i2 l1 l2 xs ys 0 s.heap)
    (hQ : ∀ (h' : Heap) (tk : Nat) (as : List Addr), (∀ b o, b ≠ z → b ≠ TO → b ≠ i1 → b ≠ i2 → s.heap.get? b = some o → h'.get? b = some o) → s.heap.objs.size < h'.objs.size → as.length = min xs.size ys.size → Got xs ys s.heap.objs.size h' as → R (as.map Value.ref) { s with heap := h', toks := tk }) :
    wpAny (model prog w) A (collect (.ref z)) R E s := by
  unfold collect
  refine wpAny_bind (wpAny_runValue (codeAny_builtin PySem.F.entry_proto_collect ?_))
  rw [Around.under_plainId PySem.F.plain_proto_collect _]
  show wpAny _ A.in1 (newList [] >>= fun l => again (.builtin "list.__iadd__" ⟨[l, .ref z], []⟩)) _ _ s
  refine wpAny_bind (wpAny_newObj_type ?_)
  refine wpAny_pure ⟨plainId_quiet PySem.F.plain_list_iadd _, codeAny_builtin PySem.F.entry_list_iadd ?_⟩
  rw [Around.under_plainId PySem.F.plain_list_iadd _]
  have lS : (s.heap.push { cls := .type "list", data := .seq ([] : List Value).toArray }).get? s.heap.objs.size = some { cls := .type "list", data := .seq #[] } := Heap.get?_push_size _ rfl
  have stay : ∀ b o, s.heap.get? b = some o → (s.heap.push { cls := .type "list", data := .seq ([] : List Value).toArray }).get? b = some o := fun b o e => Heap.get?_push_of_some _ e
  show wpAny _ A.in1 (Builtin.List.listExtendWith (.ref s.heap.objs.size) (.ref z) (.ref s.heap.objs.size)) _ _ _
  have Z : Zs prog w A.in1 z TI TO i1 i2 l1 l2 s.heap.objs.size xs ys (StB tup i1 i2 l1 l2 xs ys) := zs_any tup (show A.in1.handled = none from calm) D
  obtain ⟨a, b, outp⟩ := outp
  have key := zl_extend (A := A) (s := { s with heap := s.heap.push { cls := .type "list", data := .seq ([] : List Value).toArray } }) Z D far few (.ref s.heap.objs.size) (c₀ := 0)
    (R := fun (q : Result) (s' : Shared) => ∃ (h' : Heap) (tk : Nat) (acc' : Array Value) (c' : Nat) (as : List Addr), q = .ok (.ret (.ref s.heap.objs.size)) ∧ s' = { s with heap := h', toks := tk } ∧
      (∀ b o, b ≠ z → b ≠ TO → b ≠ i1 → b ≠ i2 → s.heap.get? b = some o → h'.get? b = some o) ∧ h'.get? s.heap.objs.size = some { cls := .type "list", dict := none, data := .seq acc' c', slots := #[] } ∧ as.length = min xs.size ys.size ∧ Got xs ys s.heap.objs.size h' as ∧ acc'.toList = as.map Value.ref)
    (stay _ _ zip) ⟨a, b, stay _ _ outp⟩ (stay _ _ its) (Z.ext _ _ _ st fun c _ o e => stay c o e) lS
    (fun h' tk acc' c' as hk hS' hl hG hacc => ⟨h', tk, acc', c', as, rfl, rfl, fun b o q1 q2 q3 q4 e => hk b o (Nat.ne_of_lt (Heap.lt_size e)) q1 q2 q3 q4 (stay b o e), hS', hl, hG, hacc⟩)
  refine wpAny_mono key (fun fin s' x => ?_) fun e s' x => ?_
  · cases fin with
    | done f =>
      obtain ⟨h', tk, acc', c', as, e, rfl, hk, hS', hl, hG, hacc⟩ := x
      cases e
      show wpAny _ A (load s.heap.objs.size >>= _) _ _ _
      refine wpAny_bind (wpAny_load hS' ?_)
      refine wpAny_pure ?_
      show R acc'.toList _
      rw [hacc]
      exact hQ h' tk as hk (Heap.lt_size hS') hl hG
    | again c₁ =>
      refine ⟨x.1, codeAny_mono x.2 fun q s₂ y => ?_⟩
      obtain ⟨h', tk, acc', c', as, rfl, rfl, hk, hS', hl, hG, hacc⟩ := y
      show wpAny _ A (load s.heap.objs.size >>= _) _ _ _
      refine wpAny_bind (wpAny_load hS' ?_)
      refine wpAny_pure ?_
      show R acc'.toList _
      rw [hacc]
      exact hQ h' tk as hk (Heap.lt_size hS') hl hG
  · obtain ⟨_, _, _, _, _, e', _⟩ := x
    cases e'
end
end ZL
namespace ZM
open PySem PySem.Spec PyProof.Rows L2 ZL PySem.W
open AutoSeq1 (wpAny_loadPart')
theorem tupNew_zip (tup : Bool) (z TI TO i1 i2 l1 l2 : Addr) (xs ys : Array Value) (few : min xs.size ys.size ≤ sizeLine) (D : ZipApart z TI TO i1 i2 l1 l2) :
    Meets (Builtin.«tuple.__new__» ⟨[.type "tuple", .ref z], []⟩) (fun A R s => A.handled = none ∧ Far s.heap.objs.size z TI TO i1 i2 l1 l2 ∧ IsZip s.heap z TI TO .none ∧ (∃ a b, IsPair s.heap TO a b) ∧ IsPair s.heap TI (.ref i1) (.ref i2) ∧ StB tup i1 i2 l1 l2 xs ys 0 s.heap ∧
      ∀ (h' : Heap) (tk : Nat) (as : List Addr), (∀ b o, b ≠ z → b ≠ TO → b ≠ i1 → b ≠ i2 → s.heap.get? b = some o → h'.get? b = some o) → s.heap.objs.size < h'.objs.size → as.length = min xs.size ys.size → Got xs ys s.heap.objs.size h' as → R (.ok (.ret (.ref h'.objs.size))) { s with heap := h'.push { cls := .type "tuple", data := .seq (as.map Value.ref).toArray }, toks := tk }) :=
  .of_wp fun prog w A R s h => by
    obtain ⟨calm, far, zip, outp, its, st, fin⟩ := h
    have f1 := sub_tuple_self; have f2 := init_tuple_lookup; have f3 := madeHere_tuple
    have ty : s.TypeIs (.ref z) "zip" := ⟨_, zip, rfl⟩
    have calm1 : A.in1.handled = none := calm
    obtain ⟨ov, gv, cv⟩ := id ty
    wp_walk using wpAny_loadPart' gv, wpAny_typeOf ty, zl_collect (xs := xs) (ys := ys) tup calm1 D far few zip outp its st
    intro h' tk as keep big n g
    show wpAny _ _ (Builtin.Tuple.tupleExact (as.map Value.ref).toArray >>= fun v => ret v) _ _ _
    unfold Builtin.Tuple.tupleExact
    refine wpAny_bind (wpAny_newObj_type (wpAny_pure ⟨_, rfl, ?_⟩) (show (as.map Value.ref).toArray.size ≤ sizeLine by simp; omega))
    exact fin h' tk as keep big n g
section
variable {prog : Program} {w : World} {A : Around} {E : Value → Shared → Prop} {s : Shared}
theorem tupCall_zip (tup : Bool) {z TI TO i1 i2 l1 l2 : Addr} {xs ys : Array Value} {Q : Value → Shared → Prop} (calm : A.handled = none) (D : ZipApart z TI TO i1 i2 l1 l2) (far : Far s.heap.objs.size z TI TO i1 i2 l1 l2) (few : min xs.size ys.size ≤ sizeLine)
    (zip : IsZip s.heap z TI TO .none) (outp : ∃ a b, IsPair s.heap TO a b) (its : IsPair s.heap TI (.ref i1) (.ref i2)) (st : StB tup i1 i2 l1 l2 xs ys 0 s.heap)
    (fin : ∀ (h' : Heap) (tk : Nat) (as : List Addr), (∀ b o, b ≠ z → b ≠ TO → b ≠ i1 → b ≠ i2 → s.heap.get? b = some o → h'.get? b = some o) → s.heap.objs.size < h'.objs.size → as.length = min xs.size ys.size → Got xs ys s.heap.objs.size h' as → Q (.ref h'.objs.size) { s with heap := h'.push { cls := .type "tuple", data := .seq (as.map Value.ref).toArray }, toks := tk }) :
    wpAny (model prog w) A (call (.type "tuple") [.ref z]) Q E s :=
  callType_new PySem.F.called_tuple (by decide) (PySem.F.typeCall_tuple_1 _) (PySem.F.newCall_tuple_1 _) (fun obj => PySem.F.args_object_init_2 obj _) PySem.F.entry_tuple_new (tupNew_zip tup z TI TO i1 i2 l1 l2 xs ys few D)
    ⟨calm, far, zip, outp, its, st, fun h' tk as keep big n g => ⟨⟨_, Heap.get?_push_size _ rfl, rfl⟩, fin h' tk as keep big n g⟩⟩
end
section
variable {X : Cx}
def tTupZip (K : PySem.W.Frag) (ta : TA) : TE := fun σ H Q => ta σ H fun vs H1 => ∃ a b xs ys, vs = [.ref a, .ref b] ∧ (xs.zip ys).length ≤ sizeLine ∧ ((SqL K H1 a xs ∧ SqL K H1 b ys) ∨ (SqT K H1 a xs ∧ SqT K H1 b ys)) ∧
  ∀ (H' : Hp) (S : Addr) (ts : List Addr), (∀ c o, H1 c = some o → H' c = some o) → H1 S = none → (∀ t ∈ ts, H1 t = none) → S ∉ ts → H' S = some (.tup (ts.map V.ref)) → ts.length = (xs.zip ys).length → (∀ (j : Nat) (t : Addr) (q : V × V), ts[j]? = some t → (xs.zip ys)[j]? = some q → H' t = some (.tup [q.1, q.2])) → Q (.ref S) H'
theorem pe_tupZip {e e2 : Expr} {ta : TA} {p p2 pos pos2 : Pos} (hc : X.calm = true) (hg : Gl X "tuple") (hm : X.mg "tuple" = none) (hv : bootBuiltins "tuple" = some (.type "tuple")) (hg2 : Gl X "zip") (hm2 : X.mg "zip" = none) (ha : PA X [e, e2] ta)
    (hs : starEach [.Call (.Name "zip" p2) [e, e2] [] pos2] X.env = (false, eval (.Call (.Name "zip" p2) [e, e2] [] pos2) X.env) :: starEach [] X.env := by rfl)
    (hs2 : starEach [e, e2] X.env = (false, eval e X.env) :: starEach [e2] X.env := by rfl) (hpl : (backTo pos2 (starEach [e2] X.env)).any (·.1) = false := by rfl) :
    PE X (.Call (.Name "tuple" p) [.Call (.Name "zip" p2) [e, e2] [] pos2] [] pos) (tTupZip X.K ta) := by
  refine ⟨fun pins s σ H Q I hq => ?_⟩
  refine wpAny_Call_Name_kw (ld_blt I hg hm hv (PyProof.Rows.callWith_type1 ?_ hs rfl))
  rw [hs]
  show wpAny _ _ (spliced ((false, eval (.Call (.Name "zip" p2) [e, e2] [] pos2) X.env) :: backTo pos (starEach [] X.env))) _ _ s
  refine Calls.spliced_cons ?_
  refine Call_ (ld_blt I hg2 hm2 PyProof.Rows.boot_zip (PyProof.Rows.callWith_type1 (thn (ha.run pos2 pins s σ H _ I hq) fun us s1 ⟨vs, H1, I1, r1, q1⟩ => ?_) hs2 hpl))
  obtain ⟨a, b, xs, ys, ex, few, q1, q⟩ := q1
  subst ex
  cases r1 with
  | cons r rr =>
    cases rr with
    | cons r' rr =>
      cases rr
      cases r
      cases r'
      have key : ∀ (tup : Bool) (us ws : List Value), Vals xs us → Vals ys ws → (a < s1.heap.objs.size ∧ b < s1.heap.objs.size) →
          ∀ (h' : Heap), IsZip h' (s1.heap.objs.size + 4) (s1.heap.objs.size + 2) (s1.heap.objs.size + 3) .none → (∃ a b, IsPair h' (s1.heap.objs.size + 3) a b) → IsPair h' (s1.heap.objs.size + 2) (.ref s1.heap.objs.size) (.ref (s1.heap.objs.size + 1)) → StB tup s1.heap.objs.size (s1.heap.objs.size + 1) a b us.toArray ws.toArray 0 h' →
            h'.objs.size = s1.heap.objs.size + 5 → (∀ b o, s1.heap.get? b = some o → h'.get? b = some o) → wpAny (model X.prog X.w) X.A (call (.type "tuple") [.ref (s1.heap.objs.size + 4)]) (EP X pins σ Q) X.xe { s1 with heap := h' } := by
        intro tup us ws rx ry ⟨la, lb⟩ h' hz hTO hTI st hsz hk
        have D : ZipApart (s1.heap.objs.size + 4) (s1.heap.objs.size + 2) (s1.heap.objs.size + 3) s1.heap.objs.size (s1.heap.objs.size + 1) a b := PySem.W.ktu_apart s1.heap.objs.size a b la lb
        have far : Far h'.objs.size (s1.heap.objs.size + 4) (s1.heap.objs.size + 2) (s1.heap.objs.size + 3) s1.heap.objs.size (s1.heap.objs.size + 1) a b := by
          have z1 : ∀ n, n < 5 → s1.heap.objs.size + n < h'.objs.size := fun n l => by rw [hsz]; exact Nat.add_lt_add_left l _
          exact ⟨z1 4 (by decide), z1 2 (by decide), z1 3 (by decide), z1 0 (by decide), z1 1 (by decide), Nat.lt_trans la (z1 0 (by decide)), Nat.lt_trans lb (z1 0 (by decide))⟩
        have lx := rx.length
        have ly := ry.length
        have zl : (xs.zip ys).length = min us.toArray.size ws.toArray.size := by rw [List.length_zip, lx, ly]; simp
        refine tupCall_zip tup (s := { s1 with heap := h' }) (I1.ok.hd hc) D far (by rw [← zl]; exact few) hz hTO hTI st fun h2 tk as keep big n g => ?_
        have hk2 : ∀ b o, s1.heap.get? b = some o → (h2.push { cls := .type "tuple", data := .seq (as.map Value.ref).toArray }).get? b = some o := fun b o e => by
          have l := Heap.lt_size e
          exact Heap.get?_push_of_some _ (keep b o (Nat.ne_of_lt (Nat.lt_add_right _ l)) (Nat.ne_of_lt (Nat.lt_add_right _ l)) (Nat.ne_of_lt l) (Nat.ne_of_lt (Nat.lt_add_right _ l)) (hk b o e))
        have big' : h'.objs.size < h2.objs.size := big
        have low : ∀ t ∈ as, s1.heap.objs.size ≤ t := fun t m => by
          have : h'.objs.size < t := g.high t m
          omega
        obtain ⟨H', k1, k2, k3, k4, k5, k6, J⟩ := tup_laid (tk := tk) (qs := xs.zip ys) (S := h2.objs.size) (as := as) I1 few hk2 (by omega) low (g.up.imp fun l => Nat.ne_of_lt l) (fun m => Nat.lt_irrefl _ (g.lt m)) (Heap.get?_push_size _ rfl) (by rw [n, zl]) (fun j t q e1 e2 => by
          obtain ⟨x, y, f1, f2, f3⟩ := g.each j t e1
          rw [List.getElem?_zip_eq_some] at e2
          obtain ⟨x', k1, r1⟩ := rx.get e2.1
          obtain ⟨y', k2, r2⟩ := ry.get e2.2
          have k1' : us.toArray[j]? = some x' := by simpa using k1
          have k2' : ws.toArray[j]? = some y' := by simpa using k2
          rw [k1'] at f1; cases f1
          rw [k2'] at f2; cases f2
          exact ⟨_, _, r1, r2, Heap.get?_push_of_some _ f3⟩)
        exact ⟨.ref _, H', J, rfl, q H' _ as k1 k2 k3 k4 k5 (by rw [n, zl]) k6⟩
      rcases q1 with ⟨hx, hy⟩ | ⟨hx, hy⟩
      · obtain ⟨us, rx, p1, _⟩ := I1.list hx
        obtain ⟨ws, ry, p2', _⟩ := I1.list hy
        refine call_zip_2 p1.isList p2'.isList fun h' hz hTI hTO g1 g2 hsz hk => Calls.spliced_nil ?_
        exact key false us ws rx ry ⟨p1.lt, p2'.lt⟩ h' hz ⟨_, _, hTO⟩ hTI ⟨g1, g2, p1.isList.at fun o e => hk _ _ e, p2'.isList.at fun o e => hk _ _ e⟩ hsz hk
      · obtain ⟨us, rx, p1, _⟩ := I1.tuple hx
        obtain ⟨ws, ry, p2', _⟩ := I1.tuple hy
        have t1 : s1.heap.IsTuple a us.toArray := p1
        have t2 : s1.heap.IsTuple b ws.toArray := p2'
        refine RZ.call_zipT t1 t2 fun h' hz hTI hTO g1 g2 hsz hk => Calls.spliced_nil ?_
        have la : a < s1.heap.objs.size := by obtain ⟨_, e, _⟩ := t1; exact Heap.lt_size e
        have lb : b < s1.heap.objs.size := by obtain ⟨_, e, _⟩ := t2; exact Heap.lt_size e
        exact key true us ws rx ry ⟨la, lb⟩ h' hz ⟨_, _, hTO⟩ hTI ⟨g1, g2, t1.at fun o e => hk _ _ e, t2.at fun o e => hk _ _ e⟩ hsz hk
end
end ZM
namespace G
open PySem L2 PyProof.Rows
/-- every other one, the first one among them -/
def stp {α : Type} : List α → List α
  | [] => []
  | [a] => [a]
  | a :: _ :: r => a :: stp r
theorem stp_len {α : Type} : ∀ l : List α, (stp l).length = (l.length + 1) / 2
  | [] => by simp [stp]
  | [_] => by simp [stp]
  | a :: b :: r => by
    show (stp r).length + 1 = (r.length + 1 + 1 + 1) / 2
    rw [stp_len r]
    omega
theorem stp_get {α : Type} : ∀ (l : List α) (j : Nat), (stp l)[j]? = l[2 * j]?
  | [], j => by simp [stp]
  | [a], 0 => rfl
  | [a], j + 1 => by
    rw [List.getElem?_eq_none (by show 1 ≤ j + 1; omega), List.getElem?_eq_none (by show 1 ≤ 2 * (j + 1); omega)]
  | a :: b :: r, 0 => rfl
  | a :: b :: r, j + 1 => by
    show (stp r)[j]? = (a :: b :: r)[2 * j + 2]?
    rw [stp_get r j]
    rfl
theorem fm_congr {α β : Type} {f g : α → Option β} : ∀ {l : List α}, (∀ x ∈ l, f x = g x) → l.filterMap f = l.filterMap g
  | [], _ => rfl
  | a :: l, h => by
    rw [List.filterMap_cons, List.filterMap_cons, h a List.mem_cons_self, fm_congr fun x hx => h x (List.mem_cons_of_mem _ hx)]
theorem range_stp {α : Type} : ∀ l : List α, ((List.range ((l.length + 1) / 2)).filterMap fun m => l[2 * m]?) = stp l
  | [] => by simp [stp]
  | [a] => by
    rw [show ([a].length + 1) / 2 = 1 by simp]
    rfl
  | a :: b :: r => by
    have e : ((a :: b :: r).length + 1) / 2 = (r.length + 1) / 2 + 1 := by
      show (r.length + 1 + 1 + 1) / 2 = _
      omega
    have s : ∀ m : Nat, (a :: b :: r)[2 * (m + 1)]? = r[2 * m]? := fun m => rfl
    rw [e, List.range_succ_eq_map, List.filterMap_cons]
    show a :: _ = a :: stp r
    rw [List.filterMap_map, ← range_stp r]
    rfl
theorem step_part {α : Type} (l : List α) (o : Nat) : ((List.range ((l.length - o + 1) / 2)).filterMap fun m => l[o + 2 * m]?) = stp (l.drop o) := by
  rw [← range_stp (l.drop o), List.length_drop]
  simp only [List.getElem?_drop]
theorem vals_stp : ∀ {vs : List V} {us : List Value}, Vals vs us → Vals (stp vs) (stp us)
  | _, _, .nil => .nil
  | _, _, .cons r .nil => .cons r .nil
  | _, _, .cons r (.cons _ rr) => .cons r (vals_stp rr)
theorem vals_dropN : ∀ (o : Nat) {vs : List V} {us : List Value}, Vals vs us → Vals (vs.drop o) (us.drop o)
  | 0, _, _, h => h
  | o + 1, _, _, .nil => by simpa using .nil
  | o + 1, _, _, .cons _ rr => vals_dropN o rr
section
variable {prog : Program} {w : World} {B : Around} {E : Value → Shared → Prop} {st : Shared}
/-- where a slice [::2] or [1::2] begins -/
def Lo (o : Nat) (vl : Value) : Prop := (o = 0 ∧ vl = .none) ∨ (o = 1 ∧ ∃ t, vl = .int 1 t)
theorem slice2 {at_ : Addr} {n o : Nat} {vl : Value} {tk : Tok} {Q : Int × Int × Nat → Shared → Prop} (hl : Lo o vl) (hs : st.heap.IsSliceOf at_ vl .none (.int 2 tk)) (fin : Q (((min o n : Nat) : Int), 2, (n - o + 1) / 2) st) :
    wpAny (model prog w) B (Builtin.Slice.sliceApplied (.ref at_) (pure (n : Int))) Q E st := by
  have all : Builtin.Slice.slicePlaces ((min o n : Nat) : Int) (n : Int) 2 = (n - o + 1) / 2 := by
    simp only [Builtin.Slice.slicePlaces, show ((2 : Int) > 0) by decide, if_true]
    rcases hl with ⟨rfl, _⟩ | ⟨rfl, _⟩ <;> split <;> omega
  obtain ⟨ob, g, _, parts⟩ := hs
  unfold Builtin.Slice.sliceApplied Builtin.Slice.sliceFields
  rcases hl with ⟨rfl, rfl⟩ | ⟨rfl, t0, rfl⟩
  · refine wpAny_bind (wpAny_bind (wpAny_field g parts (x := .none) rfl (wpAny_bind (wpAny_field g parts (x := .none) rfl (wpAny_bind (wpAny_field g parts (x := .int 2 tk) rfl (wpAny_pure (wpAny_bind (slicePart_int ?_)))))))))
    show wpAny _ _ (if ((2 : Int) == 0) = true then _ else _) _ _ st
    rw [if_neg (by decide)]
    refine wpAny_bind (slicePart_none (wpAny_bind (slicePart_none (wpAny_bind (wpAny_pure ?_)))))
    show wpAny _ _ (pure ((0 : Int), (2 : Int), Builtin.Slice.slicePlaces (0 : Int) (n : Int) 2)) _ _ st
    have e : ((min 0 n : Nat) : Int) = 0 := by simp
    rw [e] at all fin
    rw [all]
    exact wpAny_pure fin
  · refine wpAny_bind (wpAny_bind (wpAny_field g parts (x := .int 1 t0) rfl (wpAny_bind (wpAny_field g parts (x := .none) rfl (wpAny_bind (wpAny_field g parts (x := .int 2 tk) rfl (wpAny_pure (wpAny_bind (slicePart_int ?_)))))))))
    show wpAny _ _ (if ((2 : Int) == 0) = true then _ else _) _ _ st
    rw [if_neg (by decide)]
    refine wpAny_bind (slicePart_int (wpAny_bind (slicePart_none (wpAny_bind (wpAny_pure ?_)))))
    show wpAny _ _ (pure (min (1 : Int) (n : Int), (2 : Int), Builtin.Slice.slicePlaces (min (1 : Int) (n : Int)) (n : Int) 2)) _ _ st
    have e : min (1 : Int) (n : Int) = ((min 1 n : Nat) : Int) := by omega
    rw [e, all]
    exact wpAny_pure fin
theorem tup2 {t at_ : Addr} {its : Array Value} {o : Nat} {vl : Value} {tk : Tok} {Q : Value → Shared → Prop} (hl : Lo o vl) (ht : IsTup st.heap t its) (hs : st.heap.IsSliceOf at_ vl .none (.int 2 tk))
    (fin : Q (.ref st.heap.objs.size) { st with heap := st.heap.push { cls := .type "tuple", data := .seq (stp (its.toList.drop o)).toArray } }) (small : its.size ≤ sizeLine) : wpAny (model prog w) B (getItem (.ref t) (.ref at_)) Q E st := by
  have fits : sizeOk (.seq (stp (its.toList.drop o)).toArray) := by
    show (stp (its.toList.drop o)).toArray.size ≤ sizeLine
    rw [List.size_toArray, stp_len, List.length_drop, Array.length_toList]
    omega
  have isS : st.TypeIs (.ref at_) "slice" := by
    obtain ⟨ob, g, c, _⟩ := hs
    exact ⟨ob, g, c⟩
  have ho : o ≤ 1 := by rcases hl with ⟨rfl, _⟩ | ⟨rfl, _⟩ <;> omega
  have part : ((List.range ((its.size - o + 1) / 2)).filterMap fun (m : Nat) => its[(((min o its.size : Nat) : Int) + (m : Int) * 2).toNat]?).toArray = (stp (its.toList.drop o)).toArray := by
    rw [← step_part its.toList o, Array.length_toList]
    congr 1
    by_cases h : o ≤ its.size
    · refine fm_congr fun m _ => ?_
      have e : (((min o its.size : Nat) : Int) + (m : Int) * 2).toNat = o + 2 * m := by omega
      rw [e]
      simp
    · have e : (its.size - o + 1) / 2 = 0 := by omega
      rw [e]
      rfl
  have other : ((((min o its.size : Nat) : Int) == 0 && (2 : Int) == 1 && ((its.size - o + 1) / 2) == its.size) = true) = False := by
    rw [show ((2 : Int) == 1) = false from rfl, Bool.and_false, Bool.false_and]
    exact eq_false Bool.false_ne_true
  unfold getItem
  try (with_reducible refine wpAny_holding ?_)
  first | refine wpAny_bind (wpAny_pure ?_) | skip
  refine wpAny_bind (wpAny_sequenceKey ht.typeIs (by decide) (wpAny_bind (wpAny_callSpecial?_slot (name := Str.ofString "__getitem__") ht.typeIs PyProof.Rows.slot_tuple_getitem (wpAny_call_entry PyProof.Rows.slot_tuple_getitem ht.typeIs entry_tuple_getitem ?_ (args_tuple_getitem _ _)))))
  show wpAny _ _ (Builtin.Tuple.tupleItemsOf (.ref t) >>= _) _ _ st
  refine wpAny_bind (tupleItemsOf_ ht (wpAny_bind (wpAny_typeOf isS ?_)))
  rw [if_pos (by decide)]
  refine wpAny_bind (slice2 hl hs ?_)
  show wpAny _ _ (if (((min o its.size : Nat) : Int) == 0 && (2 : Int) == 1 && ((its.size - o + 1) / 2) == its.size) = true then _ else _) _ _ st
  rw [if_neg (by rw [other]; exact id), part]
  first
    | exact wpAny_bind (m := Builtin.Tuple.tupleExact _) (wpAny_newObj_type (wpAny_pure ⟨_, rfl, wpAny_pure fin⟩) fits)
    | exact wpAny_bind (m := Builtin.Tuple.tupleExact _) (wpAny_newObj_type (wpAny_bind (wpAny_pure (wpAny_pure ⟨_, rfl, wpAny_pure fin⟩))) fits)
    | exact wpAny_bind (wpAny_bind (m := Builtin.Tuple.tupleExact _) (wpAny_newObj_type (wpAny_pure (wpAny_pure ⟨_, rfl, wpAny_pure fin⟩)) fits))
    | exact wpAny_bind (wpAny_bind (m := Builtin.Tuple.tupleExact _) (wpAny_newObj_type (wpAny_pure ⟨_, rfl, wpAny_pure fin⟩) fits))
end
theorem pick2 {o : Nat} (its : Array Value) (lo : Option Int) (hl : (o = 0 ∧ lo = none) ∨ (o = 1 ∧ lo = some 1)) : slicePick its lo none (some 2) = (stp (its.toList.drop o)).toArray := by
  unfold slicePick
  have b : sliceBounds lo none (some 2) its.size = (((min o its.size : Nat) : Int), (its.size : Int), 2) := by
    rcases hl with ⟨rfl, rfl⟩ | ⟨rfl, rfl⟩
    · show ((0 : Int), (its.size : Int), (2 : Int)) = _
      simp
    · show (max (0 : Int) (min (1 : Int) (its.size : Int)), (its.size : Int), (2 : Int)) = _
      have : max (0 : Int) (min (1 : Int) (its.size : Int)) = ((min 1 its.size : Nat) : Int) := by omega
      rw [this]
  rw [b]
  show ((sliceRange ((min o its.size : Nat) : Int) (its.size : Int) 2).filterMap (its[·]?)).toArray = _
  have r : sliceRange ((min o its.size : Nat) : Int) (its.size : Int) 2 = (List.range ((its.size - o + 1) / 2)).map fun m => o + 2 * m := by
    unfold sliceRange
    simp only [show ((2 : Int) > 0) by decide, if_true]
    have ho : o ≤ 1 := by rcases hl with ⟨rfl, _⟩ | ⟨rfl, _⟩ <;> omega
    have c : (if ((min o its.size : Nat) : Int) < (its.size : Int) then ((its.size : Int) - ((min o its.size : Nat) : Int) + 2 - 1) / 2 else 0).toNat = (its.size - o + 1) / 2 := by
      split <;> omega
    rw [c]
    by_cases h : o ≤ its.size
    · refine List.map_congr_left fun m _ => ?_
      omega
    · have e : (its.size - o + 1) / 2 = 0 := by omega
      rw [e]
      rfl
  rw [r, List.filterMap_map, ← step_part its.toList o, Array.length_toList]
  congr 1
  refine fm_congr fun m _ => ?_
  simp
/-- the part of a slice ahead: none, or 1 -/
def LoX (o : Nat) (lo : Option Expr) : Prop := (o = 0 ∧ lo = none) ∨ (o = 1 ∧ ∃ k p, lo = some (.Constant (.int 1) k p))
def tStp (K : PySem.W.Frag) (o : Nat) (te : TE) : TE := fun σ H Q => te σ H fun x H1 => ∃ a xs, x = .ref a ∧
  ((SqT K H1 a xs ∧ ∀ p, H1 p = none → Q (.ref p) (upd H1 p (.tup (stp (xs.drop o))))) ∨ (SqL K H1 a xs ∧ ∀ p, H1 p = none → Q (.ref p) (upd H1 p (.lst (stp (xs.drop o))))))
section
variable {X : Cx} {K : PySem.W.Frag}
theorem stp_K {e : Expr} {te : TE} {o k1 : Nat} {lo : Option Expr} {p1 p3 pos : Pos} (hK : X.K = K) (hlo : LoX o lo) (he : PE X e te) : PE X (.Subscript e (.Slice lo none (some (.Constant (.int 2) k1 p1)) p3) pos) (tStp K o te) := by
  subst hK
  have step : PO X (some (.Constant (.int 2) k1 p1)) (tPart (tC (.int 2))) := po_some pe_int
  constructor
  intro pins st σ H Q I wish
  refine Subscript_ (thn (he.run pins st σ H _ I wish) ?_)
  rintro v sA ⟨x, HA, IA, rx, a, xs, rfl, fin⟩
  cases rx
  have low : wpAny (model X.prog X.w) X.A (evalPart lo X.env) (fun vl sB => ∃ io, IsPart vl io ∧ ((o = 0 ∧ io = none) ∨ (o = 1 ∧ io = some 1)) ∧ Lo o vl ∧ Inv X pins σ HA sB) X.xe sA := by
    rcases hlo with ⟨rfl, rfl⟩ | ⟨rfl, k, p, rfl⟩
    · refine thn (po_none.run pins sA σ HA (fun o H' => o = none ∧ H' = HA) IA ⟨rfl, rfl⟩) ?_
      rintro vl sB ⟨_, HB, IB, plo, rfl, eH⟩
      subst eH
      cases plo
      exact ⟨none, .none, .inl ⟨rfl, rfl⟩, .inl ⟨rfl, rfl⟩, IB⟩
    · have one : PO X (some (.Constant (.int 1) k p)) (tPart (tC (.int 1))) := po_some pe_int
      refine thn (one.run pins sA σ HA (fun o H' => o = some 1 ∧ H' = HA) IA ⟨1, rfl, rfl, rfl⟩) ?_
      rintro vl sB ⟨_, HB, IB, plo, rfl, eH⟩
      subst eH
      cases plo
      exact ⟨some 1, .int _ _, .inr ⟨rfl, rfl⟩, .inr ⟨rfl, _, rfl⟩, IB⟩
  refine wpAny_Slice (thn low ?_)
  rintro vl sB ⟨io, plo, hio, hl, IB⟩
  refine thn (po_none.run pins sB σ _ (fun o H' => o = none ∧ H' = HA) IB ⟨rfl, rfl⟩) ?_
  rintro hi sC ⟨_, _, IC, phi, rfl, eH⟩
  subst eH
  refine thn (step.run pins sC σ _ (fun o H' => o = some 2 ∧ H' = _) IC ⟨2, rfl, rfl, rfl⟩) ?_
  rintro by_ sD ⟨_, _, ID, pby, rfl, eH⟩
  subst eH
  have phi' := phi
  have pby' := pby
  cases phi
  cases pby
  rename_i tk
  have IE := ID.kept (t' := sD.toks) (h' := sD.heap.push { cls := .type "slice", data := .fields #[vl, Value.none, Value.int 2 tk] }) fun b ob q => Heap.get?_push_of_some _ q
  rcases fin with ⟨hx, fin⟩ | ⟨hx, fin⟩
  · obtain ⟨its, rv, isT, small⟩ := IE.tuple hx
    have lr := rv.length
    refine tail_any (ops := [.ref a, .ref sD.heap.objs.size]) isT.typeIs (PyProof.Rows.slot_tuple_getitem.lookup) ?_ (by with_unfolding_all rfl)
    refine tup2 hl isT (Heap.IsSliceOf.new _ _ _ _) ?_ (by rw [List.size_toArray]; omega)
    refine ⟨.ref _, _, IE.laid (t' := sD.toks) (o := .tup (stp (xs.drop o))) (fun b ob q => Heap.get?_push_of_some _ q) (Nat.le_refl _) ⟨by rw [stp_len, List.length_drop]; omega, stp (its.drop o), vals_stp (vals_dropN o rv), IsTup.new _ _⟩, rfl, fin _ (IE.hok.fresh (Nat.le_refl _))⟩
  · obtain ⟨its, rv, pl, small⟩ := IE.list hx
    have lr := rv.length
    refine tail_any (ops := [.ref a, .ref sD.heap.objs.size]) pl.isList.typeIs (PySem.slot_list_getitem.lookup) ?_ (by with_unfolding_all rfl)
    refine wpAny_getItem_list_slice pl.isList (Heap.IsSliceOf.new _ vl _ _) plo phi' pby' (by decide) ?_ (by rw [List.size_toArray]; omega)
    rw [pick2 _ io hio]
    refine ⟨.ref _, _, IE.laid (t' := sD.toks) (o := .lst (stp (xs.drop o))) (fun b ob q => Heap.get?_push_of_some _ q) (Nat.le_refl _) ⟨by rw [stp_len, List.length_drop]; omega, stp (its.drop o), 0, vals_stp (vals_dropN o rv), Heap.get?_push_size _ rfl⟩, rfl, fin _ (IE.hok.fresh (Nat.le_refl _))⟩
theorem tzip_K {e e2 : Expr} {ta : TA} {p p2 pos pos2 : Pos} (h : X.K = K) (hc : X.calm = true) (hg : Gl X "tuple") (hm : X.mg "tuple" = none) (hg2 : Gl X "zip") (hm2 : X.mg "zip" = none) (ha : PA X [e, e2] ta)
    (hs : starEach [.Call (.Name "zip" p2) [e, e2] [] pos2] X.env = (false, eval (.Call (.Name "zip" p2) [e, e2] [] pos2) X.env) :: starEach [] X.env := by rfl)
    (hs2 : starEach [e, e2] X.env = (false, eval e X.env) :: starEach [e2] X.env := by rfl) (hpl : (backTo pos2 (starEach [e2] X.env)).any (·.1) = false := by rfl) :
    PE X (.Call (.Name "tuple" p) [.Call (.Name "zip" p2) [e, e2] [] pos2] [] pos) (ZM.tTupZip K ta) := by
  subst h
  exact ZM.pe_tupZip hc hg hm (by decide +kernel) hg2 hm2 ha hs hs2 hpl
end
end G
namespace G
open PySem L2 PyProof.Rows
section
variable {K : PySem.W.Frag} {W0 W : Wd} {Γ : Gm} {ta tb te : TE}
theorem dfs_stp : ∀ {vs : List V} {ds : List PyData}, Dfs K W vs ds → Dfs K W (stp vs) (stp ds)
  | _, _, .nil => .nil
  | _, _, .cons r .nil => .cons r .nil
  | _, _, .cons r (.cons _ rr) => .cons r (dfs_stp rr)
theorem dfs_dropN : ∀ (o : Nat) {vs : List V} {ds : List PyData}, Dfs K W vs ds → Dfs K W (vs.drop o) (ds.drop o)
  | 0, _, _, h => h
  | o + 1, _, _, .nil => by simpa using .nil
  | o + 1, _, _, .cons _ rr => dfs_dropN o rr
/-- t[::2] (o is 0), t[1::2] (o is 1), t a tuple -/
theorem wpE_stpT {o : Nat} {P : PyData → Prop} (h : wpE K W0 te Γ fun d => ∃ ds, d = .tuple ds ∧ P (.tuple (stp (ds.drop o)))) : wpE K W0 (tStp K o te) Γ P := fun W σ S Q k => h W σ S _ fun v W1 d e1 f1 ⟨ds, hd, p⟩ => by
  subst hd
  obtain ⟨a, vs, rfl, q, f⟩ := f1.tup_inv
  refine ⟨a, _, rfl, .inl ⟨q, fun r hr => ?_⟩⟩
  obtain ⟨e, g⟩ := e1.ok.newT hr (dfs_stp (dfs_dropN o f))
  exact k _ _ _ (e1.trans e) g p
/-- .., t a list -/
theorem wpN_stpL {o : Nat} {P : List PyData → Prop} (h : wpL K W0 te Γ fun ds => P (stp (ds.drop o))) : wpN K W0 (tStp K o te) Γ P := fun W σ S Q k => h W σ S _ fun v W1 ds e1 l1 p => by
  obtain ⟨a, vs, rfl, q, f⟩ := l1.sq
  refine ⟨a, vs, rfl, .inr ⟨q, fun r hr => ?_⟩⟩
  obtain ⟨e, g⟩ := e1.ok.newL hr (dfs_stp (dfs_dropN o f))
  exact k _ _ _ (e1.trans e) (g.up S.ok e1) p
/-- tuple(zip(x, y)) of two lists or of two tuples -/
theorem wpE_tzip {P : PyData → Prop} (h : wpE K W0 ta Γ fun c => wpE K W0 tb Γ fun d => ∃ ds es, ((c = .list ds ∧ d = .list es) ∨ (c = .tuple ds ∧ d = .tuple es)) ∧ min ds.length es.length ≤ sizeLine ∧ P (.tuple (zipD ds es))) : wpE K W0 (ZM.tTupZip K (tCons ta (tCons tb tNil))) Γ P := fun W σ S Q k =>
  h W σ S _ fun v W1 c e1 f1 h1 => h1 W1 σ (S.mono e1) _ fun u W2 d e2 f2 ⟨ds, es, hk, few, p⟩ => by
    have f1' := Df.mono (e2.lf e1.ok) _ _ f1
    have key : ∀ (a b : Addr) (vs us : List V), ((SqL K W2.H a vs ∧ SqL K W2.H b us) ∨ (SqT K W2.H a vs ∧ SqT K W2.H b us)) → Dfs K W2 vs ds → Dfs K W2 us es → ∃ a' b' xs ys, [V.ref a, V.ref b] = [.ref a', .ref b'] ∧ (xs.zip ys).length ≤ sizeLine ∧ ((SqL K W2.H a' xs ∧ SqL K W2.H b' ys) ∨ (SqT K W2.H a' xs ∧ SqT K W2.H b' ys)) ∧
        ∀ (H' : Hp) (S : Addr) (ts : List Addr), (∀ c o, W2.H c = some o → H' c = some o) → W2.H S = none → (∀ t ∈ ts, W2.H t = none) → S ∉ ts → H' S = some (.tup (ts.map V.ref)) → ts.length = (xs.zip ys).length → (∀ (j : Nat) (t : Addr) (q : V × V), ts[j]? = some t → (xs.zip ys)[j]? = some q → H' t = some (.tup [q.1, q.2])) → Q (.ref S) H' := by
      intro a b vs us sq d1 d2
      have l1 := d1.length
      have l2 := d2.length
      have lz : (vs.zip us).length = min ds.length es.length := by rw [List.length_zip, l1, l2]
      refine ⟨a, b, vs, us, rfl, by rw [lz]; exact few, sq, fun H' S ts kp nS nts _ lS len at' => ?_⟩
      have e3 : Le W2 ⟨W2.Fz, W2.B, H'⟩ := ⟨⟨fun c q => by
          cases e : W2.H c with
          | none => exact absurd e (e2.ok.fz c q)
          | some o => show H' c ≠ none; rw [kp c o e]; simp, fun c q => by
          obtain ⟨x, y, z, e⟩ := e2.ok.bx c q
          exact ⟨x, y, z, kp c _ e⟩, e2.ok.fb⟩, fun _ q => q, fun _ q => q, fun c o e _ => kp c o e, fun _ q n => absurd q n, fun _ q n => absurd q n⟩
      have g1 := Dfs.mono (e3.lf e2.ok) _ _ d1
      have g2 := Dfs.mono (e3.lf e2.ok) _ _ d2
      refine k (.ref S) ⟨W2.Fz, W2.B, H'⟩ (.tuple (zipD ds es)) ((e1.trans e2).trans e3) (.tup (.inl (.inl lS)) ?_) p
      refine dfs_each _ _ (by rw [List.length_map, len, lz, zipD_len]) fun j v d z1 z2 => ?_
      rw [List.getElem?_map] at z1
      cases zt : ts[j]? with
      | none => rw [zt] at z1; cases z1
      | some t =>
        rw [zt] at z1
        cases Option.some.inj z1
        obtain ⟨x, y, q1, q2, rfl⟩ := zipD_get z2
        obtain ⟨v1, k1, r1⟩ := g1.get q1
        obtain ⟨v2, k2, r2⟩ := g2.get q2
        have := at' j t (v1, v2) zt (List.getElem?_zip_eq_some.mpr ⟨k1, k2⟩)
        exact .tup (.inl (.inl this)) (.cons r1 (.cons r2 .nil))
    rcases hk with ⟨hc, hd⟩ | ⟨hc, hd⟩
    · subst hc hd
      cases f1' with
      | @lst a vs _ q f =>
        cases f2 with
        | @lst b us _ q2 f2 => exact key a b vs us (.inl ⟨q.elim (fun q => .inl q.1) fun q => q _, q2.elim (fun q => .inl q.1) fun q => q _⟩) f f2
    · subst hc hd
      obtain ⟨a, vs, rfl, q, f⟩ := f1'.tup_inv
      obtain ⟨b, us, rfl, q2, f2⟩ := f2.tup_inv
      exact key a b vs us (.inr ⟨q, q2⟩) f f2
end
/-! ### a table of defs -/
def rNinKD (K : PySem.W.Frag) (w : World) : R2 := fun x y H Q => ∃ z p v, x = .str z ∧ y = .ref p ∧ KDct K w p z v ∧ (p == sysModules) = false ∧ Q (.bl false) H
section
variable {X : Cx}
theorem op_ninKD : OpR X (compareOp .NotIn) (rNinKD X.K X.w) := by
  intro pins s σ H x y v u Q I rx ry h
  obtain ⟨z, p, v0, rfl, rfl, ⟨es, n, u0, hl, hk, e, ru⟩, hs, q⟩ := h
  obtain ⟨t, rfl⟩ := rx
  obtain rfl : u = Value.ref p := ry
  have hm := PySem.W.mapOf_K (prog := X.prog) (w := X.w) I.kIn hl hk
  refine wpAny_notIn_of (strKind_is X.prog X.w z t) hs hm ?_
  rw [PySem.W.find_K hl e]
  exact ⟨.bl false, H, I.tok _, rfl, q⟩
theorem nkd_K {K : PySem.W.Frag} {w : World} (h : X.K = K) (h2 : X.w = w) : OpR X (compareOp .NotIn) (rNinKD K w) := by
  subst h h2
  exact op_ninKD
theorem ikd_K {K : PySem.W.Frag} {w : World} (h : X.K = K) (h2 : X.w = w) : IxR X (rIxD K w) := by
  subst h h2
  exact ix_kdict
end
section
variable {K : PySem.W.Frag} {w : World} {W0 : Wd} {Γ : Gm} {te : TE}
theorem wpE_ninKD {a : Addr} {z : Str} {v : V} {P : PyData → Prop} (hk : KDct K w a z v) (hs : (a == sysModules) = false) (h : wpE K W0 te Γ fun d => d = .str z ∧ P (.bool false)) : wpE K W0 (tOp (rNinKD K w) te (tC (.ref a))) Γ P := fun W σ S Q k => h W σ S _ fun v W1 d e f ⟨hd, p⟩ => by
  subst hd
  cases f.str_inv
  exact ⟨z, a, _, rfl, rfl, hk, hs, k _ W1 _ e (.bl false) p⟩
theorem wpE_ixKD {a f : Addr} {z : Str} {P : PyData → Prop} (hk : KDct K w a z (.ref f)) (h : wpE K W0 te Γ fun d => d = .str z ∧ P (rfD f)) : wpE K W0 (tOp (rIxD K w) (tC (.ref a)) te) Γ P := fun W σ S Q k => h W σ S _ fun v W1 d e g ⟨hd, p⟩ => by
  subst hd
  cases g.str_inv
  exact ⟨a, z, _, rfl, rfl, hk, k _ W1 _ e .rf p⟩
theorem wpE_callL {i : Nat} {f : Addr} {pre : List PyData → Prop} {post : List PyData → Rs → Prop} {E : XK} {t : TA} {P : PyData → Prop} (hi : Γ[i]? = some (.d (rfD f)))
    (h : wpA K W0 t Γ fun ds => pre ds ∧ ∀ r, post ds r → P r.data) : wpE K W0 (tCallL i f (spF K pre post) [] E t) Γ P := fun W σ S Q k => by
  obtain ⟨v, hv, df⟩ := S.var hi
  have := df.rf_inv
  subst this
  refine ⟨hv, h W σ S _ fun vs W1 ds e1 f1 ⟨hp, hq⟩ => ?_⟩
  refine ⟨W1, ds, rfl, e1.ok, by rw [List.append_nil]; exact f1, hp, fun v W2 r e2 r2 hr => ?_⟩
  cases r with
  | d x => exact k v W2 x (e1.trans e2) r2 (hq _ hr)
  | l xs =>
    obtain ⟨W3, h1, h2, h3⟩ := Nw.freeze e2 r2
    rw [← h1]
    exact k v W3 _ (e1.trans h2) h3 (hq _ hr)
end
end G
namespace G
open PySem L2 PyProof.Rows
section
variable {X : Cx} {K : PySem.W.Frag} {pos : Pos}
theorem gu_K {es : List Expr} {k : Nat} {t : TGs} {n : Nat} (hK : X.K = K) (hc : X.calm = true) (h : PGs X es t)
    (hn : (assignEach es X.env).length = n := by rfl) (hst : (assignEach es X.env).findIdx? (·.1) = none := by rfl) : PG X (.Tuple es k pos) (gUnl K n t) := by
  subst hK
  exact pg_unl hc h hn hst
end
section
variable {K : PySem.W.Frag} {W0 : Wd} {Γ : Gm} {vs : List Nat}
/-- (a, b, ..) = a list of that length -/
theorem wpG_unl {n : Nat} {gs : TGs} {ds : List PyData} {P : Gm → Prop} (hn : ds.length = n) (h : wpGs K W0 vs gs ds Γ P) : wpG K W0 vs (gUnl K n gs) (.list ds) Γ P := fun W σ S v f Q k => by
  obtain ⟨a, us, rfl, q, fs⟩ := (f.lv S.ok).sq
  exact ⟨a, us, rfl, q, by rw [fs.length]; exact hn, h W σ S us fs Q k⟩
/-- None in a list of whole numbers -/
theorem opR_inNL {ns : List Int} {P : PyData → Prop} (p : P (.bool false)) : opR K (rIN K) .none (.list (ns.map PyData.int)) P := fun W v u ok f1 f2 Q k => by
  cases f1.none_inv
  obtain ⟨a, vs, rfl, q, f⟩ := (f2.lv ok).sq
  have e := dfs_ints f
  subst e
  refine .inr ⟨a, _, rfl, .inl q, rfl, by simp [flatV], ?_⟩
  have e : (if false = true then !inV V.non (ns.map V.int) else inV V.non (ns.map V.int)) = false := by
    show inV V.non (ns.map V.int) = false
    unfold inV
    rw [List.any_eq_false]
    intro x hx
    obtain ⟨n, _, rfl⟩ := List.mem_map.mp hx
    exact Bool.false_ne_true
  rw [e]
  exact k _ W _ (.refl ok) (.bl false) p
end
end G

set_option Elab.async false
set_option linter.all false
set_option autoImplicit false
set_option maxRecDepth 100000
set_option maxHeartbeats 4000000
/-! G25: tuple(range(..)); a dict written out and read at once; xs.index of whole numbers, of a list told; [], [], [], []. -/
namespace G
open PySem L2 PyProof.Rows
section
variable {K : PySem.W.Frag} {W0 W : Wd} {Γ : Gm} {ta tb te ty : TE} {A : AE}
theorem dfs_rng (i : Int) : ∀ l : List Nat, Dfs K W (l.map fun j => V.int (i + (j : Nat))) (l.map fun j => PyData.int (i + (j : Nat)))
  | [] => .nil
  | _ :: l => .cons (.int _) (dfs_rng i l)
/-- tuple(range(n)) -/
theorem wpE_trg1 {P : PyData → Prop} (h : wpE K W0 te Γ fun d => ∃ n : Int, d = .int n ∧ n ≤ 1000000 ∧ 0 ≤ n ∧ P (.tuple (rngD 0 n.toNat))) : wpE K W0 (tTupRg (tRg1 te)) Γ P := fun W σ S Q k => h W σ S _ fun v W1 d e1 f1 ⟨n, hd, h1, h0, p⟩ => by
  subst hd
  cases f1.int_inv
  refine ⟨n, rfl, .of_le (Int.le_refl 0) (by omega) (by decide) h0, fun r hr => ?_⟩
  have f : Dfs K W1 (rgV 0 n) (rngD 0 n.toNat) := by
    unfold rgV rngD
    rw [Int.sub_zero]
    exact dfs_rng 0 _
  obtain ⟨e, g⟩ := e1.ok.newT hr f
  exact k _ _ _ (e1.trans e) g p
/-- tuple(range(a, b)) -/
theorem wpE_trg2 {P : PyData → Prop} (h : wpE K W0 ta Γ fun c => wpE K W0 tb Γ fun d => ∃ i j : Int, c = .int i ∧ d = .int j ∧ 0 ≤ i ∧ i ≤ j ∧ j ≤ 1000000 ∧ P (.tuple (rngD i (j - i).toNat))) : wpE K W0 (tTupRg (tRg2 ta tb)) Γ P := fun W σ S Q k => h W σ S _ fun v W1 c e1 f1 h1 => h1 W1 σ (S.mono e1) _ fun u W2 d e2 f2 ⟨i, j, hc, hd, h0, h1, h2, p⟩ => by
  subst hc hd
  cases f1.int_inv
  cases f2.int_inv
  refine ⟨i, j, rfl, rfl, .of_le h0 (by omega) (by omega) (by omega), fun r hr => ?_⟩
  have f : Dfs K W2 (rgV i j) (rngD i (j - i).toNat) := by
    unfold rgV rngD
    exact dfs_rng i _
  obtain ⟨e, g⟩ := e2.ok.newT hr f
  exact k _ _ _ ((e1.trans e2).trans e) g p
/-- a dict's pairs -/
def wpPs (K : PySem.W.Frag) (W0 : Wd) (trs : List (TE × TE)) (Γ : Gm) (P : List (PyData × PyData) → Prop) : Prop :=
  ∀ W σ, Sat K W0 W σ Γ → ∀ Q : List (V × V) → Hp → Prop, (∀ kvs W' ds, Le W W' → Dps K W' kvs ds → P ds → Q (kvs.map fun kv => (kV kv.1, kv.2)) W'.H) → tPairs trs σ W.H Q
theorem wpPs_nil {P : List (PyData × PyData) → Prop} (p : P []) : wpPs K W0 [] Γ P := fun W σ S Q k => k [] W [] (.refl S.ok) .nil p
theorem wpPs_cons {tk tv : TE} {r : List (TE × TE)} {P : List (PyData × PyData) → Prop} (h : wpE K W0 tk Γ fun y => wpE K W0 tv Γ fun d => (∃ k, y = keyD k) ∧ wpPs K W0 r Γ fun ds => P ((y, d) :: ds)) : wpPs K W0 ((tk, tv) :: r) Γ P := fun W σ S Q k =>
  h W σ S _ fun x W1 y e1 f1 h1 => h1 W1 σ (S.mono e1) _ fun v W2 d e2 f2 ⟨⟨l, el⟩, h2⟩ => by
    subst el
    cases f1.key_inv
    refine h2 W2 σ (S.mono (e1.trans e2)) _ fun kvs W3 ds e3 fs p => ?_
    exact k ((l, v) :: kvs) W3 ((keyD l, d) :: ds) ((e1.trans e2).trans e3) (.cons (Df.mono (e3.lf e2.ok) _ _ f2) fs) p
/-- {k: e, ..} -/
theorem wpK_disp {trs : List (TE × TE)} {P : List (PyData × PyData) → Prop} (h : wpPs K W0 trs Γ fun ds => ds.length ≤ 15 ∧ P (ds.foldl (fun a p => putD a p.1 p.2) [])) : wpK K W0 (tDisp trs) Γ P := fun W σ S Q k => fun p hp => by
  obtain ⟨e, nk⟩ := S.ok.newK (K := K) (kvs := []) (ds := []) hp .nil
  have nf : ¬ W.Fz p := fun f => S.ok.fz p f hp
  have nb : ¬ W.B p := fun f => by
    obtain ⟨_, _, _, z⟩ := S.ok.bx p f
    rw [hp] at z; cases z
  refine h _ σ (S.mono e) _ fun kvs W3 ds e23 fs ⟨hl, pp⟩ => ?_
  have at3 : W3.H p = some (.dK []) := e23.ex p _ upd_same nb
  have nf3 : ¬ W3.Fz p := fun f => by
    have : (upd W.H p (.dK [])) p = none := e23.nf p f nf
    rw [upd_same] at this; cases this
  have nb3 : ¬ W3.B p := fun f => by
    have : (upd W.H p (.dK [])) p = none := e23.nb p f nb
    rw [upd_same] at this; cases this
  have lf := e23.ok.mutLf (o' := .dK (mergeK [] kvs)) at3 trivial nf3 nb3
  refine ⟨at3, kvs, rfl, by rw [fs.length]; exact hl, ?_⟩
  exact k _ ⟨W3.Fz, W3.B, upd W3.H p (.dK (mergeK [] kvs))⟩ _ ((e.trans e23).mut at3 nb3 hp) ⟨p, mergeK [] kvs, rfl, hp, nf3, nb3, upd_same, Dps.mono lf _ _ (Dps.merge .nil fs)⟩ pp
/-- {..}[y] -/
theorem wpE_dgetN {P : PyData → Prop} (h : wpK K W0 te Γ fun ds => wpE K W0 ty Γ fun y => ∃ k d, y = keyD k ∧ getK ds y = some d ∧ P d) : wpE K W0 (tDGet te ty) Γ P := fun W σ S Q q => h W σ S _ fun v W1 ds e1 n h1 => by
  obtain ⟨p, kvs, rfl, hp, nf, nb, at1, fs⟩ := n
  refine h1 W1 σ (S.mono e1) _ fun y W2 dy e2 f2 ⟨l, d, el, g, pp⟩ => ?_
  subst el
  cases f2.key_inv
  have at2 : W2.H p = some (.dK kvs) := e2.ex p _ at1 nb
  have fs2 := Dps.mono (e2.lf e1.ok) _ _ fs
  rcases fs2.get (k := l) with ⟨q1, q2⟩ | ⟨v, d', q1, q2, q3⟩
  · rw [q2] at g; cases g
  · rw [q2] at g; cases g
    exact ⟨p, v, rfl, by rw [← q1]; exact DGet.k at2, q v W2 _ (e1.trans e2) q3 pp⟩
/-- xs.index(x), xs a list of texts -/
theorem wpE_indexE {P : PyData → Prop} (h : wpE K W0 ta Γ fun c => ∃ ss : List Str, c = .list (ss.map PyData.str) ∧ wpE K W0 te Γ fun d => ∃ (x : Str) (j : Nat), d = .str x ∧ ss[j]? = some x ∧ (∀ m, m < j → ss[m]? ≠ some x) ∧ P (.int (j : Nat))) :
    wpE K W0 (tBM K "list" (rIndex K) ta (tCons te tNil)) Γ P := fun W σ S Q k => h W σ S _ fun v W1 c e1 f1 ⟨ss, hc, h1⟩ => by
  subst hc
  obtain ⟨a, vs, rfl, q, f⟩ := (f1.lv e1.ok).sq
  refine .inl ⟨rfl, vs, q⟩ |> fun z => ⟨z, h1 W1 σ (S.mono e1) _ fun u W2 d e f2 ⟨x, j, hd, hj, hm, p⟩ => ?_⟩
  subst hd
  cases f2.str_inv
  obtain ⟨a', vs', e', q', f'⟩ := ((Df.mono (e.lf e1.ok) _ _ f1).lv e.ok).sq
  cases e'
  have ev := dfs_strs f'
  subst ev
  refine ⟨a, ss.map V.str, .str x, j, .str x, rfl, rfl, q', rfl, flat_strs ss, by rw [List.getElem?_map, hj]; rfl, ?_, fun m z hmj hz => ?_, k _ W2 _ (e1.trans e) (.int _) p⟩
  · show decide (x = x) = true
    exact decide_eq_true rfl
  · rw [List.getElem?_map] at hz
    obtain ⟨y, hy, rfl⟩ := Option.map_eq_some_iff.mp hz
    show decide (y = x) = false
    exact decide_eq_false fun z => hm m hmj (by rw [hy, z])
/-- xs.index(x), xs a list of whole numbers -/
theorem wpE_indexI {P : PyData → Prop} (h : wpE K W0 ta Γ fun c => ∃ ss : List Int, c = .list (ss.map PyData.int) ∧ wpE K W0 te Γ fun d => ∃ (x : Int) (j : Nat), d = .int x ∧ ss[j]? = some x ∧ (∀ m, m < j → ss[m]? ≠ some x) ∧ P (.int (j : Nat))) :
    wpE K W0 (tBM K "list" (rIndex K) ta (tCons te tNil)) Γ P := fun W σ S Q k => h W σ S _ fun v W1 c e1 f1 ⟨ss, hc, h1⟩ => by
  subst hc
  obtain ⟨a, vs, rfl, q, f⟩ := (f1.lv e1.ok).sq
  refine .inl ⟨rfl, vs, q⟩ |> fun z => ⟨z, h1 W1 σ (S.mono e1) _ fun u W2 d e f2 ⟨x, j, hd, hj, hm, p⟩ => ?_⟩
  subst hd
  cases f2.int_inv
  obtain ⟨a', vs', e', q', f'⟩ := ((Df.mono (e.lf e1.ok) _ _ f1).lv e.ok).sq
  cases e'
  have ev := dfs_ints f'
  subst ev
  refine ⟨a, ss.map V.int, .int x, j, .int x, rfl, rfl, q', rfl, by simp [flatV], by rw [List.getElem?_map, hj]; rfl, ?_, fun m z hmj hz => ?_, k _ W2 _ (e1.trans e) (.int _) p⟩
  · show decide (x = x) = true
    exact decide_eq_true rfl
  · rw [List.getElem?_map] at hz
    obtain ⟨y, hy, rfl⟩ := Option.map_eq_some_iff.mp hz
    show decide (y = x) = false
    exact decide_eq_false fun z => hm m hmj (by rw [hy, z])
theorem first_at {α : Type} [DecidableEq α] : ∀ {l : List α} {x : α}, x ∈ l → ∃ j : Nat, l[j]? = some x ∧ ∀ m, m < j → l[m]? ≠ some x
  | a :: l, x, h => by
    by_cases e : a = x
    · exact ⟨0, by rw [e]; rfl, fun m hm => absurd hm (Nat.not_lt_zero _)⟩
    · obtain ⟨j, h1, h2⟩ := first_at ((List.mem_cons.mp h).resolve_left fun z => e z.symm)
      refine ⟨j + 1, h1, fun m hm => ?_⟩
      cases m with
      | zero => exact fun z => e (Option.some.inj z)
      | succ m => exact h2 m (by omega)
/-- a, b, c, d = [], [], [], [] by way of a tuple -/
theorem go_tup4 {i j l m : Nat} (p : A.nx ((((Γ.set i (.l [])).set j (.l [])).set l (.l [])).set m (.l []))) : go K W0 (tAsg (tTup (tCons (tLst tNil) (tCons (tLst tNil) (tCons (tLst tNil) (tCons (tLst tNil) tNil))))) (gTup K 4 (gCons (gName i) (gCons (gName j) (gCons (gName l) (gCons (gName m) gNil)))))) Γ A := fun W σ D S c =>
  ⟨Nat.zero_le _, fun q1 h1 => ⟨Nat.zero_le _, fun q2 h2 => ⟨Nat.zero_le _, fun q3 h3 => ⟨Nat.zero_le _, fun q4 h4 => ⟨(by show 4 ≤ sizeLine; decide), fun r hr => by
    obtain ⟨e1, n1⟩ := S.ok.newL (K := K) (ds := []) (vs := []) h1 .nil
    obtain ⟨e2, n2⟩ := e1.ok.newL (K := K) (ds := []) (vs := []) h2 .nil
    obtain ⟨e3, n3⟩ := e2.ok.newL (K := K) (ds := []) (vs := []) h3 .nil
    obtain ⟨e4, n4⟩ := e3.ok.newL (K := K) (ds := []) (vs := []) h4 .nil
    have e5 := e4.ok.new (u := .tup [.ref q1, .ref q2, .ref q3, .ref q4]) hr
    exact ⟨r, [.ref q1, .ref q2, .ref q3, .ref q4], rfl, .inl (.inl upd_same), rfl, _, _, rfl, _, _, rfl, _, _, rfl, _, _, rfl, rfl, c.nx _ _ _ (((((e1.trans e2).trans e3).trans e4).trans e5).lf S.ok) (((((S.setNw e1 n1 i).setNw e2 n2 j).setNw e3 n3 l).setNw e4 n4 m).mono e5) p⟩⟩⟩⟩⟩⟩
/-- a, b, c = {}, [], e, e a new list -/
theorem go_par3KLN {i j l : Nat} (h : wpN K W0 te Γ fun ds => A.nx (((Γ.set i (.k [])).set j (.l [])).set l (.l ds))) : go K W0 (tPar3 i j l (tCons tDNewK (tCons (tLst tNil) (tCons te tNil)))) Γ A := fun W σ D S c => fun q1 h1 => ⟨Nat.zero_le _, fun q2 h2 => by
  obtain ⟨e1, n1⟩ := S.ok.newK (K := K) (kvs := []) (ds := []) h1 .nil
  obtain ⟨e2, n2⟩ := e1.ok.newL (K := K) (ds := []) (vs := []) h2 .nil
  exact h _ σ ((S.mono e1).mono e2) _ fun v W2 ds e3 n p => ⟨.ref q1, .ref q2, v, rfl, c.nx _ W2 _ (((e1.trans e2).trans e3).lf S.ok) (((S.setNwK e1 n1 i).setNw e2 n2 j).setNw e3 n l) p⟩⟩
theorem dfs_all3 {vs : List V} {d e g : PyData} (h : Dfs K W vs [d, e, g]) : ∃ v u t, vs = [v, u, t] ∧ Df K W v d ∧ Df K W u e ∧ Df K W t g := by
  cases h with
  | cons h1 h =>
    obtain ⟨u, t, rfl, h2, h3⟩ := h.all2
    exact ⟨_, u, t, rfl, h1, h2, h3⟩
end
/-! t * k, k from 0 on -/
theorem tuple_none (l : Addr) (items : Array Value) (n : Nat) (dd : Option Addr) (sl : Array (Option Value)) (u : Tok) (ne : items.isEmpty = false) :
    Meets (Builtin.«tuple.__mul__» ⟨[.ref l, .int 0 u], []⟩) (fun _ R s => s.heap.get? l = some { cls := .type "tuple", dict := dd, data := .seq items n, slots := sl } ∧ R (.ok (.ret (Value.ref s.heap.objs.size))) { s with heap := s.heap.push { cls := .type "tuple", data := .seq #[] } }) :=
  .of_wp fun prog w A R s hyp => by
    obtain ⟨hp, g, d, tk, os⟩ := s
    obtain ⟨got, fin⟩ := hyp
    have known := AutoSeq1.idx_int
    wp_walk using AutoSeq1.wpAny_loadPart' got
    exact ⟨_, rfl, fin⟩
def rRepT0 (K : PySem.W.Frag) : R2 := fun x y H Q => ∃ l xs, x = .ref l ∧ y = .int 0 ∧ SqT K H l xs ∧ xs ≠ [] ∧ ∀ p, H p = none → Q (.ref p) (upd H p (.tup []))
theorem op_repT0 {X : Cx} : OpR X (binaryOp .Mult) (rRepT0 X.K) := by
  intro pins s σ H x y v u Q I rx ry hyp
  obtain ⟨l, xs, e1, e2, sq, ne, fin⟩ := hyp
  subst e1 e2
  cases rx
  obtain ⟨t, e3⟩ := ry
  subst e3
  obtain ⟨its, r, ⟨⟨cls, dd, data, sl⟩, ho, hc, n, hd⟩, size⟩ := I.tuple sq
  dsimp only at hc hd
  subst hc hd
  have full : its.toArray.isEmpty = false := by
    cases its with
    | nil => exact absurd (List.eq_nil_of_length_eq_zero (by rw [r.length]; rfl)) ne
    | cons _ _ => rfl
  refine wpAny_binaryOp_repeat_ref (T := "tuple") (U := "int") (by decide) ⟨_, ho, rfl⟩ (fun s' => typeIs_int s' 0 t) noFill_tuple_mul F.fills_int_mul F.slot_int_rmul repeat_tuple F.slot_int_index.lookup
    (call_meets F.slot_int_rmul (typeIs_int s 0 t) F.entry_int_rmul (F.args_int_rmul_2 _ _) (int_rmul_tuple 0 t l its.toArray n dd sl)
      ⟨ho, rfl, ⟨_, ho, rfl⟩, call_meets F.slot_tuple_mul ⟨_, ho, rfl⟩ F.entry_tuple_mul (F.args_tuple_mul_2 _ _) (tuple_none l its.toArray n dd sl t full) ⟨ho, ?_⟩⟩)
  exact ⟨.ref _, _, I.laid (t' := s.toks) (o := .tup []) (fun b ob q => Heap.get?_push_of_some _ q) (Nat.le_refl _) ⟨Nat.zero_le _, [], .nil, IsTup.new _ _⟩, rfl, fin _ (I.hok.fresh (Nat.le_refl _))⟩
def rMULN (K : PySem.W.Frag) : R2 := fun x y H Q => rMULT K x y H Q ∨ rRepT0 K x y H Q
theorem mulN_K {X : Cx} {K : PySem.W.Frag} (h : X.K = K) : OpR X (binaryOp .Mult) (rMULN K) := by
  subst h
  exact OpR.or (mulT_K rfl) op_repT0
theorem opR_repN {K : PySem.W.Frag} {ds : List PyData} {k : Int} {P : PyData → Prop} (hne : ds ≠ []) (h1 : 0 ≤ k) (h2 : k ≤ 1000) (hz : ds.length ≤ 1000) (p : P (.tuple (List.replicate k.toNat ds).flatten)) : opR K (rMULN K) (.tuple ds) (.int k) P := fun W v u ok f1 f2 Q q => by
  by_cases h : 1 ≤ k
  · exact .inl (opR_repT hne h h2 hz p W v u ok f1 f2 Q q)
  · have e : k = 0 := by omega
    subst e
    cases f2.int_inv
    obtain ⟨a, vs, rfl, sq, f⟩ := f1.tup_inv
    refine .inr ⟨a, vs, rfl, rfl, sq, fun e => hne ?_, fun r hr => ?_⟩
    · have := f.length
      rw [e] at this
      exact List.eq_nil_of_length_eq_zero this.symm
    · obtain ⟨e, g⟩ := ok.newT hr (Dfs.nil (K := K))
      exact q _ _ _ e g p
end G

set_option Elab.async false
set_option linter.all false
set_option autoImplicit false
set_option maxRecDepth 100000
set_option maxHeartbeats 4000000
/-! G26: lists added, the right one of the def's own, or both. -/
namespace G
open PySem L2 PyProof.Rows
section
variable {K : PySem.W.Frag} {W0 W : Wd} {Γ : Gm} {ta tb te ty : TE} {A : AE}
/-- new + own -/
theorem wpN_addNV {j : Nat} {P : List PyData → Prop} (h : wpN K W0 ta Γ fun xs => ∃ ys, Γ[j]? = some (.l ys) ∧ xs.length + ys.length ≤ sizeLine ∧ P (xs ++ ys)) : wpN K W0 (tOp (rADD K) ta (tVar j)) Γ P := fun W σ S Q k =>
  h W σ S _ fun v W1 xs e1 n1 ⟨ys, hj, hz, p⟩ => by
    obtain ⟨a, vs, rfl, a2, a3, a4, a5, a6⟩ := n1
    obtain ⟨b, us, h1, h2, h3, h4, h5, h6⟩ := (S.mono e1).varL hj
    refine ⟨_, h1, .inr (.inr (.inl ⟨a, b, vs, us, rfl, rfl, a5, h5, by rw [a6.length, h6.length]; exact hz, fun p' hp => ?_⟩))⟩
    obtain ⟨e, f⟩ := e1.ok.newL hp (a6.append h6)
    exact k _ _ _ (e1.trans e) (f.up S.ok e1) p
/-- own + own -/
theorem wpN_addVV {i j : Nat} {xs ys : List PyData} {P : List PyData → Prop} (hi : Γ[i]? = some (.l xs)) (hj : Γ[j]? = some (.l ys)) (hz : xs.length + ys.length ≤ sizeLine) (p : P (xs ++ ys)) : wpN K W0 (tOp (rADD K) (tVar i) (tVar j)) Γ P := fun W σ S Q k => by
  obtain ⟨a, vs, a1, a2, a3, a4, a5, a6⟩ := S.varL hi
  obtain ⟨b, us, h1, h2, h3, h4, h5, h6⟩ := S.varL hj
  refine ⟨_, a1, _, h1, .inr (.inr (.inl ⟨a, b, vs, us, rfl, rfl, a5, h5, by rw [a6.length, h6.length]; exact hz, fun p' hp => ?_⟩))⟩
  obtain ⟨e, f⟩ := S.ok.newL hp (a6.append h6)
  exact k _ _ _ e f p
theorem enD_mem {ds : List PyData} {d : PyData} (h : d ∈ enD ds) : ∃ (i : Nat) (e : PyData), d = .tuple [.int (i : Nat), e] ∧ ds[i]? = some e := by
  unfold enD at h
  obtain ⟨i, hi, rfl⟩ := List.mem_map.mp h
  have hi := List.mem_range.mp hi
  exact ⟨i, ds[i], by rw [List.getD_eq_getElem?_getD, List.getElem?_eq_getElem hi]; rfl, List.getElem?_eq_getElem hi⟩
theorem enD_at {ds : List PyData} {i : Nat} {d : PyData} (h : (enD ds)[i]? = some d) : ∃ e : PyData, d = .tuple [.int (i : Nat), e] ∧ ds[i]? = some e := by
  have hl : i < ds.length := by
    have := (List.getElem?_eq_some_iff.mp h).1
    rw [enD_len] at this
    exact this
  unfold enD at h
  rw [List.getElem?_map, List.getElem?_range hl] at h
  cases h
  exact ⟨ds[i], by show PyData.tuple [_, ds.getD i .none] = _; rw [List.getD_eq_getElem?_getD, List.getElem?_eq_getElem hl]; rfl, List.getElem?_eq_getElem hl⟩
end
end G

set_option Elab.async false
set_option linter.all false
set_option autoImplicit false
set_option maxRecDepth 100000
set_option maxHeartbeats 4000000
/-! G27: zip(x, y), x a list, y a tuple. -/
namespace ZX
open PySem
open PySem.Sem (wp)
/-- an iterator i of what stands at l; St k h: k items are gone -/
structure Nx (prog : Program) (w : World) (i l : Addr) (xs : Array Value) (St : Nat → Heap → Prop) : Prop where
  at_ : ∀ k (h h' : Heap), St k h → (∀ c, c = i ∨ c = l → ∀ o, h.get? c = some o → h'.get? c = some o) → St k h'
  item : ∀ k x (A : Around) (s : Shared) (Q : Value → Shared → Prop) (E : Value → Shared → Prop), xs[k]? = some x → l ≠ i → St k s.heap → (∀ g, Heap.SameBut i s.heap g → St (k + 1) g → Q x { s with heap := g }) → wpAny (model prog w) A (Builtin.SmallTypes.nextOf (.ref i)) Q E s
  stop : ∀ k (A : Around) (s : Shared) (Q : Value → Shared → Prop) (E : Value → Shared → Prop), A.handled = none → xs[k]? = none → St k s.heap → (∀ g e, Heap.ExtBut i s.heap g → (∃ o, g.get? e = some o ∧ o.cls = .type "StopIteration") → E (.ref e) { s with heap := g }) → wpAny (model prog w) A (Builtin.SmallTypes.nextOf (.ref i)) Q E s
theorem nx_list {prog : Program} {w : World} {i l : Addr} {xs : Array Value} : Nx prog w i l xs fun k h => h.IsListIter i l k ∧ h.IsList l xs where
  at_ := fun k h h' ⟨a, b⟩ e => ⟨a.at (e _ (.inl rfl)), b.at (e _ (.inr rfl))⟩
  item := fun k x A s Q E hx hli ⟨a, b⟩ q => wpAny_nextOf_list_item a b hx fun g a' same => q g same ⟨a', b.at fun o e => same.extBut _ _ hli e⟩
  stop := fun k A s Q E hc hx ⟨a, b⟩ q => wpAny_nextOf_list_end hc a b hx q
theorem nx_tuple {prog : Program} {w : World} {i l : Addr} {xs : Array Value} : Nx prog w i l xs fun k h => h.IsTupleIter i l k ∧ h.IsTuple l xs where
  at_ := fun k h h' ⟨a, b⟩ e => ⟨a.at (e _ (.inl rfl)), b.at (e _ (.inr rfl))⟩
  item := fun k x A s Q E hx hli ⟨a, b⟩ q => RZ.nextOf_tuple_item a b hx fun g a' same => q g same ⟨a', b.at fun o e => same.extBut _ _ hli e⟩
  stop := fun k A s Q E hc hx ⟨a, b⟩ q => RZ.nextOf_tuple_end hc a b hx q
theorem or_ne {c i l p : Addr} (h : c = i ∨ c = l) (h1 : i ≠ p) (h2 : l ≠ p) : c ≠ p := by
  rcases h with rfl | rfl
  · exact h1
  · exact h2
section
variable {prog : Program} {w : World} {A : Around} {E : Value → Shared → Prop} {s : Shared} {zp ti to_ j1 j2 m1 m2 : Addr} {xs ys : Array Value} {S1 S2 : Nat → Heap → Prop} {k : Nat} {x y a b : Value}
theorem some_next {Q : Value → Shared → Prop} (D : ZipApart zp ti to_ j1 j2 m1 m2) (N1 : Nx prog w j1 m1 xs S1) (N2 : Nx prog w j2 m2 ys S2)
    (c0 : IsZip s.heap zp ti to_ .none) (c1 : IsPair s.heap ti (.ref j1) (.ref j2)) (c2 : IsPair s.heap to_ a b) (e1 : S1 k s.heap) (e2 : S2 k s.heap) (ex : xs[k]? = some x) (ey : ys[k]? = some y)
    (fin : ∀ g, IsZip g zp ti to_ (rawInt s.heap.objs.size) → IsPair g to_ x y → S1 (k + 1) g → S2 (k + 1) g → IsPair g s.heap.objs.size x y → g.objs.size = s.heap.objs.size + 1 →
      (∀ c o, c ≠ zp → c ≠ to_ → c ≠ j1 → c ≠ j2 → s.heap.get? c = some o → g.get? c = some o) → Q (.ref s.heap.objs.size) { s with heap := g }) :
    wpAny (model prog w) A (Builtin.«zip.__next__» ⟨[.ref zp], []⟩) (fun r s' => ∃ v, r = .done (.ret v) ∧ Q v s') E s := by
  show wpAny _ _ (field (.ref zp) 2 >>= _) _ _ s
  refine wpAny_bind (wpAny_field c0 rfl (x := .bool false) rfl ?_)
  show wpAny _ _ (field (.ref zp) 3 >>= _) _ _ s
  refine wpAny_bind (wpAny_field c0 rfl (x := .ref ti) rfl (wpAny_bind (wpAny_seqItems c1 rfl ?_)))
  show wpAny _ _ (Builtin.SmallTypes.ownedTupleIsFree (.ref zp) >>= _) _ _ s
  refine wpAny_bind ?_
  unfold Builtin.SmallTypes.ownedTupleIsFree
  refine wpAny_bind (wpAny_field c0 rfl (x := .none) rfl (wpAny_pure ?_))
  simp only [if_true]
  refine wpAny_bind (wpAny_rule (wpAny_bind (wpAny_field c0 rfl (x := .ref to_) rfl (wpAny_bind (wpAny_setField_rec c0 (by simp) fun g1 z1 t1 => ?_)))))
  replace z1 : IsZip g1 zp ti to_ .ellipsis := z1
  refine wpAny_bind ?_
  simp only [List.zipIdx_cons, List.zipIdx_nil, List.forIn_cons, List.forIn_nil]
  refine wpAny_bind (wpAny_bind (wpAny_onRaise ?_))
  show wpAny _ _ (Builtin.SmallTypes.nextOf (.ref j1) >>= _) _ _ { s with heap := g1 }
  refine wpAny_bind (N1.item k x _ _ _ _ ex D.l1i1 (N1.at_ _ _ _ e1 fun c hc o q => t1.extBut _ _ (or_ne hc D.i1z D.l1z) q) fun g2 t2 f1 => wpAny_pure ?_)
  have p2 : IsPair g2 to_ a b := t2.extBut _ _ D.TOi1 (t1.extBut _ _ D.TOz c2)
  refine wpAny_bind (wpAny_seqItems p2 rfl (wpAny_bind (wpAny_updateSeq_pair p2 fun g3 p3 t3 => ?_)))
  replace p3 : IsPair g3 to_ x b := p3
  refine wpAny_bind (wpAny_letGo (wpAny_pure (wpAny_bind (wpAny_bind (wpAny_onRaise ?_)))))
  show wpAny _ _ (Builtin.SmallTypes.nextOf (.ref j2) >>= _) _ _ { s with heap := g3 }
  have f2 : S2 k g3 := N2.at_ _ _ _ e2 fun c hc o q => t3.extBut _ _ (or_ne hc D.TOi2.symm D.l2TO) (t2.extBut _ _ (or_ne hc D.i12.symm D.l2i1) (t1.extBut _ _ (or_ne hc D.i2z D.l2z) q))
  refine wpAny_bind (N2.item k y _ _ _ _ ey D.l2i2 f2 fun g4 t4 f4 => wpAny_pure ?_)
  have p4 : IsPair g4 to_ x b := t4.extBut _ _ D.TOi2 p3
  refine wpAny_bind (wpAny_seqItems p4 rfl (wpAny_bind (wpAny_updateSeq_pair p4 fun g5 p5 t5 => ?_)))
  replace p5 : IsPair g5 to_ x y := p5
  refine wpAny_bind (wpAny_letGo (wpAny_pure (wpAny_pure (wpAny_bind (wpAny_seqItems p5 rfl (wpAny_bind (wpAny_newTuple ?_)))))))
  have size5 : g5.objs.size = s.heap.objs.size := by rw [t5.1, t4.1, t3.1, t2.1, t1.1]
  have z5 : IsZip g5 zp ti to_ .ellipsis := t5.extBut _ _ D.TOz.symm (t4.extBut _ _ D.i2z.symm (t3.extBut _ _ D.TOz.symm (t2.extBut _ _ D.i1z.symm z1)))
  have keep : ∀ c o, c ≠ zp → c ≠ to_ → c ≠ j1 → c ≠ j2 → s.heap.get? c = some o → g5.get? c = some o := fun c o q1 q2 q3 q4 e => t5.extBut _ _ q2 (t4.extBut _ _ q4 (t3.extBut _ _ q2 (t2.extBut _ _ q3 (t1.extBut _ _ q1 e))))
  have f15 : S1 (k + 1) g5 := N1.at_ _ _ _ f1 fun c hc o q => t5.extBut _ _ (or_ne hc D.TOi1.symm D.l1TO) (t4.extBut _ _ (or_ne hc D.i12 D.l1i2) (t3.extBut _ _ (or_ne hc D.TOi1.symm D.l1TO) q))
  have f25 : S2 (k + 1) g5 := N2.at_ _ _ _ f4 fun c hc o q => t5.extBut _ _ (or_ne hc D.TOi2.symm D.l2TO) q
  have zlt : zp < g5.objs.size := Heap.lt_size z5
  show wpAny _ _ (Builtin.SmallTypes.ownedTupleHandOut (.ref zp) (.ref g5.objs.size) >>= _) _ _ _
  refine wpAny_bind ?_
  unfold Builtin.SmallTypes.ownedTupleHandOut
  have z6 : IsZip (g5.push { cls := .type "tuple", data := .seq #[x, y] }) zp ti to_ .ellipsis := Heap.get?_push_of_some _ z5
  refine wpAny_bind (wpAny_setField_rec z6 (by simp) fun g7 z7 t7 => ?_)
  replace z7 : IsZip g7 zp ti to_ (rawInt g5.objs.size) := z7
  refine wpAny_setField_rec z7 (by simp) fun g8 z8 t8 => ?_
  replace z8 : IsZip g8 zp ti to_ (rawInt g5.objs.size) := z8
  have up : ∀ c o, c ≠ zp → g5.get? c = some o → g8.get? c = some o := fun c o q1 e => t8.extBut _ _ q1 (t7.extBut _ _ q1 (Heap.get?_push_of_some _ e))
  have p8 : IsPair g8 g5.objs.size x y := t8.extBut _ _ (Nat.ne_of_gt zlt) (t7.extBut _ _ (Nat.ne_of_gt zlt) (Heap.get?_push_size _ rfl))
  have size8 : g8.objs.size = g5.objs.size + 1 := by rw [t8.1, t7.1, Heap.size_push]
  rw [size5] at z8 p8 size8
  refine wpAny_pure ⟨_, rfl, (?_ : Q (.ref g5.objs.size) _)⟩
  rw [size5]
  exact fin g8 z8 (up _ _ D.TOz p5) (N1.at_ _ _ _ f15 fun c hc o q => up c o (or_ne hc D.i1z D.l1z) q) (N2.at_ _ _ _ f25 fun c hc o q => up c o (or_ne hc D.i2z D.l2z) q) p8 size8 fun c o q1 q2 q3 q4 e => up c o q1 (keep c o q1 q2 q3 q4 e)
theorem none_next {Q : Fin → Shared → Prop} (calm : A.handled = none) (D : ZipApart zp ti to_ j1 j2 m1 m2) (N1 : Nx prog w j1 m1 xs S1) (N2 : Nx prog w j2 m2 ys S2)
    (c0 : IsZip s.heap zp ti to_ .none) (c1 : IsPair s.heap ti (.ref j1) (.ref j2)) (c2 : IsPair s.heap to_ a b) (e1 : S1 k s.heap) (e2 : S2 k s.heap) (ends : xs[k]? = none ∨ ys[k]? = none)
    (fin : ∀ g e, (∀ c o, c ≠ zp → c ≠ to_ → c ≠ j1 → c ≠ j2 → s.heap.get? c = some o → g.get? c = some o) → (∃ o, g.get? e = some o ∧ o.cls = .type "StopIteration") → E (.ref e) { s with heap := g }) :
    wpAny (model prog w) A (Builtin.«zip.__next__» ⟨[.ref zp], []⟩) Q E s := by
  show wpAny _ _ (field (.ref zp) 2 >>= _) _ _ s
  refine wpAny_bind (wpAny_field c0 rfl (x := .bool false) rfl ?_)
  show wpAny _ _ (field (.ref zp) 3 >>= _) _ _ s
  refine wpAny_bind (wpAny_field c0 rfl (x := .ref ti) rfl (wpAny_bind (wpAny_seqItems c1 rfl ?_)))
  show wpAny _ _ (Builtin.SmallTypes.ownedTupleIsFree (.ref zp) >>= _) _ _ s
  refine wpAny_bind ?_
  unfold Builtin.SmallTypes.ownedTupleIsFree
  refine wpAny_bind (wpAny_field c0 rfl (x := .none) rfl (wpAny_pure ?_))
  simp only [if_true]
  refine wpAny_bind (wpAny_rule (wpAny_bind (wpAny_field c0 rfl (x := .ref to_) rfl (wpAny_bind (wpAny_setField_rec c0 (by simp) fun g1 z1 t1 => ?_)))))
  replace z1 : IsZip g1 zp ti to_ .ellipsis := z1
  refine wpAny_bind ?_
  simp only [List.zipIdx_cons, List.zipIdx_nil, List.forIn_cons, List.forIn_nil]
  refine wpAny_bind (wpAny_bind (wpAny_onRaise ?_))
  show wpAny _ _ (Builtin.SmallTypes.nextOf (.ref j1) >>= _) _ _ { s with heap := g1 }
  have f0 : S1 k g1 := N1.at_ _ _ _ e1 fun c hc o q => t1.extBut _ _ (or_ne hc D.i1z D.l1z) q
  cases ex : xs[k]? with
  | none =>
    refine wpAny_bind (N1.stop k _ _ _ _ calm ex f0 fun g2 e t2 he => ?_)
    obtain ⟨oe, g2e, ce⟩ := he
    have z2 : IsZip g2 zp ti to_ .ellipsis := t2 _ _ D.i1z.symm z1
    have ne : e ≠ zp := fun q => by
      subst q
      rw [z2] at g2e
      cases g2e
      simp at ce
    exact wpAny_setField_rec z2 (by simp) fun g3 _ t3 => fin g3 e (fun c o q1 _ q3 _ q => t3.extBut _ _ q1 (t2 _ _ q3 (t1.extBut _ _ q1 q))) ⟨oe, t3.extBut _ _ ne g2e, ce⟩
  | some x =>
    have ey : ys[k]? = none := ends.elim (fun h => by rw [ex] at h; cases h) id
    refine wpAny_bind (N1.item k x _ _ _ _ ex D.l1i1 f0 fun g2 t2 f1 => wpAny_pure ?_)
    have p2 : IsPair g2 to_ a b := t2.extBut _ _ D.TOi1 (t1.extBut _ _ D.TOz c2)
    refine wpAny_bind (wpAny_seqItems p2 rfl (wpAny_bind (wpAny_updateSeq_pair p2 fun g3 p3 t3 => ?_)))
    refine wpAny_bind (wpAny_letGo (wpAny_pure (wpAny_bind (wpAny_bind (wpAny_onRaise ?_)))))
    show wpAny _ _ (Builtin.SmallTypes.nextOf (.ref j2) >>= _) _ _ { s with heap := g3 }
    have f2 : S2 k g3 := N2.at_ _ _ _ e2 fun c hc o q => t3.extBut _ _ (or_ne hc D.TOi2.symm D.l2TO) (t2.extBut _ _ (or_ne hc D.i12.symm D.l2i1) (t1.extBut _ _ (or_ne hc D.i2z D.l2z) q))
    refine wpAny_bind (N2.stop k _ _ _ _ calm ey f2 fun g4 e t4 he => ?_)
    obtain ⟨oe, g4e, ce⟩ := he
    have z4 : IsZip g4 zp ti to_ .ellipsis := t4 _ _ D.i2z.symm (t3.extBut _ _ D.TOz.symm (t2.extBut _ _ D.i1z.symm z1))
    have ne : e ≠ zp := fun q => by
      subst q
      rw [z4] at g4e
      cases g4e
      simp at ce
    exact wpAny_setField_rec z4 (by simp) fun g5 _ t5 => fin g5 e (fun c o q1 q2 q3 q4 q => t5.extBut _ _ q1 (t4 _ _ q4 (t3.extBut _ _ q2 (t2.extBut _ _ q3 (t1.extBut _ _ q1 q))))) ⟨oe, t5.extBut _ _ ne g4e, ce⟩
end
/-! the zip itself -/
abbrev mk1 (h : Heap) (l1 : Addr) : Heap := h.push { cls := .type "list_iterator", data := .fields #[.ref l1, .int 0 0] }
abbrev mk2 (h : Heap) (l1 l2 : Addr) : Heap := (mk1 h l1).push { cls := .type "tuple_iterator", data := .fields #[.ref l2, .int 0 0] }
abbrev mk3 (h : Heap) (l1 l2 : Addr) : Heap := (mk2 h l1 l2).push { cls := .type "tuple", data := .seq #[.ref h.objs.size, .ref (mk1 h l1).objs.size] }
abbrev mk4 (h : Heap) (l1 l2 : Addr) : Heap := (mk3 h l1 l2).push { cls := .type "tuple", data := .seq #[.none, .none] }
abbrev mk5 (h : Heap) (l1 l2 : Addr) : Heap := (mk4 h l1 l2).push { cls := .type "zip", data := .fields #[.none, .bool false, .bool false, .ref (mk2 h l1 l2).objs.size, .ref (mk3 h l1 l2).objs.size] }
theorem meets_new (l1 l2 : Addr) (xs ys : Array Value) :
    Meets (Builtin.«zip.__new__» ⟨[.type "zip", .ref l1, .ref l2], []⟩) (fun _ R s => (s.heap.IsList l1 xs ∧ s.heap.IsTuple l2 ys) ∧ R (.ok (.ret (.ref (mk4 s.heap l1 l2).objs.size))) { s with heap := mk5 s.heap l1 l2 }) :=
  .of_wp fun prog w A R s hyp => by
    obtain ⟨hp, g, d, tk, os⟩ := s
    obtain ⟨⟨b1, b2⟩, fin⟩ := hyp
    have known := sub_zip
    have i1 : Heap.IsList (Shared.heap ⟨hp, g, d, tk, os⟩) l1 xs := b1
    have i2 : Heap.IsTuple (Shared.heap ⟨mk1 hp l1, g, d, tk, os⟩) l2 ys := Heap.IsTuple.push b2 _
    wp_walk using wpAny_pyIter_list i1, wpAny_pyIter_tuple i2
    exact ⟨_, rfl, fin⟩
theorem call_zipLT {prog : Program} {w : World} {A : Around} {E : Value → Shared → Prop} {s : Shared} {l1 l2 : Addr} {xs ys : Array Value} {Q : Value → Shared → Prop} (b1 : s.heap.IsList l1 xs) (b2 : s.heap.IsTuple l2 ys)
    (fin : ∀ g, IsZip g (s.heap.objs.size + 4) (s.heap.objs.size + 2) (s.heap.objs.size + 3) .none → IsPair g (s.heap.objs.size + 2) (.ref s.heap.objs.size) (.ref (s.heap.objs.size + 1)) → IsPair g (s.heap.objs.size + 3) .none .none →
      g.IsListIter s.heap.objs.size l1 0 → g.IsTupleIter (s.heap.objs.size + 1) l2 0 → (∀ c o, s.heap.get? c = some o → g.get? c = some o) → Q (.ref (s.heap.objs.size + 4)) { s with heap := g }) :
    wpAny (model prog w) A (call (.type "zip") [.ref l1, .ref l2]) Q E s := by
  refine callType_new F.called_zip (by decide) (F.typeCall_zip_2 _ _) (F.newCall_zip_2 _ _) (fun ob => F.args_object_init_3 ob _ _) F.entry_zip_new (meets_new l1 l2 xs ys) ⟨⟨b1, b2⟩, ?_⟩
  have n1 : (mk1 s.heap l1).objs.size = s.heap.objs.size + 1 := Heap.size_push ..
  have n2 : (mk2 s.heap l1 l2).objs.size = s.heap.objs.size + 2 := by rw [Heap.size_push, n1]
  have n3 : (mk3 s.heap l1 l2).objs.size = s.heap.objs.size + 3 := by rw [Heap.size_push, n2]
  have n4 : (mk4 s.heap l1 l2).objs.size = s.heap.objs.size + 4 := by rw [Heap.size_push, n3]
  have p5 : (mk5 s.heap l1 l2).get? (mk4 s.heap l1 l2).objs.size = some _ := Heap.get?_push_size _ rfl
  have p4 : (mk5 s.heap l1 l2).get? (mk3 s.heap l1 l2).objs.size = some _ := Heap.get?_push_of_some _ (Heap.get?_push_size _ rfl)
  have p3 : (mk5 s.heap l1 l2).get? (mk2 s.heap l1 l2).objs.size = some _ := Heap.get?_push_of_some _ (Heap.get?_push_of_some _ (Heap.get?_push_size _ rfl))
  have p2 : (mk5 s.heap l1 l2).get? (mk1 s.heap l1).objs.size = some _ := Heap.get?_push_of_some _ (Heap.get?_push_of_some _ (Heap.get?_push_of_some _ (Heap.get?_push_size _ rfl)))
  have p1 : (mk5 s.heap l1 l2).get? s.heap.objs.size = some _ := Heap.get?_push_of_some _ (Heap.get?_push_of_some _ (Heap.get?_push_of_some _ (Heap.get?_push_of_some _ (Heap.get?_push_size _ rfl))))
  refine (?_ : _ ∧ _)
  rw [n2, n3, n4] at p5
  rw [n1, n2] at p3
  rw [n3] at p4
  rw [n1] at p2
  rw [n4]
  exact ⟨⟨_, p5, rfl⟩, fin _ p5 p3 p4 ⟨_, p1, rfl, rfl⟩ ⟨_, p2, rfl, rfl⟩ fun c o q => Heap.get?_push_of_some _ (Heap.get?_push_of_some _ (Heap.get?_push_of_some _ (Heap.get?_push_of_some _ (Heap.get?_push_of_some _ q))))⟩
end ZX

namespace G
open PySem L2 PyProof.Rows
/-- the list at a and the tuple at b, the items in new pairs -/
def ItM (K : PySem.W.Frag) (a b : Addr) : It :=
  ⟨fun i H => ∃ xs ys x y, SqL K H a xs ∧ SqT K H b ys ∧ (xs[i]? = some x ∧ ys[i]? = some y),
    fun i H v H' => ∃ q x y, v = .ref q ∧ H q = none ∧ H' = upd H q (.tup [x, y]) ∧ (∀ xs, SqL K H a xs → xs[i]? = some x) ∧ (∀ ys, SqT K H b ys → ys[i]? = some y),
    fun i H => ∃ xs ys, SqL K H a xs ∧ SqT K H b ys ∧ (List.length xs ≤ i ∨ List.length ys ≤ i)⟩
def StM (a b z ti to_ i1 i2 : Addr) (i : Nat) (h : Heap) : Prop := IsZip h z ti to_ .none ∧ IsPair h ti (.ref i1) (.ref i2) ∧ (∃ x y, IsPair h to_ x y) ∧ h.IsListIter i1 a i ∧ h.IsTupleIter i2 b i
theorem five {c z ti to_ i1 i2 : Addr} (h : c ∈ [z, ti, to_, i1, i2]) : c = z ∨ c = ti ∨ c = to_ ∨ c = i1 ∨ c = i2 := by simpa using h
theorem turn_M {P : Program} {w : World} {K : PySem.W.Frag} {els : List Expr} {n : Nat} {q : Pos} {a b z ti to_ i1 i2 : Addr} (D : ZipApart z ti to_ i1 i2 a b) :
    Turn P w K (.Tuple els n q) (ItM K a b) [z, ti, to_, i1, i2] z (StM a b z ti to_ i1 i2) where
  mem := List.mem_cons_self
  obj := fun i h ⟨c0, c1, ⟨x, y, c2⟩, ⟨o1, e1, _, d1⟩, ⟨o2, e2, _, d2⟩⟩ c hc => by
    rcases five hc with r | r | r | r | r <;> subst r
    · exact ⟨_, c0, fun v q => nomatch q⟩
    · exact ⟨_, c1, fun v q => nomatch q⟩
    · exact ⟨_, c2, fun v q => nomatch q⟩
    · exact ⟨o1, e1, fun v q => by rw [d1] at q; exact nomatch q⟩
    · exact ⟨o2, e2, fun v q => by rw [d2] at q; exact nomatch q⟩
  keep := fun i h h' ⟨c0, c1, ⟨x, y, c2⟩, c3, c4⟩ k => ⟨k z (by simp) _ c0, k ti (by simp) _ c1, ⟨x, y, k to_ (by simp) _ c2⟩, c3.at fun o q => k i1 (by simp) o q, c4.at fun o q => k i2 (by simp) o q⟩
  item := by
    intro X hP hw hK _ i pins s σ H E I free ⟨c0, c1, ⟨x0, y0, c2⟩, c3, c4⟩ ⟨xs, ys, x, y, sx, sy, hx, hy⟩
    subst hP hw hK
    obtain ⟨its, rv, p, _⟩ := I.list sx
    obtain ⟨jts, rw_, p', _⟩ := I.tuple sy
    obtain ⟨u, hu, ru⟩ := rv.get hx
    obtain ⟨v, hv, rv'⟩ := rw_.get hy
    have zs : z < s.heap.objs.size := Heap.lt_size c0
    have ty : s.TypeIs (.ref z) "zip" := ⟨_, c0, rfl⟩
    unfold pyNext
    refine wpAny_bind (wpAny_attempt (wpAny_callSpecial?_slot (name := Str.ofString "__next__") ty F.slot_zip_next (wpAny_call_entry F.slot_zip_next ty F.entry_zip_next
      (ZX.some_next D ZX.nx_list ZX.nx_tuple c0 c1 c2 ⟨c3, p.isList⟩ ⟨c4, p'⟩ (x := u) (y := v) (by simpa using hu) (by simpa using hv) fun g z1 t1 ⟨e1, _⟩ ⟨e2, _⟩ pr sz kp => wpAny_pure ?_) (F.args_zip_next_1 _))))
    refine ⟨_, rfl, wpAny_letOwnedTupleGo_zip (s := { s with heap := g }) z1 fun g' z2 same => ?_⟩
    have pr' : g'.get? s.heap.objs.size = some { cls := .type "tuple", data := .seq #[u, v] } := (same.2 _ (Nat.ne_of_gt zs)).trans pr
    have made : ObjOk X.prog X.w (upd H s.heap.objs.size (.tup [x, y])) g' s.heap.objs.size (.tup [x, y]) := ⟨by show 2 ≤ sizeLine; decide, [u, v], .cons ru (.cons rv' .nil), ⟨_, pr', rfl, _, rfl⟩⟩
    have kept : ∀ c o, c ∉ [z, ti, to_, i1, i2] → s.heap.get? c = some o → g'.get? c = some o := fun c o hb q =>
      (same.2 c (fun r => hb (by simp [r]))).trans (kp c o (fun r => hb (by simp [r])) (fun r => hb (by simp [r])) (fun r => hb (by simp [r])) (fun r => hb (by simp [r])) q)
    have I1 : Inv X pins σ (upd H s.heap.objs.size (.tup [x, y])) { s with heap := g' } := I.turnedNew (t' := s.toks) (ch := [z, ti, to_, i1, i2]) kept free (Nat.le_refl _) made
    refine ⟨.ref s.heap.objs.size, _, I1, rfl, ⟨_, x, y, rfl, I.hok.fresh (Nat.le_refl _), rfl, fun l hl => by rw [I.list_inj hl sx]; exact hx, fun l hl => by rw [I.tuple_inj hl sy]; exact hy⟩,
      ⟨z2, (same.2 _ D.TIz).trans (kp _ _ D.TIz D.TITO D.TIi1 D.TIi2 c1), ⟨u, v, (same.2 _ D.TOz).trans t1⟩, e1.at fun o q => (same.2 _ D.i1z).trans q, e2.at fun o q => (same.2 _ D.i2z).trans q⟩, fun c hc => ?_⟩
    have hlt : c < s.heap.objs.size := by
      obtain ⟨o3, q3, _⟩ := c3
      obtain ⟨o4, q4, _⟩ := c4
      rcases five hc with r | r | r | r | r <;> subst r
      · exact zs
      · exact Heap.lt_size c1
      · exact Heap.lt_size c2
      · exact Heap.lt_size q3
      · exact Heap.lt_size q4
    rw [upd_ne (Nat.ne_of_lt hlt)]
    exact (free c hc).1
  done := by
    intro X hP hw hK hc i pins s σ H E I free ⟨c0, c1, ⟨x0, y0, c2⟩, c3, c4⟩ ⟨xs, ys, sx, sy, ends⟩
    subst hP hw hK
    obtain ⟨its, rv, p, _⟩ := I.list sx
    obtain ⟨jts, rw_, p', _⟩ := I.tuple sy
    have n1 := rv.length
    have n2 := rw_.length
    have ends' : its.toArray[i]? = none ∨ jts.toArray[i]? = none := ends.elim (fun q => .inl (by simp; omega)) fun q => .inr (by simp; omega)
    have ty : s.TypeIs (.ref z) "zip" := ⟨_, c0, rfl⟩
    unfold pyNext
    refine wpAny_bind (wpAny_attempt (wpAny_callSpecial?_slot (name := Str.ofString "__next__") ty F.slot_zip_next (wpAny_call_entry F.slot_zip_next ty F.entry_zip_next
      (ZX.none_next (I.ok.hd hc) D ZX.nx_list ZX.nx_tuple c0 c1 c2 ⟨c3, p.isList⟩ ⟨c4, p'⟩ ends' fun g e kp he => ?_) (F.args_zip_next_1 _))))
    obtain ⟨o, ho, ce⟩ := he
    refine wpAny_bind (wpAny_isInstance (T := "StopIteration") (b := true) ⟨o, ho, ce⟩ isSubtype_stop (wpAny_pure ⟨rfl, I.turnedL (t' := s.toks) (ch := [z, ti, to_, i1, i2]) (fun c o hb q => ?_) free⟩))
    exact kp c o (fun r => hb (by simp [r])) (fun r => hb (by simp [r])) (fun r => hb (by simp [r])) (fun r => hb (by simp [r])) q
  self := fun A i s Q E st h => wpAny_pyIter_zip st.1 h
def iZipM (K : PySem.W.Frag) (ta : TA) : TI := fun σ H R => ta σ H fun vs H1 => ∃ a b xs ys, vs = [.ref a, .ref b] ∧ SqL K H1 a xs ∧ SqT K H1 b ys ∧ R (ItM K a b) H1
section
variable {K : PySem.W.Frag} {X : Cx}
theorem zipM_K {e e2 : Expr} {ta : TA} {p pos tpos : Pos} {elts : List Expr} {kk : Nat} (h : X.K = K) (hg : Gl X "zip") (hm : X.mg "zip" = none) (ha : PA X [e, e2] ta)
    (hs : starEach [e, e2] X.env = (false, eval e X.env) :: starEach [e2] X.env := by rfl) (hpl : (backTo pos (starEach [e2] X.env)).any (·.1) = false := by rfl) : PI X (.Tuple elts kk tpos) (.Call (.Name "zip" p) [e, e2] [] pos) (iZipM K ta) := by
  subst h
  refine ⟨fun pins s σ H R I hyp => Call_ (ld_blt I hg hm PyProof.Rows.boot_zip (PyProof.Rows.callWith_type1 (thn (ha.run pos pins s σ H _ I hyp) fun us s1 ⟨vs, H1, I1, r1, q1⟩ => ?_) hs hpl))⟩
  obtain ⟨a, b, xs, ys, rfl, sx, sy, q⟩ := q1
  obtain ⟨ua, ub, rfl, ra, rb⟩ : ∃ ua ub, us = [ua, ub] ∧ RelV (.ref a) ua ∧ RelV (.ref b) ub := by
    cases r1 with
    | cons ra rr =>
      cases rr with
      | cons rb rr =>
        cases rr
        exact ⟨_, _, rfl, ra, rb⟩
  cases ra
  cases rb
  obtain ⟨its, rv, p1, _⟩ := I1.list sx
  obtain ⟨jts, rw_, p2, _⟩ := I1.tuple sy
  obtain ⟨o2, ho2, _⟩ := id p2
  have new5 : ∀ c, c ∈ [s1.heap.objs.size + 4, s1.heap.objs.size + 2, s1.heap.objs.size + 3, s1.heap.objs.size, s1.heap.objs.size + 1] → FpOk X pins H1 c := fun c hc => by
    have le : s1.heap.objs.size ≤ c := by
      rcases five hc with r | r | r | r | r
      · rw [r]; exact Nat.le_add_right _ _
      · rw [r]; exact Nat.le_add_right _ _
      · rw [r]; exact Nat.le_add_right _ _
      · rw [r]; exact Nat.le_refl _
      · rw [r]; exact Nat.le_add_right _ _
    exact I1.fpOk le (I1.hok.fresh le)
  refine ZX.call_zipLT p1.isList (show s1.heap.IsTuple b jts.toArray from p2) fun g c0 c1 c2 c3 c4 kp => wpAny_pyIter_zip c0 ⟨_, [s1.heap.objs.size + 4, s1.heap.objs.size + 2, s1.heap.objs.size + 3, s1.heap.objs.size, s1.heap.objs.size + 1], _, _, H1, rfl, I1.kept (t' := s1.toks) kp, turn_M (PySem.W.ktu_apart s1.heap.objs.size a b p1.lt (Heap.lt_size ho2)), ⟨c0, c1, ⟨_, _, c2⟩, c3, c4⟩, new5, q⟩
end
section
variable {K : PySem.W.Frag} {W0 W : Wd} {Γ : Gm} {ta tb te ty : TE}
theorem itd_zipM {M : Wd → Prop} {a b : Addr} {vs us : List V} {ds es : List PyData} (hM : ∀ W', M W' → (SqL K W'.H a vs ∧ Dfs K W' vs ds) ∧ SqT K W'.H b us ∧ Dfs K W' us es) (hl : vs.length = ds.length) (hm : us.length = es.length) : ItD K M (ItM K a b) (zipD ds es) where
  go := fun W2 i g hi => by
    rw [zipD_len] at hi
    obtain ⟨⟨q1, _⟩, q2, _⟩ := hM W2 g
    exact ⟨vs, us, vs[i]'(by omega), us[i]'(by omega), q1, q2, List.getElem?_eq_getElem _, List.getElem?_eq_getElem _⟩
  stop := fun W2 i g hi => by
    rw [zipD_len] at hi
    obtain ⟨⟨q1, _⟩, q2, _⟩ := hM W2 g
    exact ⟨vs, us, q1, q2, by omega⟩
  yld := fun W2 i v H' d g ok hd ⟨T, x, y, hv, hT, hH, hx, hy⟩ => by
    subst hv hH
    obtain ⟨⟨q1, w1⟩, q2, w2⟩ := hM W2 g
    obtain ⟨c, e, h1, h2, rfl⟩ := zipD_get hd
    obtain ⟨v1, r1, f1⟩ := w1.get h1
    obtain ⟨v2, r2, f2⟩ := w2.get h2
    cases (hx vs q1).symm.trans r1
    cases (hy us q2).symm.trans r2
    obtain ⟨e, f⟩ := ok.newT hT (ds := [c, e]) (.cons f1 (.cons f2 .nil))
    exact ⟨_, rfl, e, f⟩
theorem wpI_zipM {P : List PyData → Prop} (h : wpE K W0 ta Γ fun c => wpE K W0 tb Γ fun d => ∃ ds es, c = .list ds ∧ d = .tuple es ∧ P (zipD ds es)) : wpI K W0 (iZipM K (tCons ta (tCons tb tNil))) Γ P := fun W σ S R k =>
  h W σ S _ fun v W1 c e1 f1 h1 => h1 W1 σ (S.mono e1) _ fun u W2 d e2 f2 ⟨ds, es, hc, hd, p⟩ => by
    have f1' := Df.mono (e2.lf e1.ok) _ _ f1
    subst hc hd
    obtain ⟨b, us, rfl, q2, f2⟩ := f2.tup_inv
    cases f1' with
    | @lst a vs _ q f =>
      have hM : ∀ W', Lf W2 W' → (SqL K W'.H a vs ∧ Dfs K W' vs ds) ∧ SqT K W'.H b us ∧ Dfs K W' us es := fun W' g => ⟨⟨q.elim (fun q => .inl (g.rdL q.1 q.2)) fun q => q _, Dfs.mono g _ _ f⟩, g.rdT q2, Dfs.mono g _ _ f2⟩
      have g0 := hM W2 (.refl e2.ok)
      exact ⟨a, b, vs, us, rfl, g0.1.1, g0.2.1, k W2 _ _ (e1.trans e2) (itd_zipM hM f.length f2.length) p⟩
end
end G

set_option Elab.async false
set_option linter.all false
set_option autoImplicit false
set_option maxRecDepth 100000
set_option maxHeartbeats 4000000
/-! G28: sorted of (i, j, False)s; a loop whose body only reads; a call by a promise with an index, its list one's own. -/
namespace S3
open PySem PySem.Spec PyProof.Rows L2
/-- (x, y, False) at v -/
def IsTri (h : Heap) (v : Value) (x y : Int) : Prop := ∃ a o t u n, v = .ref a ∧ h.get? a = some o ∧ (o.cls = .type "tuple" ∧ o.data = .seq #[.int x t, .int y u, .bool false] n)
theorem IsTri.on {h h' : Heap} {v : Value} {x y : Int} (p : IsTri h v x y) (k : ∀ b o, h.get? b = some o → o.cls = .type "tuple" → h'.get? b = some o) : IsTri h' v x y := by
  obtain ⟨a, o, t, u, n, e, g, c, d⟩ := p
  exact ⟨a, o, t, u, n, e, k _ _ g c, c, d⟩
section
variable {prog : Program} {w : World} {A : Around} {s : Shared} {vs : List Value} {k : Value → Int × Int}
theorem cmp_tri (hv : ∀ v ∈ vs, IsTri s.heap v (k v).1 (k v).2) : SrtO.Cmp prog w A s (tuples' true) (fun p => p.1 ∈ vs) (SrtO.lt2 fun v u => SrtO.lexB (k v) (k u)) := by
  intro p q mp mq
  have one := hv _ mp
  have two := hv _ mq
  refine (?_ : wpAny (model prog w) A (keyLt' (tuples' true) p.1 q.1) (fun r s' => s' = s ∧ r = SrtO.lexB (k p.1) (k q.1)) (fun _ _ => False) s)
  unfold SrtO.lexB
  generalize (k p.1).1 = i at one ⊢
  generalize (k p.1).2 = j at one ⊢
  generalize (k q.1).1 = i' at two ⊢
  generalize (k q.1).2 = j' at two ⊢
  obtain ⟨a, o, t, u, n, e, g, c, d⟩ := one
  obtain ⟨a', o', t', u', n', e', g', c', d'⟩ := two
  rw [e, e']
  refine PySem.W.kat_lt g d g' d' ?_
  refine (?_ : PySem.W.KatLex prog w A true (decide (3 < 3)) _ [(.int i t, .int i' t'), (.int j u, .int j' u'), (.bool false, .bool false)] 0 s)
  refine PySem.W.kat_cons (SeqAt.EqAt.int_int i t i' t' prog w _ _ (PySem.W.kat_go (fun q1 => ?_) fun q1 => ?_))
  · have ei : i = i' := by simpa using q1
    refine PySem.W.kat_yes (PySem.W.kat_cons (SeqAt.EqAt.int_int j u j' u' prog w _ _ (PySem.W.kat_go (fun q2 => ?_) fun q2 => ?_)))
    · have ej : j = j' := by simpa using q2
      have z : (if i = i' then decide (j < j') else decide (i < i')) = false := by
        rw [if_pos ei, ej]
        exact decide_eq_false (Int.lt_irrefl _)
      exact PySem.W.kat_yes (PySem.W.kat_cons (SeqAt.EqAt.bool_bool false false prog w _ _ (PySem.W.kat_go (fun _ => PySem.W.kat_yes (PySem.W.kat_nil ⟨rfl, z.symm⟩)) fun q3 => absurd q3 (by decide))))
    · exact PySem.W.kat_no (TS.oneLt_ints _ ⟨rfl, (if_pos ei).symm⟩)
  · have ei : ¬ i = i' := by simpa using q1
    exact PySem.W.kat_no (TS.oneLt_ints _ ⟨rfl, (if_neg ei).symm⟩)
theorem firsts : ∀ {vs : List Value}, (∀ v ∈ vs, ∃ x y, IsTri s.heap v x y) → ∃ fs : List Value, PySem.W.KatTups s.heap vs fs ∧ fs.length = vs.length ∧ ∀ f ∈ fs, ∃ x t, f = Value.int x t
  | [], _ => ⟨[], .nil, rfl, fun _ h => nomatch h⟩
  | v :: vs, hv => by
    obtain ⟨fs, q1, q2, q3⟩ := firsts (vs := vs) fun u hu => hv u (List.mem_cons_of_mem _ hu)
    obtain ⟨x, y, a, o, t, u, n, rfl, g, c, d⟩ := hv v List.mem_cons_self
    refine ⟨.int x t :: fs, .cons g c d rfl q1, congrArg (· + 1) q2, fun f hf => ?_⟩
    rcases List.mem_cons.mp hf with rfl | hf
    · exact ⟨x, t, rfl⟩
    · exact q3 f hf
theorem can_sort {a : Addr} (h0 : 0 < vs.length) (hv : ∀ v ∈ vs, IsTri s.heap v (k v).1 (k v).2) (ha : ∀ o, s.heap.get? a = some o → o.cls ≠ .type "tuple") : SrtO.SortableO prog w A s a vs fun v u => SrtO.lexB (k v) (k u) := by
  intro h' keep
  have hv' : ∀ v ∈ vs, IsTri h' v (k v).1 (k v).2 := fun v m => (hv v m).on fun b o e c => keep b o (fun z => by subst z; exact ha o e c) e
  obtain ⟨fs, q1, q2, q3⟩ := firsts (s := { s with heap := h' }) fun v m => ⟨_, _, hv' v m⟩
  refine ⟨tuples' true, fun Q E hq => PySem.W.kat_kind (T := .type "int") q1 (by omega) (fun f m => ?_) (by rfl) ?_, cmp_tri (s := { s with heap := h' }) hv'⟩
  · obtain ⟨x, t, rfl⟩ := q3 f m
    exact PySem.W.Looks.now
  · rw [show (Value.type "int" != Value.type "tuple") = true by first | decide +kernel | rfl | decide]
    exact hq
end
/-- the key of a triple -/
def kV (h : Heap) : Value → Int × Int
  | .ref a => match h.get? a with
    | some o => match o.data with
      | .seq its _ => match its.toList with
        | [.int x _, .int y _, _] => (x, y)
        | _ => (0, 0)
      | _ => (0, 0)
    | none => (0, 0)
  | _ => (0, 0)
theorem kV_at {h : Heap} {a : Addr} {o : Obj} {x y : Int} {t u : Tok} {n : Nat} (g : h.get? a = some o) (d : o.data = .seq #[.int x t, .int y u, .bool false] n) : kV h (.ref a) = (x, y) := by
  simp only [kV, g, d]
inductive Tr (K : PySem.W.Frag) (H : Hp) : List V → List (Int × Int) → Prop
  | nil : Tr K H [] []
  | cons {t : Addr} {k : Int × Int} {xs : List V} {ks : List (Int × Int)} : SqT K H t [.int k.1, .int k.2, .bl false] → Tr K H xs ks → Tr K H (.ref t :: xs) (k :: ks)
def rSorted3 (K : PySem.W.Frag) : List V → Hp → VK → Prop := fun vs H Q => ∃ a xs ks, vs = [V.ref a] ∧ SqL K H a xs ∧ Tr K H xs ks ∧ ∀ ys js p, js.Perm ks → js.Pairwise (fun x y => SrtO.lexB y x = false) → Tr K H ys js → H p = none → Q (.ref p) (upd H p (.lst ys))
section
variable {X : Cx}
theorem tri_at {pins : List (Addr × Obj)} {σ : L2.St} {H : Hp} {s : Shared} (I : Inv X pins σ H s) {t : Addr} {k : Int × Int} (h : SqT X.K H t [.int k.1, .int k.2, .bl false]) : kV s.heap (.ref t) = k ∧ IsTri s.heap (.ref t) k.1 k.2 := by
  obtain ⟨its, r, ⟨o, g, c, n, d⟩, _⟩ := I.tuple h
  obtain ⟨u, v, q, rfl, ru, rv, rq⟩ : ∃ u v q, its = [u, v, q] ∧ RelV (.int k.1) u ∧ RelV (.int k.2) v ∧ RelV (.bl false) q := by
    cases r with
    | cons r1 r =>
      cases r with
      | cons r2 r =>
        cases r with
        | cons r3 r =>
          cases r
          exact ⟨_, _, _, rfl, r1, r2, r3⟩
  obtain ⟨t1, rfl⟩ := ru
  obtain ⟨t2, rfl⟩ := rv
  cases rq
  exact ⟨kV_at g d, t, o, t1, t2, n, rfl, g, c, d⟩
theorem tr_its {pins : List (Addr × Obj)} {σ : L2.St} {H : Hp} {s : Shared} (I : Inv X pins σ H s) : ∀ {xs : List V} {ks : List (Int × Int)} {its : List Value}, Tr X.K H xs ks → Vals xs its →
    its.map (kV s.heap) = ks ∧ ∀ u ∈ its, ∃ t, u = .ref t ∧ SqT X.K H t [.int (kV s.heap u).1, .int (kV s.heap u).2, .bl false]
  | _, _, _, .nil, r => by
    cases r
    exact ⟨rfl, fun _ h => nomatch h⟩
  | _, _, _, .cons (t := t) (k := k) h tr, r => by
    cases r with
    | cons r1 r =>
      cases r1
      obtain ⟨q1, q2⟩ := tr_its I tr r
      obtain ⟨q3, _⟩ := tri_at I h
      refine ⟨by rw [List.map_cons, q1, q3], fun u hu => ?_⟩
      rcases List.mem_cons.mp hu with rfl | hu
      · exact ⟨t, rfl, by rw [q3]; exact h⟩
      · exact q2 u hu
theorem tr_back {H : Hp} {h : Heap} : ∀ {us : List Value}, (∀ u ∈ us, ∃ t, u = .ref t ∧ SqT X.K H t [.int (kV h u).1, .int (kV h u).2, .bl false]) → Tr X.K H (us.map backV) (us.map (kV h)) ∧ Vals (us.map backV) us
  | [], _ => ⟨.nil, .nil⟩
  | u :: us, hu => by
    obtain ⟨t, rfl, q⟩ := hu u List.mem_cons_self
    obtain ⟨r1, r2⟩ := tr_back (us := us) fun v hv => hu v (List.mem_cons_of_mem _ hv)
    exact ⟨.cons q r1, .cons rfl r2⟩
theorem cr_sorted3 : CallR X (.builtin "sorted") (rSorted3 X.K) := by
  intro pins s σ H vs us Q I r hyp
  obtain ⟨a, xs, ks, rfl, sq, tr, fin⟩ := hyp
  obtain ⟨its, rv, hl, hz⟩ := I.list sq
  obtain ⟨u, rfl, ru⟩ := vals1 r
  obtain rfl : u = Value.ref a := ru
  obtain ⟨q1, q2⟩ := tr_its I tr rv
  have tri : ∀ v ∈ its, IsTri s.heap v (kV s.heap v).1 (kV s.heap v).2 := fun v hv => by
    obtain ⟨t, rfl, q⟩ := q2 v hv
    exact (tri_at I q).2
  refine SrtO.sorted_ord (SrtO.swo_lex (kV s.heap)) hl.isList (by rw [← rv.length]; exact hz) (fun n2 h1 b hb kk => ?_) fun out srt stb => ?_
  · refine can_sort (s := { s with heap := h1 }) (by omega) (fun v m => (tri v m).on fun c o e _ => (kk c o e).2) fun o e => ?_
    cases e.symm.trans hb
    intro c
    exact absurd (Value.type.inj c) (by decide)
  · obtain ⟨t1, t2⟩ := tr_back (X := X) (us := out) fun u hu => q2 u (stb.perm.mem_iff.mp hu)
    have kp : ∀ b o, s.heap.get? b = some o → (sortedAll s.heap its out.toArray).get? b = some o := fun b o e => sortedAll_old e
    obtain ⟨n, hn⟩ := sortedAll_at s.heap its out.toArray
    refine ⟨.ref (s.heap.objs.size + 1), upd H (s.heap.objs.size + 1) (.lst (out.map backV)), I.laid (t' := s.toks) kp (Nat.le_succ _) ⟨?_, out, n, t2, hn⟩, rfl, fin (out.map backV) (out.map (kV s.heap)) _ ?_ ?_ t1 (I.hok.fresh (Nat.le_succ _))⟩
    · rw [t2.length, stb.perm.length_eq, ← rv.length]
      exact hz
    · rw [← q1]
      exact stb.perm.map _
    · exact List.pairwise_map.mpr srt
end
end S3
namespace G
open PySem L2 PyProof.Rows
section
variable {K : PySem.W.Frag} {W0 W : Wd} {Γ : Gm} {ta tb te ty : TE} {t u : TS} {tt : TT} {A : AE} {N : Gm → Prop}
def triD (k : Int × Int) : PyData := .tuple [.int k.1, .int k.2, .bool false]
theorem tr_of : ∀ {vs : List V} {ks : List (Int × Int)}, Dfs K W vs (ks.map triD) → S3.Tr K W.H vs ks
  | _, [], .nil => .nil
  | _, k :: ks, .cons f fs => by
    obtain ⟨a, us, rfl, sq, g⟩ := f.tup_inv
    refine .cons ?_ (tr_of fs)
    cases g with
    | cons g1 g =>
      cases g with
      | cons g2 g =>
        cases g with
        | cons g3 g =>
          cases g
          cases g1.int_inv
          cases g2.int_inv
          cases g3.bool_inv
          exact sq
theorem tr_df {W' : Wd} (up : ∀ t xs, SqT K W.H t xs → SqT K W'.H t xs) : ∀ {vs : List V} {ks : List (Int × Int)}, (∀ (t : Addr) (k : Int × Int), SqT K W.H t [.int k.1, .int k.2, .bl false] → Df K W' (.ref t) (triD k)) → S3.Tr K W.H vs ks → Dfs K W' vs (ks.map triD)
  | _, _, _, .nil => .nil
  | _, _, h, .cons q tr => .cons (h _ _ q) (tr_df up h tr)
theorem wpN_sort3 {P : List PyData → Prop} (h : wpN K W0 te Γ fun ds => ∃ ks : List (Int × Int), ds = ks.map triD ∧ ∀ js : List (Int × Int), js.Perm ks → js.Pairwise (fun x y => SrtO.lexB y x = false) → P (js.map triD)) : wpN K W0 (tCB (S3.rSorted3 K) (tCons te tNil)) Γ P := fun W σ S Q k => h W σ S _ fun v W1 ds e1 n1 ⟨ks, hd, p⟩ => by
  subst hd
  obtain ⟨a, vs, rfl, a2, a3, a4, a5, a6⟩ := n1
  refine ⟨a, vs, ks, rfl, .inl (.inl a5), tr_of a6, fun ys js q hp hs tr hq => ?_⟩
  have f : Dfs K W1 ys (js.map triD) := tr_df (fun _ _ q => q) (fun t k q => .tup q (.cons (.int _) (.cons (.int _) (.cons (.bl _) .nil)))) tr
  obtain ⟨e2, n2⟩ := e1.ok.newL (K := K) hq f
  exact k _ _ _ (e1.trans e2) (n2.up S.ok e1) (p js hp hs)
theorem s3_K {X : Cx} (h : X.K = K) : CallR X (.builtin "sorted") (S3.rSorted3 K) := by
  subst h
  exact S3.cr_sorted3
/-- a statement that changes no list of the def's own, falls through or returns -/
def goR (K : PySem.W.Frag) (W0 : Wd) (ts : TS) (Γ : Gm) (A : AE) (N : Gm → Prop) : Prop := ∀ W σ D, Sat K W0 W σ Γ → (∀ Γ' W' σ', Le W W' → Sat K W0 W' σ' Γ' → N Γ' → D.nx σ' W'.H) → (∀ v W' r, Le W0 W' → RsOk K W0 W' v r → A.rt r → D.rt v W'.H) → ts D σ W.H
theorem goR_next (p : N Γ) : goR K W0 tNext Γ A N := fun W σ D S nx rt => nx Γ W σ (.refl S.ok) S p
theorem goR_ret (h : wpE K W0 te Γ fun d => A.rt (.d d)) : goR K W0 (tRet te) Γ A N := fun W σ D S nx rt => h W σ S _ fun v W' d e f p => rt v W' (.d d) (S.le.trans e) f p
theorem goR_if (h : wpT K W0 tt Γ fun b => (b = true → goR K W0 t Γ A N) ∧ (b = false → goR K W0 u Γ A N)) : goR K W0 (tIfS tt t u) Γ A N := fun W σ D S nx rt =>
  h W σ S _ fun W' b e p => by
    cases b with
    | true =>
      show t D σ W'.H
      exact p.1 rfl W' σ D (S.mono e) (fun Γ' W2 σ' e2 => nx Γ' W2 σ' (e.trans e2)) rt
    | false =>
      show u D σ W'.H
      exact p.2 rfl W' σ D (S.mono e) (fun Γ' W2 σ' e2 => nx Γ' W2 σ' (e.trans e2)) rt
theorem go_forR {wi : TI} {g : TG} (vs : List Nat)
    (h : wpIc K W0 wi Γ fun ds => ∃ Iv : Nat → Gm → Prop, Iv 0 Γ ∧ (∀ i d Γ', ds[i]? = some d → Iv i Γ' → wpG K W0 vs g d Γ' fun Γ2 => goR K W0 t Γ2 A (Iv (i + 1))) ∧ ∀ Γ', Iv ds.length Γ' → A.nx Γ') : go K W0 (tFor wi g t) Γ A := fun W σ D S c =>
  h W σ S _ fun W1 J ds e1 it ⟨Iv, i0, hs, hd⟩ => by
    refine ⟨fun i m σ' H => m = ds.length - i ∧ i ≤ ds.length ∧ ∃ W2 Γ', W2.H = H ∧ Le W1 W2 ∧ Sat K W0 W2 σ' Γ' ∧ Iv i Γ', ⟨ds.length, by simp, Nat.zero_le _, W1, Γ, rfl, .refl e1.ok, S.mono e1, i0⟩, ?_⟩
    rintro i m σ' H ⟨rfl, hi, W2, Γ', rfl, f2, S2, hI⟩
    have c2 := c.later ((e1.trans f2).lf S.ok)
    by_cases hlt : i < ds.length
    · refine .inr ⟨it.go W2 i f2 hlt, fun σ' H' => ∃ W2 Γ', W2.H = H' ∧ Le W1 W2 ∧ Sat K W0 W2 σ' Γ' ∧ Iv (i + 1) Γ', fun σ' H' q => ⟨ds.length - (i + 1), by omega, rfl, hlt, q⟩, fun x H' hy => ?_⟩
      obtain ⟨W3, rfl, e3, f3⟩ := it.yld W2 i x H' ds[i] f2 S2.ok (List.getElem?_eq_getElem hlt) hy
      refine hs i ds[i] Γ' (List.getElem?_eq_getElem hlt) hI W3 σ' (S2.mono e3) x f3 _ fun σ4 Γ4 W4 e4 S4 _ hgo => ?_
      exact hgo W4 σ4 _ S4 (fun Γ5 W5 σ5 e5 S5 q => ⟨W5, Γ5, rfl, ((f2.trans e3).trans e4).trans e5, S5, q⟩) fun v W5 r e5 r5 q => c2.rt v W5 r e5 r5 q
    · have e : i = ds.length := by omega
      subst e
      exact .inl ⟨it.stop W2 _ f2 (Nat.le_refl _), c2.nx Γ' W2 σ' (.refl S2.ok) S2 (hd Γ' hI)⟩
/-- a call by a promise with an index, the list told one's own -/
theorem wpN_callX {I : Type} {pre : I → List PyData → Prop} {post : I → List PyData → Rs → Prop} {E : XK} {t : TA} {P : List PyData → Prop}
    (h : wpA K W0 t Γ fun ds => ∃ i, pre i ds ∧ ∀ r, post i ds r → ∃ xs, r = .l xs ∧ P xs) : wpN K W0 (tCall (fun vs H Q E => ∃ i, spF K (pre i) (post i) vs H Q E) [] E t) Γ P := fun W σ S Q k =>
  h W σ S _ fun vs W1 ds e1 f1 ⟨i, hp, hq⟩ => by
    refine ⟨i, W1, ds, rfl, e1.ok, by rw [List.append_nil]; exact f1, hp, fun v W2 r e2 r2 hr => ?_⟩
    obtain ⟨xs, rfl, p⟩ := hq _ hr
    exact k v W2 xs (e1.trans e2) (Nw.up S.ok e1 r2) p
/-- x, y = [], e by way of a tuple -/
theorem go_tupLD {i j : Nat} (h : wpE K W0 te Γ fun d => A.nx ((Γ.set i (.l [])).set j (.d d))) : go K W0 (tAsg (tTup (tCons (tLst tNil) (tCons te tNil))) (gTup K 2 (gCons (gName i) (gCons (gName j) gNil)))) Γ A := fun W σ D S c =>
  ⟨Nat.zero_le _, fun q hq => by
    obtain ⟨e1, n1⟩ := S.ok.newL (K := K) (ds := []) (vs := []) hq .nil
    refine h _ σ (S.mono e1) _ fun v W2 d e2 f p => ⟨(Nat.le_of_ble_eq_true rfl : 2 ≤ sizeLine), fun r hr => ?_⟩
    have e3 := e2.ok.new (u := .tup [.ref q, v]) hr
    exact ⟨r, [.ref q, v], rfl, .inl (.inl upd_same), rfl, _, _, rfl, _, _, rfl, rfl, c.nx _ _ _ (((e1.trans e2).trans e3).lf S.ok) ((((S.setNw e1 n1 i).mono e2).setD j f).mono e3) p⟩⟩
theorem enD_zip {I : Type} (f : I → PyData) (l : List I) : enD (l.map f) = l.zipIdx.map fun p => .tuple [.int (p.2 : Nat), f p.1] := by
  refine List.ext_getElem? fun i => ?_
  by_cases h : i < l.length
  · have h1 : (enD (l.map f))[i]? = some (.tuple [.int (i : Nat), f l[i]]) := by
      unfold enD
      rw [List.getElem?_map, List.getElem?_range (by rw [List.length_map]; exact h)]
      show some (PyData.tuple [_, (l.map f).getD i .none]) = _
      rw [List.getD_eq_getElem?_getD, List.getElem?_map, List.getElem?_eq_getElem h]
      rfl
    rw [h1, List.getElem?_map, List.getElem?_zipIdx, List.getElem?_eq_getElem h]
    simp
  · rw [List.getElem?_eq_none (by rw [enD_len, List.length_map]; omega), List.getElem?_eq_none (by rw [List.length_map, List.length_zipIdx]; omega)]
/-- zip of a list (perhaps of the def's own) and a list told -/
theorem wpIc_zipL {P : List PyData → Prop} (h : wpL K W0 ta Γ fun ds => wpE K W0 tb Γ fun d => ∃ es, d = .list es ∧ P (zipD ds es)) : wpIc K W0 (RZ.iZipA K (tCons ta (tCons tb tNil))) Γ P := fun W σ S R k => h W σ S _ fun v W1 ds e1 l1 h1 => h1 W1 σ (S.mono e1) _ fun u W2 d e2 f2 ⟨es, hd, p⟩ => by
  subst hd
  obtain ⟨a, vs, rfl, q, f⟩ := l1.mono e1.ok e2
  cases f2 with
  | @lst b us _ q2 f2 =>
    have hM : ∀ W', Le W2 W' → (SqL K W'.H a vs ∧ Dfs K W' vs ds) ∧ SqL K W'.H b us ∧ Dfs K W' us es := fun W' g => by
      have lf := g.lf e2.ok
      refine ⟨⟨?_, Dfs.mono lf _ _ f⟩, q2.elim (fun q => .inl (lf.rdL q.1 q.2)) fun q => q _, Dfs.mono lf _ _ f2⟩
      rcases q with ⟨q | ⟨o, q⟩, nb⟩ | q
      · exact .inl (.inl (g.ex _ _ q nb))
      · exact .inl (.inr ⟨o, g.ex _ _ q nb⟩)
      · exact q _
    have g0 := hM W2 (.refl e2.ok)
    exact ⟨a, b, vs, us, rfl, .inl ⟨g0.1.1, g0.2.1, k W2 _ _ (e1.trans e2) (itd_zip hM f.length f2.length) p⟩⟩
end
end G

set_option Elab.async false
set_option linter.all false
set_option autoImplicit false
set_option maxRecDepth 100000
set_option maxHeartbeats 4000000
/-! G29: own exceptions: a def that raises (spX, fn_okX, go_raise), try .. except C as e (go_tryAs), isinstance(e, ..), e.f. -/
namespace L2
open PySem PySem.Spec PyProof.Rows
/-- what an own exception class says of its instances -/
structure ExcK (K : PySem.W.Frag) (D : Addr) : Prop where
  cl : (PySem.W.clsIn K D).isSome = true
  ga : PySem.W.findIn K (.ref D) "__getattribute__" = some (some (.builtin "BaseException.__getattribute__"))
  gg : PySem.W.findIn K (.ref D) "__getattr__" = some none
  sb : PySem.W.subIn K (.ref D) (.type "BaseException") = some true
  ca : PySem.W.findIn K (.ref D) "__class__" = some (some (.builtin "object.__class__"))
  sp : PySem.W.specialIn K (.builtin "object.__class__") "__get__" = some (some (.builtin "getset_descriptor.__get__"))
  tk : PySem.W.takesIn K (.builtin "object.__class__") = some true
  mr : PySem.W.mroIn K D (.type "object") = some true
  hd : PySem.W.hasDictIn K D = true
theorem ExcK.xf {K : PySem.W.Frag} {D : Addr} (h : ExcK K D) : XfC K D := ⟨h.ga, h.gg, h.sb, h.hd⟩
def XdAt (H : Hp) (d : Option Addr) : Prop := ∀ dd, d = some dd → ∃ fs, H dd = some (.xd fs)
/-- isinstance(e, c), e the exception that the suite holds, with or without a dict -/
def rIsX (K : PySem.W.Frag) (cls : Value) (d : Option Addr) (a : Addr) : List V → Hp → VK → Prop := fun xs H Q =>
  ∃ (D : Addr) (c : V) (cv : Value) (b : Bool), cls = .ref D ∧ ExcK K D ∧ XdAt H d ∧ xs = [.ref a, c] ∧ ClsV c cv ∧ PySem.W.kitOne K (.ref D) cv = some b ∧ Q (.bl b) H
/-- isinstance(e, (c1, c2, ..)) -/
def rIsXT (K : PySem.W.Frag) (cls : Value) (d : Option Addr) (a : Addr) : List V → Hp → VK → Prop := fun xs H Q =>
  ∃ (D tp : Addr) (cs : List V) (us : List Value) (b : Bool), cls = .ref D ∧ ExcK K D ∧ XdAt H d ∧ xs = [.ref a, .ref tp] ∧ H tp = some (.tup cs) ∧ Paired ClsV cs us ∧ PySem.W.kitAny K (.ref D) us = some b ∧ Q (.bl b) H
section
variable {X : Cx} {a D : Addr} {oe : Obj} {cls : Value} {d : Option Addr} {pn pins : List (Addr × Obj)} {σ : St} {H : Hp} {s : Shared}
theorem suite_inst (hz : Zc (.ref D) d oe) (hf : ∃ vs, oe.data = .fields vs) (I : Inv (X.suite a ((a, oe) :: pn)) pins σ H s) (hx : XdAt H d) : ∃ od, PySem.W.InstAt s.heap a oe D od := by
  obtain ⟨hget, _⟩ := I.pin (a, oe) (List.mem_append.mpr (.inl List.mem_cons_self))
  obtain ⟨vs, hv⟩ := hf
  obtain ⟨oc, od, oda, osl⟩ := oe
  obtain ⟨h1, h2⟩ := hz
  dsimp only at h1 h2 hv
  subst h1 h2 hv
  cases od with
  | none => exact ⟨none, hget, rfl, rfl, trivial⟩
  | some dd =>
    obtain ⟨fs, e⟩ := hx dd rfl
    have hx' : ObjOk X.prog X.w H s.heap dd (.xd fs) := I.hok dd _ e
    obtain ⟨mA, ⟨o, _, _, ho, _⟩, _⟩ := hx'
    exact ⟨some o, hget, rfl, rfl, ho⟩
theorem call_isX (hz : Zc cls d oe) (hf : ∃ vs, oe.data = .fields vs) : CallR (X.suite a ((a, oe) :: pn)) (.builtin "isinstance") (rIsX X.K cls d a) := by
  intro pins s σ H xs us Q I r h
  obtain ⟨D, c, cv, b, rfl, C, hx, rfl, hcv, e, q⟩ := h
  obtain ⟨u1, u2, rfl, r1, r2⟩ := vals2 r
  cases r1
  have ec := hcv.eq r2
  subst ec
  obtain ⟨od, J⟩ := suite_inst hz hf I hx
  exact PySem.W.kia_one (PySem.W.kitx_exc C.cl C.ga C.gg C.sb C.ca C.sp C.tk C.mr) I.kIn J e (fun z => nomatch z) fun tk => ⟨.bl b, H, I.tok tk, rfl, q⟩
theorem call_isXT (hz : Zc cls d oe) (hf : ∃ vs, oe.data = .fields vs) : CallR (X.suite a ((a, oe) :: pn)) (.builtin "isinstance") (rIsXT X.K cls d a) := by
  intro pins s σ H xs us Q I r h
  obtain ⟨D, tp, cs, ws, b, rfl, C, hx, rfl, hT, k, e, q⟩ := h
  obtain ⟨u1, u2, rfl, r1, r2⟩ := vals2 r
  cases r1
  cases (show u2 = Value.ref tp from r2)
  obtain ⟨_, its, rv, o, h1, h2, n, h3⟩ := (show ObjOk X.prog X.w H s.heap tp (.tup cs) from I.hok tp _ hT)
  have e3 := ClsV.all k rv
  subst e3
  obtain ⟨oc, od, dt, sl⟩ := o
  simp only at h2 h3
  subst h2 h3
  obtain ⟨od', J⟩ := suite_inst hz hf I hx
  exact PySem.W.kia_tup (PySem.W.kitx_exc C.cl C.ga C.gg C.sb C.ca C.sp C.tk C.mr) I.kIn J h1 e (fun z => nomatch z) fun tk => ⟨.bl b, H, I.tok tk, rfl, q⟩
end
/-- a call of the def that a slot holds; what it lets out may depend on the slots -/
def tCallLS (i : Nat) (f : Addr) (sp : Sp) (E : St → XK) (t : TA) : TE := fun σ H Q => σ[i]? = some (some (.ref f)) ∧ t σ H fun vs H1 => sp vs H1 Q (E σ)
section
variable {X : Cx} {CX : CXT} {k i : Nat} {f : Addr} {fd : FuncData} {ps : List Str} {sp : Sp} {E : St → XK} {x : Str} {p pos : Pos} {e : Expr} {es : List Expr} {t : TA}
theorem pe_callLS (F : FnOk X.prog X.w X.K X.mg X.base CX k f fd ps sp) (hr : Room k X.A) (hN : X.N[i]? = some x) (hv : Vis X.env.scope x) (hk : PySem.W.keepIn X.K (.ref f) = true) (hb : Binds X.K fd ps []) (hx : ∀ σ, PassesAt CX X σ (E σ)) (ha : PA X (e :: es) t)
    (hdb : (x == ("__debug__" : Str)) = false := by decide) (hcd : (x == ("__classdict__" : Str)) = false := by decide)
    (he : starEach (e :: es) X.env = (false, eval e X.env) :: starEach es X.env := by rfl) (hpl : (backTo pos (starEach es X.env)).any (·.1) = false := by rfl) : PE X (.Call (.Name x p) (e :: es) [] pos) (tCallLS i f sp E t) := by
  refine ⟨fun pins s σ H Q I h => ?_⟩
  obtain ⟨hs, ht⟩ := h
  refine wpAny_Call_Name_kw (thn ((pe_var (pos := p) hN hv hdb hcd).run pins s σ H (fun v H1 => v = .ref f ∧ H1 = H) I ⟨.ref f, hs, rfl, rfl⟩) fun u s1 ⟨v, H1, I1, r1, q1⟩ => ?_)
  obtain ⟨rfl, rfl⟩ := q1
  cases r1
  refine PySem.W.callWith_K (h₀ := X.base) I.ok.mod.kin hk (thn (ha.run pos pins s1 σ _ _ I1 ht) fun us s2 ⟨vs, H2, I2, r, q⟩ => ⟨I2.kIn, ?_⟩) he hpl
  exact run_fnS F hr hb (hx σ) I2 r q
end
end L2
namespace G
open PySem L2 PyProof.Rows
/-- what an exception's fields are: d its dict -/
def Cau (K : PySem.W.Frag) (W : Wd) (d : Option Addr) (fs : List (Str × PyData)) : Prop :=
  (d = none ∧ fs = []) ∨ ∃ dd vs, d = some dd ∧ W.H dd = some (.xd vs) ∧ W.Fz dd ∧ vs.map (·.1) = fs.map (·.1) ∧ Dfs K W (vs.map (·.2)) (fs.map (·.2))
abbrev Xp := Addr → List (Str × PyData) → Prop
section
variable {K : PySem.W.Frag} {W W' W0 : Wd} {d : Option Addr} {fs : List (Str × PyData)}
theorem Cau.mono (e : Lf W W') (h : Cau K W d fs) : Cau K W' d fs := h.imp id fun ⟨dd, vs, h1, h2, h3, h4, h5⟩ => ⟨dd, vs, h1, e.ex _ _ h2 (.inl h3), e.fz _ h3, h4, h5.mono e⟩
theorem lookup_putG {α : Type} (f g : Str) (y : α) (fs : List (Str × α)) : ((f, y) :: fs).lookup g = if g = f then some y else fs.lookup g := by
  by_cases h : g = f
  · subst h
    simp [List.lookup]
  · have e : (g == f) = false := by simpa using h
    rw [if_neg h]
    simp [List.lookup, e]
theorem lookup_dfs {f : Str} {x : PyData} : ∀ {vs : List (Str × V)} {fs : List (Str × PyData)}, vs.map (·.1) = fs.map (·.1) → Dfs K W (vs.map (·.2)) (fs.map (·.2)) → fs.lookup f = some x → ∃ v, vs.lookup f = some v ∧ Df K W v x
  | [], [], _, _, h => by cases h
  | [], _ :: _, h, _, _ => by cases h
  | _ :: _, [], h, _, _ => by cases h
  | (g, v) :: vs, (g', y) :: fs, h, t, e => by
    simp only [List.map_cons, List.cons.injEq] at h
    obtain ⟨rfl, h⟩ := h
    cases t with
    | cons h1 t =>
      rw [lookup_putG] at e
      by_cases q : f = g
      · subst q
        rw [if_pos rfl] at e
        cases e
        exact ⟨v, by rw [lookup_putG, if_pos rfl], h1⟩
      · rw [if_neg q] at e
        obtain ⟨u, e1, e2⟩ := lookup_dfs h t e
        exact ⟨u, by rw [lookup_putG, if_neg q]; exact e1, e2⟩
theorem Cau.get {f : Str} {x : PyData} (h : Cau K W d fs) (e : fs.lookup f = some x) : ∃ dd vs v, d = some dd ∧ W.H dd = some (.xd vs) ∧ vs.lookup f = some v ∧ Df K W v x := by
  rcases h with ⟨_, rfl⟩ | ⟨dd, vs, h1, h2, h3, h4, h5⟩
  · cases e
  · obtain ⟨v, e1, e2⟩ := lookup_dfs h4 h5 e
    exact ⟨dd, vs, v, h1, h2, e1, e2⟩
theorem Cau.xd (h : Cau K W d fs) : XdAt W.H d := fun dd e => by
  rcases h with ⟨h, _⟩ | ⟨dd', vs, h1, h2, _⟩
  · rw [h] at e; cases e
  · rw [h1] at e; cases e
    exact ⟨vs, h2⟩
/-- all that xp tells may leave by E -/
def ExG (K : PySem.W.Frag) (W0 : Wd) (E : XK) (xp : Xp) : Prop := ∀ W' C d fs, Le W0 W' → Cau K W' d fs → xp C fs → E (.ref C) d W'.H
/-- a def's promise, exceptions too: by an index -/
def spX {ι : Type} (K : PySem.W.Frag) (pre : ι → List PyData → Prop) (post : ι → List PyData → Rs → Prop) (xp : ι → List PyData → Xp) : Sp := fun vs H Q E =>
  ∃ (i : ι) (W : Wd) (ds : List PyData), W.H = H ∧ Ok W ∧ Dfs K W vs ds ∧ pre i ds ∧ (∀ v W' r, Le W W' → RsOk K W W' v r → post i ds r → Q v W'.H) ∧ ExG K W E (xp i ds)
theorem fn_okX {ι : Type} {P : Program} {w : World} {mg : Str → Option Value} {base : Heap} {x qual : Str} {st : Stmt} {f : Addr} {fd : FuncData} {N ps : List Str} {k : Nat} {pre : ι → List PyData → Prop} {post : ι → List PyData → Rs → Prop} {xp : ι → List PyData → Xp}
    (F : Fun K x qual st f fd) (S : FnScope N ps (defScope st)) (len : ∀ i ds, pre i ds → ds.length = ps.length)
    (h : ∀ (cdv : Value) (A : Around) (outer : List PySem.Env) (s : Shared) (H : Hp) (E : XK), Room k (A.deeper (PyProof.Rows.envOfC qual (defScope st) s.heap.objs.size f cdv)) →
      ∃ t, PSs (cxOf (L2.CX P w) P w K mg base N qual (defScope st) f cdv A outer s H E) (defBody st) t ∧ ∀ i W0 ds, pre i ds → ExG K W0 E (xp i ds) → go K W0 t (startG N ds) ⟨fun _ => post i ds (.d .none), post i ds, fun _ => False, fun _ => False⟩) :
    FnOk P w K mg base (L2.CX P w) (k + 1) f fd ps (spX K pre post xp) := by
  refine F.okX S (fun vs H Q E hs => ?_) (fun cdv A outer s H vs Q E hr hs => ?_)
  · obtain ⟨i, W, ds, _, _, f, hp, _⟩ := hs
    rw [f.length, len i ds hp]
  · obtain ⟨t, h1, h2⟩ := h cdv A outer s H E hr
    refine ⟨t, h1, ?_⟩
    obtain ⟨i, W, ds, rfl, ok, f, hp, hq, hx⟩ := hs
    exact h2 i W ds hp hx W _ _ (sat_start ok f) ⟨fun Γ' W' σ' _ S' q => hq .non W' (.d .none) S'.le Df.non q, fun v W' r e r' q => hq v W' r e r' q, fun _ _ _ _ _ z => z.elim, fun _ _ _ _ _ z => z.elim⟩
/-- one promise for each i -/
theorem fn_exX {ι : Type} {P : Program} {w : World} {mg : Str → Option Value} {base : Heap} {CX : CXT} {f : Addr} {fd : FuncData} {ps : List Str} {k : Nat} {pre : ι → List PyData → Prop} {post : ι → List PyData → Rs → Prop} {xp : ι → List PyData → Xp}
    (h : ∀ i, FnOk P w K mg base CX k f fd ps (spX (ι := Unit) K (fun _ => pre i) (fun _ => post i) (fun _ => xp i))) : FnOk P w K mg base CX k f fd ps (spX K pre post xp) :=
  ⟨fun vs H Q E ⟨i, W, ds, e, ok, f, hp, hq⟩ => (h i).len vs H Q E ⟨(), W, ds, e, ok, f, hp, hq⟩, fun A outer s H args us vs Q E hr he hb hv ⟨i, W, ds, e, ok, f, hp, hq⟩ => (h i).run A outer s H args us vs Q E hr he hb hv ⟨(), W, ds, e, ok, f, hp, hq⟩⟩
end
/-! ### an own exception's __init__ -/
/-- self.f = y -/
def spI1 (C : Addr) (f : Str) : Sp := fun vs H Q _ => ∃ a y, vs = [.ref a, y] ∧ H a = some (exo a C none) ∧ ∀ dx, H dx = none → dx ≠ a → Q .non (upd (upd H dx (exd dx [(f, y)])) a (exo a C (some dx)))
/-- self.f = y; self.g = z -/
def spI2 (C : Addr) (f g : Str) : Sp := fun vs H Q _ => ∃ a y z, vs = [.ref a, y, z] ∧ H a = some (exo a C none) ∧ ∀ dx, H dx = none → dx ≠ a → Q .non (upd (upd (upd H dx (exd dx [(f, y)])) a (exo a C (some dx))) dx (exd dx [(g, z), (f, y)]))
section
variable {P : Program} {w : World} {K : PySem.W.Frag} {mg : Str → Option Value} {base : Heap} {W0 W : Wd} {Γ : Gm} {A : AE}
theorem fn_init1 {x qual : Str} {st : Stmt} {g : Addr} {fd : FuncData} {N ps : List Str} {C : Addr} {f : Str} (F : Fun K x qual st g fd) (S : FnScope N ps (defScope st)) (o : OexC K C) (na : PySem.W.findIn K (.ref C) f = some none) (hl : ps.length = 2)
    (h : ∀ (cdv : Value) (A : Around) (outer : List PySem.Env) (s : Shared) (H : Hp) (E : XK), PSs (cxOf CX0 P w K mg base N qual (defScope st) g cdv A outer s H E).nox (defBody st) (tSeq (tOst K f (tVar 0) (tVar 1)) tNext) ∨ PSs (cxOf CX0 P w K mg base N qual (defScope st) g cdv A outer s H E).nox (defBody st) (tOst K f (tVar 0) (tVar 1))) :
    FnOk P w K mg base CX0 1 g fd ps (spI1 C f) := by
  refine F.ok S (fun vs H Q E hs => ?_) (fun cdv A outer s H vs Q E hr hs => ?_)
  · obtain ⟨a, y, rfl, _⟩ := hs
    exact hl.symm
  · obtain ⟨a, y, rfl, ha, hq⟩ := hs
    rcases h cdv A outer s H E with h | h
    · exact ⟨_, h, _, rfl, _, rfl, a, C, rfl, o, na, .inl ⟨ha, fun dx h1 h2 => hq dx h1 h2⟩⟩
    · exact ⟨_, h, _, rfl, _, rfl, a, C, rfl, o, na, .inl ⟨ha, fun dx h1 h2 => hq dx h1 h2⟩⟩
theorem fn_init2 {x qual : Str} {st : Stmt} {c : Addr} {fd : FuncData} {N ps : List Str} {C : Addr} {f g : Str} (F : Fun K x qual st c fd) (S : FnScope N ps (defScope st)) (o : OexC K C) (na : PySem.W.findIn K (.ref C) f = some none) (nb : PySem.W.findIn K (.ref C) g = some none) (hl : ps.length = 3)
    (h : ∀ (cdv : Value) (A : Around) (outer : List PySem.Env) (s : Shared) (H : Hp) (E : XK), PSs (cxOf CX0 P w K mg base N qual (defScope st) c cdv A outer s H E).nox (defBody st) (tSeq (tOst K f (tVar 0) (tVar 1)) (tOst K g (tVar 0) (tVar 2)))) :
    FnOk P w K mg base CX0 1 c fd ps (spI2 C f g) := by
  refine F.ok S (fun vs H Q E hs => ?_) (fun cdv A outer s H vs Q E hr hs => ?_)
  · obtain ⟨a, y, z, rfl, _⟩ := hs
    exact hl.symm
  · obtain ⟨a, y, z, rfl, ha, hq⟩ := hs
    exact ⟨_, h cdv A outer s H E, _, rfl, _, rfl, a, C, rfl, o, na, .inl ⟨ha, fun dx h1 h2 => ⟨_, rfl, _, rfl, a, C, rfl, o, nb, .inr ⟨dx, [(f, y)], upd_same, by rw [upd_ne h2]; exact upd_same, by simp, hq dx h1 h2⟩⟩⟩⟩
/-- the world behind an exception's making -/
theorem cau_new {W1 : Wd} (ok : Ok W1) {dx : Addr} {vs : List (Str × V)} {fs : List (Str × PyData)} (h : W1.H dx = none) (e1 : vs.map (·.1) = fs.map (·.1)) (f : Dfs K W1 (vs.map (·.2)) (fs.map (·.2))) :
    ∃ W2, W2.H = upd W1.H dx (.xd vs) ∧ Le W1 W2 ∧ Cau K W2 (some dx) fs := by
  have nB : ¬ W1.B dx := fun hb => by
    obtain ⟨_, _, _, q⟩ := ok.bx _ hb
    rw [h] at q; cases q
  have ok2 : Ok ⟨fun b => W1.Fz b ∨ b = dx, W1.B, upd W1.H dx (.xd vs)⟩ := ⟨fun b hb => by
    by_cases q : b = dx
    · show upd W1.H dx (.xd vs) b ≠ none
      rw [q, upd_same]
      exact fun z => nomatch z
    · show upd W1.H dx (.xd vs) b ≠ none
      rw [upd_ne q]
      exact ok.fz b (hb.resolve_right q), fun b hb => by
    have q : b ≠ dx := fun q => nB (q ▸ hb)
    obtain ⟨x, y, z, e⟩ := ok.bx b hb
    exact ⟨x, y, z, by show upd W1.H dx (.xd vs) b = _; rw [upd_ne q]; exact e⟩, fun b hb q => hb.elim (fun hb => ok.fb b hb q) fun e => nB (e ▸ q)⟩
  have le : Le W1 ⟨fun b => W1.Fz b ∨ b = dx, W1.B, upd W1.H dx (.xd vs)⟩ := ⟨ok2, fun b hb => .inl hb, fun b hb => hb, fun b o e n => by
    have q : b ≠ dx := fun q => by
      rw [q, h] at e; cases e
    show upd W1.H dx (.xd vs) b = some o
    rw [upd_ne q]; exact e, fun b hb n => (hb.resolve_left n) ▸ h, fun b hb n => absurd hb n⟩
  exact ⟨_, rfl, le, .inr ⟨dx, vs, rfl, upd_same, .inr rfl, e1, f.mono (le.lf ok)⟩⟩
theorem del_back {H : Hp} {a : Addr} (h : H a = none) : del H a = H := by
  funext b
  by_cases q : b = a
  · rw [q, del_same, h]
  · rw [del_ne q]
theorem go_raise1 {C : Addr} {f : Str} {E : XK} {xp : Xp} {ta : TA} (hE : ExG K W0 E xp) (h : wpA K W0 ta Γ fun ds => ∃ x, ds = [x] ∧ xp C [(f, x)]) :
    go K W0 (fun _ σ H => tMkO C (spI1 C f) [] ta σ H fun cls d H' => E cls d H') Γ A := fun W σ D S c => by
  refine h W σ S _ fun vs W1 ds e1 f1 ⟨x, hd, p⟩ => ?_
  subst hd
  obtain ⟨v, rfl, fv⟩ := f1.all1
  refine ⟨by show 1 ≤ 1000; decide, fun a ha => ⟨a, v, rfl, upd_same, fun dx h1 h2 => ⟨rfl, dx, [(f, v)], upd_same, by rw [upd_ne h2]; exact upd_same, by rw [upd_ne h2] at h1; exact h1, ?_⟩⟩⟩
  have hdx : W1.H dx = none := by rw [upd_ne h2] at h1; exact h1
  have e2 : upd (del (upd (upd (upd W1.H a (exo a C none)) dx (exd dx [(f, v)])) a (exo a C (some dx))) a) dx (.xd [(f, v)]) = upd W1.H dx (.xd [(f, v)]) := by
    funext b
    by_cases q : b = dx
    · rw [q, upd_same, upd_same]
    · rw [upd_ne q, upd_ne q]
      by_cases qa : b = a
      · rw [qa, del_same, ha]
      · rw [del_ne qa, upd_ne qa, upd_ne q, upd_ne qa]
  obtain ⟨W2, w1, w2, w3⟩ := cau_new (K := K) e1.ok (vs := [(f, v)]) (fs := [(f, x)]) hdx rfl (.cons fv .nil)
  have z := hE W2 C (some dx) _ ((S.le.trans e1).trans w2) w3 p
  rw [w1] at z
  rw [e2]
  exact z
theorem go_raise2 {C : Addr} {f g : Str} {E : XK} {xp : Xp} {ta : TA} (hE : ExG K W0 E xp) (h : wpA K W0 ta Γ fun ds => ∃ x y, ds = [x, y] ∧ xp C [(g, y), (f, x)]) :
    go K W0 (fun _ σ H => tMkO C (spI2 C f g) [] ta σ H fun cls d H' => E cls d H') Γ A := fun W σ D S c => by
  refine h W σ S _ fun vs W1 ds e1 f1 ⟨x, y, hd, p⟩ => ?_
  subst hd
  obtain ⟨v, u, rfl, fv, fu⟩ := f1.all2
  refine ⟨by show 2 ≤ 1000; decide, fun a ha => ⟨a, v, u, rfl, upd_same, fun dx h1 h2 => ⟨rfl, dx, [(g, u), (f, v)], by rw [upd_ne (Ne.symm h2)]; exact upd_same, upd_same, by rw [upd_ne h2] at h1; exact h1, ?_⟩⟩⟩
  have hdx : W1.H dx = none := by rw [upd_ne h2] at h1; exact h1
  have e2 : upd (del (upd (upd (upd (upd W1.H a (exo a C none)) dx (exd dx [(f, v)])) a (exo a C (some dx))) dx (exd dx [(g, u), (f, v)])) a) dx (.xd [(g, u), (f, v)]) = upd W1.H dx (.xd [(g, u), (f, v)]) := by
    funext b
    by_cases q : b = dx
    · rw [q, upd_same, upd_same]
    · rw [upd_ne q, upd_ne q]
      by_cases qa : b = a
      · rw [qa, del_same, ha]
      · rw [del_ne qa, upd_ne q, upd_ne qa, upd_ne q, upd_ne qa]
  obtain ⟨W2, w1, w2, w3⟩ := cau_new (K := K) e1.ok (vs := [(g, u), (f, v)]) (fs := [(g, y), (f, x)]) hdx rfl (.cons fu (.cons fv .nil))
  have z := hE W2 C (some dx) _ ((S.le.trans e1).trans w2) w3 p
  rw [w1] at z
  rw [e2]
  exact z
/-- a call that may raise, its def's caller letting it out -/
theorem wpE_callR {ι : Type} {pre : ι → List PyData → Prop} {post : ι → List PyData → Rs → Prop} {xp : ι → List PyData → Xp} {xp' : Xp} {E : XK} {t : TA} {Q : PyData → Prop} (hE : ExG K W0 E xp')
    (h : wpA K W0 t Γ fun ds => ∃ i, pre i ds ∧ (∀ r, post i ds r → Q r.data) ∧ ∀ C fs, xp i ds C fs → xp' C fs) : wpE K W0 (tCall (spX K pre post xp) [] E t) Γ Q := fun W σ S R k =>
  h W σ S _ fun vs W1 ds e1 f1 ⟨i, hp, hq, hx⟩ => by
    refine ⟨i, W1, ds, rfl, e1.ok, by rw [List.append_nil]; exact f1, hp, fun v W2 r e2 r2 hr => ?_, fun W2 C d fs e2 c2 x2 => hE W2 C d fs ((S.le.trans e1).trans e2) c2 (hx C fs x2)⟩
    cases r with
    | d x => exact k v W2 x (e1.trans e2) r2 (hq _ hr)
    | l xs =>
      obtain ⟨W3, h1, h2, h3⟩ := Nw.freeze e2 r2
      rw [← h1]
      exact k v W3 _ (e1.trans h2) h3 (hq _ hr)
/-! ### try .. except C as e -/
/-- what a try's body may count on when it raises -/
def ExT (K : PySem.W.Frag) (W0 W : Wd) (Γ : Gm) (Wx : WX) (xp : Xp) : Prop := ∀ W' σ' C d fs, Lf W W' → Sat K W0 W' σ' Γ → Cau K W' d fs → xp C fs → Wx (.ref C) d σ' W'.H
theorem SlOk.bas {W1 W' : Wd} (e : Le W0 W1) {o : Option V} {s : Sl} (h : SlOk K W1 W' o s) : SlOk K W0 W' o s := by
  cases o with
  | none =>
    cases s with
    | no => exact h
    | d x => exact h
    | l xs => exact h
    | k xs => exact h
  | some v =>
    cases s with
    | no => exact h
    | d x => exact h
    | l xs =>
      obtain ⟨a, vs, h1, h2, h3⟩ := h
      exact ⟨a, vs, h1, e.fresh h2, h3⟩
    | k xs =>
      obtain ⟨a, vs, h1, h2, h3⟩ := h
      exact ⟨a, vs, h1, e.fresh h2, h3⟩
theorem Sat.bas {W1 W' : Wd} {σ : L2.St} (e : Le W0 W1) (S : Sat K W1 W' σ Γ) : Sat K W0 W' σ Γ :=
  ⟨e.trans S.le, fun i s h => by
    obtain ⟨o, h1, h2⟩ := S.sl i s h
    exact ⟨o, h1, h2.bas e⟩, S.sep⟩
/-- no list or dict of one's own in the slots: a new base -/
theorem Sat.rebase {W : Wd} {σ : L2.St} (S : Sat K W0 W σ Γ) (h : Γ.all (fun s => !s.own) = true) : Sat K W W σ Γ :=
  ⟨.refl S.ok, fun i s e => by
    obtain ⟨o, h1, h2⟩ := S.sl i s e
    have hs : (!s.own) = true := List.all_eq_true.mp h s (List.mem_of_getElem? e)
    have h3 : SlOk K W W o s := by
      cases s with
      | no => exact h2
      | d x =>
        cases o with
        | none => exact h2
        | some v => exact h2
      | l xs => exact absurd (show false = true from hs) (by decide)
      | k xs => exact absurd (show false = true from hs) (by decide)
    exact ⟨o, h1, h3⟩, S.sep⟩
theorem RsOk.bas {W1 W' : Wd} (e : Le W0 W1) {v : V} {r : Rs} (h : RsOk K W1 W' v r) : RsOk K W0 W' v r := by
  cases r with
  | d x => exact h
  | l xs =>
    obtain ⟨p, vs, h1, h2, h3⟩ := h
    exact ⟨p, vs, h1, e.fresh h2, h3⟩
/-- a statement run at a new base -/
theorem go_base {t : TS} {W : Wd} {σ : L2.St} {D : Ends} (S : Sat K W0 W σ Γ) (h : Γ.all (fun s => !s.own) = true) (c : Cn K W0 W D A) (g : go K W t Γ A) : t D σ W.H :=
  g W σ D (S.rebase h) ⟨fun Γ' W' σ' f S' p => c.nx Γ' W' σ' f (S'.bas S.le) p, fun v W' r e r' p => c.rt v W' r (S.le.trans e) (RsOk.bas S.le r') p, fun Γ' W' σ' f S' p => c.bk Γ' W' σ' f (S'.bas S.le) p, fun Γ' W' σ' f S' p => c.ct Γ' W' σ' f (S'.bas S.le) p⟩
theorem go_tryAs {tb : WX → TS} {ts : Addr → Value → Option Addr → TS} {c : Value} {i : Nat} {Wout : WX} {xp : Xp} (hΓ : Γ.all (fun s => !s.own) = true)
    (hb : ∀ (Wx : WX) (W : Wd) (σ : L2.St) (D : Ends), Sat K W0 W σ Γ → Cn K W0 W D A → ExT K W0 W Γ Wx xp → tb Wx D σ W.H)
    (hs : ∀ C fs, xp C fs → PySem.W.exmOne K (.ref C) c = some true ∧ ∀ W1 a d, Ok W1 → Cau K W1 d fs → go K W1 (ts a (.ref C) d) (Γ.set i (.d (rfD a))) ⟨fun Γ' => A.nx (Γ'.set i .no), A.rt, fun Γ' => A.bk (Γ'.set i .no), fun Γ' => A.ct (Γ'.set i .no)⟩) :
    go K W0 (fun D σ H => tb (wAs K c i ts Wout D) D σ H) Γ A := fun W σ D S cn => by
  refine hb _ W σ D S cn fun W' σ' C d fs lf S' ca hx => ?_
  obtain ⟨h1, h2⟩ := hs C fs hx
  refine ⟨true, h1, fun _ a na => ?_, fun z => nomatch z⟩
  have S2 : Sat K W0 W' (σ'.set i (some (.ref a))) (Γ.set i (.d (rfD a))) := S'.setD i .rf
  have hΓ2 : (Γ.set i (.d (rfD a))).all (fun s => !s.own) = true := List.all_eq_true.mpr fun s hm => by
    rcases List.mem_or_eq_of_mem_set hm with q | q
    · exact List.all_eq_true.mp hΓ s q
    · rw [q]; rfl
  have cn' := cn.later lf
  exact go_base (A := ⟨fun Γ' => A.nx (Γ'.set i .no), A.rt, fun Γ' => A.bk (Γ'.set i .no), fun Γ' => A.ct (Γ'.set i .no)⟩) S2 hΓ2 ⟨fun Γ' W2 σ2 f s2 p => cn'.nx _ W2 _ f (s2.wipe1 i) p, fun v W2 r e r' p => cn'.rt v W2 r e r' p, fun Γ' W2 σ2 f s2 p => cn'.bk _ W2 _ f (s2.wipe1 i) p, fun Γ' W2 σ2 f s2 p => cn'.ct _ W2 _ f (s2.wipe1 i) p⟩ (h2 W' a d S'.ok ca)
/-- the body x = f(..), f held by a slot -/
theorem try_asgLS {ι : Type} {pre : ι → List PyData → Prop} {post : ι → List PyData → Rs → Prop} {xp : ι → List PyData → Xp} {xp' : Xp} {j l : Nat} {f : Addr} {t : TA} (hi : Γ[j]? = some (.d (rfD f)))
    (h : wpA K W0 t Γ fun ds => ∃ i, pre i ds ∧ (∀ r, post i ds r → A.nx (Γ.set l (.d r.data))) ∧ ∀ C fs, xp i ds C fs → xp' C fs) :
    ∀ (Wx : WX) (W : Wd) (σ : L2.St) (D : Ends), Sat K W0 W σ Γ → Cn K W0 W D A → ExT K W0 W Γ Wx xp' → tAsg (tCallLS j f (spX K pre post xp) (WE Wx) t) (gName l) D σ W.H := fun Wx W σ D S c hx => by
  obtain ⟨v, hv, df⟩ := S.var hi
  have := df.rf_inv
  subst this
  refine ⟨hv, h W σ S _ fun vs W1 ds e1 f1 ⟨i, hp, hq, hxp⟩ => ?_⟩
  refine ⟨i, W1, ds, rfl, e1.ok, f1, hp, fun v W2 r e2 r2 hr => ?_, fun W2 C d fs e2 c2 x2 => hx W2 σ C d fs ((e1.trans e2).lf S.ok) (S.mono (e1.trans e2)) c2 (hxp C fs x2)⟩
  cases r with
  | d x => exact c.nx _ W2 _ ((e1.trans e2).lf S.ok) ((S.mono (e1.trans e2)).setD l r2) (hq _ hr)
  | l xs =>
    obtain ⟨W3, h1, h2, h3⟩ := Nw.freeze e2 r2
    rw [← h1]
    exact c.nx _ W3 _ ((e1.trans h2).lf S.ok) ((S.mono (e1.trans h2)).setD l h3) (hq _ hr)
/-- the body x = f(..), f a def's name -/
theorem try_asgS {ι : Type} {pre : ι → List PyData → Prop} {post : ι → List PyData → Rs → Prop} {xp : ι → List PyData → Xp} {xp' : Xp} {l : Nat} {t : TA}
    (h : wpA K W0 t Γ fun ds => ∃ i, pre i ds ∧ (∀ r, post i ds r → A.nx (Γ.set l (.d r.data))) ∧ ∀ C fs, xp i ds C fs → xp' C fs) :
    ∀ (Wx : WX) (W : Wd) (σ : L2.St) (D : Ends), Sat K W0 W σ Γ → Cn K W0 W D A → ExT K W0 W Γ Wx xp' → tAsg (tCallS (spX K pre post xp) (WE Wx) t) (gName l) D σ W.H := fun Wx W σ D S c hx => by
  refine h W σ S _ fun vs W1 ds e1 f1 ⟨i, hp, hq, hxp⟩ => ?_
  refine ⟨i, W1, ds, rfl, e1.ok, f1, hp, fun v W2 r e2 r2 hr => ?_, fun W2 C d fs e2 c2 x2 => hx W2 σ C d fs ((e1.trans e2).lf S.ok) (S.mono (e1.trans e2)) c2 (hxp C fs x2)⟩
  cases r with
  | d x => exact c.nx _ W2 _ ((e1.trans e2).lf S.ok) ((S.mono (e1.trans e2)).setD l r2) (hq _ hr)
  | l xs =>
    obtain ⟨W3, h1, h2, h3⟩ := Nw.freeze e2 r2
    rw [← h1]
    exact c.nx _ W3 _ ((e1.trans h2).lf S.ok) ((S.mono (e1.trans h2)).setD l h3) (hq _ hr)
/-- the body f(..) -/
theorem try_dropS {ι : Type} {pre : ι → List PyData → Prop} {post : ι → List PyData → Rs → Prop} {xp : ι → List PyData → Xp} {xp' : Xp} {t : TA}
    (h : wpA K W0 t Γ fun ds => ∃ i, pre i ds ∧ (∀ r, post i ds r → A.nx Γ) ∧ ∀ C fs, xp i ds C fs → xp' C fs) :
    ∀ (Wx : WX) (W : Wd) (σ : L2.St) (D : Ends), Sat K W0 W σ Γ → Cn K W0 W D A → ExT K W0 W Γ Wx xp' → tDrop (tCallS (spX K pre post xp) (WE Wx) t) D σ W.H := fun Wx W σ D S c hx => by
  refine h W σ S _ fun vs W1 ds e1 f1 ⟨i, hp, hq, hxp⟩ => ?_
  exact ⟨i, W1, ds, rfl, e1.ok, f1, hp, fun v W2 r e2 r2 hr => c.nx _ W2 _ ((e1.trans e2).lf S.ok) (S.mono (e1.trans e2)) (hq _ hr), fun W2 C d fs e2 c2 x2 => hx W2 σ C d fs ((e1.trans e2).lf S.ok) (S.mono (e1.trans e2)) c2 (hxp C fs x2)⟩
/-! ### in the suite: its base knows the exception -/
theorem Cau.now {W : Wd} {d : Option Addr} {fs : List (Str × PyData)} {σ : L2.St} (o : Ok W0) (S : Sat K W0 W σ Γ) (h : Cau K W0 d fs) : Cau K W d fs := h.mono (S.le.lf o)
/-- isinstance(e, C) -/
theorem wpE_isX {d : Option Addr} {fs : List (Str × PyData)} {i : Nat} {a C : Addr} {c : V} {cv : Value} {b : Bool} {Q : PyData → Prop} (o : Ok W0) (ca : Cau K W0 d fs) (hi : Γ[i]? = some (.d (rfD a))) (k : ExcK K C) (hc : ClsV c cv) (hk : PySem.W.kitOne K (.ref C) cv = some b) (p : Q (.bool b)) :
    wpE K W0 (tCB (rIsX K (.ref C) d a) (tCons (tVar i) (tCons (tC c) tNil))) Γ Q := fun W σ S R kk => by
  obtain ⟨v, hv, df⟩ := S.var hi
  have := df.rf_inv
  subst this
  exact ⟨_, hv, C, c, cv, b, rfl, k, (ca.now o S).xd, rfl, hc, hk, kk _ W _ (.refl S.ok) (.bl b) p⟩
/-- constants as arguments -/
inductive ClsT : TA → List V → List Value → Prop where
  | nil : ClsT tNil [] []
  | cons {c : V} {u : Value} {t : TA} {cs : List V} {us : List Value} (h : ClsV c u) (r : ClsT t cs us) : ClsT (tCons (tC c) t) (c :: cs) (u :: us)
theorem ClsT.run {t : TA} {cs : List V} {us : List Value} (h : ClsT t cs us) : Paired ClsV cs us ∧ ∀ (σ : L2.St) (H : Hp) (Q : List V → Hp → Prop), Q cs H → t σ H Q := by
  induction h with
  | nil => exact ⟨.nil, fun _ _ _ q => q⟩
  | cons h r ih => exact ⟨.cons h ih.1, fun σ H Q q => ih.2 σ H _ q⟩
/-- isinstance(e, (C1, C2, ..)) -/
theorem wpE_isXT {d : Option Addr} {fs : List (Str × PyData)} {i : Nat} {a C : Addr} {t : TA} {cs : List V} {us : List Value} {b : Bool} {Q : PyData → Prop} (o : Ok W0) (ca : Cau K W0 d fs) (hi : Γ[i]? = some (.d (rfD a))) (k : ExcK K C) (hc : ClsT t cs us) (hl : cs.length ≤ sizeLine) (hk : PySem.W.kitAny K (.ref C) us = some b) (p : Q (.bool b)) :
    wpE K W0 (tCB (rIsXT K (.ref C) d a) (tCons (tVar i) (tCons (tTup t) tNil))) Γ Q := fun W σ S R kk => by
  obtain ⟨v, hv, df⟩ := S.var hi
  have := df.rf_inv
  subst this
  refine ⟨_, hv, hc.run.2 σ W.H _ ⟨hl, fun q hq => ?_⟩⟩
  have hb : ¬ W.B q := fun hb => by
    obtain ⟨_, _, _, e⟩ := S.ok.bx _ hb
    rw [hq] at e; cases e
  have hf : ¬ W.Fz q := fun h => S.ok.fz _ h hq
  have ne : ∀ {b : Addr}, W.H b ≠ none → b ≠ q := fun h e => h (e ▸ hq)
  have ok2 : Ok ⟨W.Fz, W.B, upd W.H q (.tup cs)⟩ := ⟨fun b h => by
    show upd W.H q (.tup cs) b ≠ none
    rw [upd_ne (ne (S.ok.fz b h))]
    exact S.ok.fz b h, fun b h => by
    obtain ⟨x, y, z, e⟩ := S.ok.bx b h
    exact ⟨x, y, z, by show upd W.H q (.tup cs) b = _; rw [upd_ne (ne (by rw [e]; exact fun z => nomatch z))]; exact e⟩, S.ok.fb⟩
  have le : Le W ⟨W.Fz, W.B, upd W.H q (.tup cs)⟩ := ⟨ok2, fun _ h => h, fun _ h => h, fun b o e _ => by
    show upd W.H q (.tup cs) b = some o
    rw [upd_ne (ne (by rw [e]; exact fun z => nomatch z))]
    exact e, fun _ h n => absurd h n, fun _ h n => absurd h n⟩
  exact ⟨C, q, cs, us, b, rfl, k, ((ca.now o S).mono (le.lf S.ok)).xd, rfl, upd_same, hc.run.1, hk, kk _ _ _ le (.bl b) p⟩
/-- e.f -/
theorem wpE_xf {d : Option Addr} {fs : List (Str × PyData)} {i : Nat} {a C : Addr} {f : Str} {x : PyData} {Q : PyData → Prop} (o : Ok W0) (ca : Cau K W0 d fs) (hi : Γ[i]? = some (.d (rfD a))) (hf : fs.lookup f = some x) (p : Q x) :
    wpE K W0 (tXf a (.ref C) d C f (tVar i)) Γ Q := fun W σ S R kk => by
  obtain ⟨v, hv, df⟩ := S.var hi
  have := df.rf_inv
  subst this
  obtain ⟨dd, vs, u, h1, h2, h3, h4⟩ := (ca.now o S).get hf
  exact ⟨_, hv, rfl, rfl, dd, vs, u, h1, h2, h3, kk _ W _ (.refl S.ok) h4 p⟩
end
end G

set_option Elab.async false
set_option linter.all false
set_option autoImplicit false
set_option maxRecDepth 100000
set_option maxHeartbeats 4000000
/-! G30: two own lists changed by a called def that answers yes or no; raising among them. -/
namespace G
open PySem L2 PyProof.Rows
section
variable {K : PySem.W.Frag} {W0 : Wd} {Γ : Gm} {A : AE5} {te : TE} {t u : TS} {r1 r2 : Nat} {mk : List PyData} {sy : List (PyData × List PyData)}
abbrev PrB (I : Type) : Type := I → PyData → List PyData → List (PyData × List PyData) → Prop
abbrev PoB (I : Type) : Type := I → PyData → List PyData → List (PyData × List PyData) → Bool → List PyData → List (PyData × List PyData) → Prop
def spPutB (K : PySem.W.Frag) {I : Type} (pre : PrB I) (post : PoB I) : Sp := fun vs H Q _ =>
  ∃ (ix : I) (W0 W : Wd) (m s : Addr) (ts bs : List Addr) (v : V) (d : PyData) (mk : List PyData) (sy : List (PyData × List PyData)), vs = [v, .ref m, .ref s] ∧ W.H = H ∧ Le W0 W ∧ Df K W v d ∧ Bst K W0 W m s ts bs mk sy ∧ pre ix d mk sy ∧
    ∀ W' ts' bs' z mk' sy', Lf W W' → Le W0 W' → Bst K W0 W' m s ts' bs' mk' sy' → post ix d mk sy z mk' sy' → Q (.bl z) W'.H
/-- if not f(e, r1, r2): t else u -/
theorem go5_putB {I : Type} {pre : PrB I} {post : PoB I} {E : XK}
    (h : wpE K W0 te Γ fun d => ∃ ix, pre ix d mk sy ∧ ∀ z k y, post ix d mk sy z k y → (z = true → go5 K W0 u Γ r1 r2 k y A) ∧ (z = false → go5 K W0 t Γ r1 r2 k y A)) : go5 K W0 (tIfS (tNot (tTest (tCall (spPutB K pre post) [] E (tCons te (tCons (tVar r1) (tCons (tVar r2) tNil)))))) t u) Γ r1 r2 mk sy A := fun W σ D m s ts bs S c =>
  h W σ S.sat _ fun v W1 d e f ⟨ix, hp, hq⟩ => by
    have S1 := S.mono e
    refine ⟨_, S.v1, _, S.v2, ix, W0, W1, m, s, ts, bs, v, d, mk, sy, rfl, rfl, S1.sat.le, f, S1.st, hp, fun W' ts' bs' z k y lf le b hk => ⟨z, rfl, ?_⟩⟩
    obtain ⟨hy, hn⟩ := hq z k y hk
    cases z with
    | true =>
      show u D σ W'.H
      exact hy rfl W' σ D m s ts' bs' (S1.put lf le b) (c.later ((e.lf S.sat.ok).trans lf))
    | false =>
      show t D σ W'.H
      exact hn rfl W' σ D m s ts' bs' (S1.put lf le b) (c.later ((e.lf S.sat.ok).trans lf))
/-- raising among them -/
theorem go5_raise1 {C : Addr} {f : Str} {E : XK} {xp : Xp} {ta : TA} (hE : ExG K W0 E xp) (h : wpA K W0 ta Γ fun ds => ∃ x, ds = [x] ∧ xp C [(f, x)]) :
    go5 K W0 (fun _ σ H => tMkO C (spI1 C f) [] ta σ H fun cls d H' => E cls d H') Γ r1 r2 mk sy A := fun W σ D m s ts bs S c =>
  go_raise1 (A := ⟨fun _ => False, fun _ => False, fun _ => False, fun _ => False⟩) hE h W σ D S.sat ⟨fun _ _ _ _ _ z => z.elim, fun _ _ _ _ _ z => z.elim, fun _ _ _ _ _ z => z.elim, fun _ _ _ _ _ z => z.elim⟩
theorem fn_ok5B {I : Type} {P : Program} {w : World} {mg : Str → Option Value} {base : Heap} {x qual : Str} {st : Stmt} {f : Addr} {fd : FuncData} {N ps : List Str} {k : Nat} {pre : PrB I} {post : PoB I}
    (F : Fun K x qual st f fd) (S : FnScope N ps (defScope st)) (len : ps.length = 3) (hN : 3 ≤ N.length)
    (h : ∀ (cdv : Value) (A : Around) (outer : List PySem.Env) (s : Shared) (H : Hp) (E : XK), Room k (A.deeper (PyProof.Rows.envOfC qual (defScope st) s.heap.objs.size f cdv)) →
      ∃ t, PSs (cxOf CX0 P w K mg base N qual (defScope st) f cdv A outer s H E).nox (defBody st) t ∧ ∀ ix W0 d mk sy, pre ix d mk sy → go5 K W0 t ([.d d, .no, .no] ++ List.replicate (N.length - 3) .no) 1 2 mk sy ⟨fun _ _ _ => False, fun r k y => ∃ z, r = .bool z ∧ post ix d mk sy z k y, fun _ => False⟩) :
    FnOk P w K mg base CX0 (k + 1) f fd ps (spPutB K pre post) := by
  refine F.ok S (fun vs H Q E hs => ?_) (fun cdv A outer s H vs Q E hr hs => ?_)
  · obtain ⟨_, _, _, _, _, _, _, _, _, _, _, rfl, _⟩ := hs
    exact len.symm
  · obtain ⟨t, h1, h2⟩ := h cdv A outer s H E hr
    refine ⟨t, h1, ?_⟩
    obtain ⟨ix, W0, W, m, s, ts, bs, v, d, mk, sy, rfl, rfl, le, df, bst, hp, hq⟩ := hs
    have st0 : Sat K W0 W (L2.start N [v, .ref m, .ref s]) ([.d d, .no, .no] ++ List.replicate (N.length - 3) .no) := by
      refine ⟨le, fun i s h => ?_, fun i j xs ys a _ h o _ _ _ _ => ?_⟩
      · unfold L2.start
        match i, h with
        | 0, h => cases h; exact ⟨some v, rfl, df⟩
        | 1, h => cases h; exact ⟨some (.ref _), rfl, trivial⟩
        | 2, h => cases h; exact ⟨some (.ref _), rfl, trivial⟩
        | i + 3, h =>
          have h' : (List.replicate (N.length - 3) Sl.no)[i]? = some s := h
          rw [List.getElem?_replicate] at h'
          split at h'
          · rename_i q
            cases h'
            refine ⟨none, ?_, trivial⟩
            show (List.replicate (N.length - 3) none)[i]? = _
            rw [List.getElem?_replicate, if_pos q]
          · cases h'
      · match i, h with
        | 0, h => cases h; cases o
        | 1, h => cases h; cases o
        | 2, h => cases h; cases o
        | i + 3, h =>
          have h' : (List.replicate (N.length - 3) Sl.no)[i]? = some xs := h
          rw [List.getElem?_replicate] at h'
          split at h'
          · cases h'
            cases o
          · cases h'
    refine h2 ix W0 d mk sy hp W _ _ m s ts bs { sat := st0, n1 := rfl, n2 := rfl, own := fun i sl hi => ?_, v1 := rfl, v2 := rfl, st := bst } ⟨fun _ _ _ _ _ _ _ _ _ z => z.elim, fun v W' r ts' bs' k y lf le' df' b ⟨z, hr, hk⟩ => ?_, fun _ _ _ _ _ z => z.elim⟩
    · rcases List.mem_append.mp (List.mem_of_getElem? hi) with z | z
      · rcases List.mem_cons.mp z with e | z
        · rw [e]; rfl
        rcases List.mem_cons.mp z with e | z
        · rw [e]; rfl
        rw [List.mem_singleton.mp z]; rfl
      · rw [List.eq_of_mem_replicate z]; rfl
    · subst hr
      cases df'.bool_inv
      exact hq W' ts' bs' z k y lf le' b hk
end
end G

set_option Elab.async false
set_option linter.all false
set_option autoImplicit false
set_option maxRecDepth 100000
set_option maxHeartbeats 4000000
/-! G31: `x, y, z = [], [], e`; range(i, j, -1); [..] * k, k wider. -/
namespace G
open PySem L2 PyProof.Rows
section
variable {K : PySem.W.Frag} {W0 : Wd} {Γ : Gm} {A : AE} {ta tb tc te : TE}
theorem go_par3LLD {i j l : Nat} (h : wpE K W0 te Γ fun d => A.nx (((Γ.set i (.l [])).set j (.l [])).set l (.d d))) : go K W0 (tPar3 i j l (tCons (tLst tNil) (tCons (tLst tNil) (tCons te tNil)))) Γ A := fun W σ D S c => ⟨Nat.zero_le _, fun q1 h1 => ⟨Nat.zero_le _, fun q2 h2 => by
  obtain ⟨e1, n1⟩ := S.ok.newL (K := K) (ds := []) (vs := []) h1 .nil
  obtain ⟨e2, n2⟩ := e1.ok.newL (K := K) (ds := []) (vs := []) h2 .nil
  exact h _ σ ((S.mono e1).mono e2) _ fun v W2 d e3 n p => ⟨.ref q1, .ref q2, v, rfl, c.nx _ W2 _ (((e1.trans e2).trans e3).lf S.ok) ((((S.setNw e1 n1 i).setNw e2 n2 j).mono e3).setD l n) p⟩⟩⟩
def rngB (hi : Int) (n : Nat) : List PyData := (List.range n).map fun i => .int (hi - (i : Nat))
theorem rngB_len (hi : Int) (n : Nat) : (rngB hi n).length = n := by simp [rngB]
theorem rngB_get {hi : Int} {n i : Nat} {d : PyData} (h : (rngB hi n)[i]? = some d) : i < n ∧ d = .int (hi - i) := by
  have g : i < n := by
    have := (List.getElem?_eq_some_iff.mp h).1
    rw [rngB_len] at this
    exact this
  unfold rngB at h
  rw [List.getElem?_map, List.getElem?_eq_getElem (by simpa using g)] at h
  simp at h
  exact ⟨g, h.symm⟩
theorem itd_rngB {G : Wd → Prop} {hi : Int} {n : Nat} : ItD K G (Itc hi (-1) n) (rngB hi n) where
  go := fun W2 i g hi => by rw [rngB_len] at hi; exact hi
  stop := fun W2 i g hi => by rw [rngB_len] at hi; exact hi
  yld := fun W2 i x H' d g ok hd ⟨e, y⟩ => by
    obtain ⟨_, rfl⟩ := rngB_get hd
    subst y
    have e2 : hi + (i : Nat) * (-1) = hi - (i : Nat) := by omega
    rw [e2]
    exact ⟨W2, e.symm, .refl ok, .int _⟩
theorem wpI_rngB {P : List PyData → Prop} (h : wpE K W0 ta Γ fun a => wpE K W0 tb Γ fun b => wpE K W0 tc Γ fun c => ∃ i j : Int, a = .int i ∧ b = .int j ∧ c = .int (-1) ∧ (-(2 ^ 62) ≤ i ∧ i < 2 ^ 62 ∧ -(2 ^ 62) ≤ j ∧ j < 2 ^ 62) ∧ P (rngB i (i - j).toNat)) :
    wpI K W0 (iRng3 (tCons ta (tCons tb (tCons tc tNil)))) Γ P := fun W σ S R k =>
  h W σ S _ fun v W1 a e1 f1 h1 => h1 W1 σ (S.mono e1) _ fun u W2 b e2 f2 h2 => h2 W2 σ ((S.mono e1).mono e2) _ fun t W3 c e3 f3 ⟨i, j, ha, hb, hc, ⟨b1, b2, b3, b4⟩, p⟩ => by
    subst ha hb hc
    cases f1.int_inv
    cases f2.int_inv
    cases f3.int_inv
    exact ⟨i, j, -1, _, rfl, RgC.neg b1 b2 b3 b4, k W3 _ _ ((e1.trans e2).trans e3) itd_rngB p⟩
theorem wpN_repW {P : List PyData → Prop} (h : wpN K W0 ta Γ fun xs => wpE K W0 tb Γ fun y => ∃ k : Int, y = .int k ∧ 0 ≤ k ∧ k ≤ 1000000 ∧ xs.length ≤ 10 ∧ P (List.replicate k.toNat xs).flatten) : wpN K W0 (tOp rRep ta tb) Γ P := fun W σ S Q k =>
  h W σ S _ fun v W1 xs e1 n1 h1 => by
    obtain ⟨a, vs, rfl, m2, m3, m4, m5, m6⟩ := n1
    refine h1 W1 σ (S.mono e1) _ fun u W2 d e2 f2 ⟨i, hd, hi0, hi1, hx, p⟩ => ?_
    subst hd
    cases f2.int_inv
    have g6 := Dfs.mono (e2.lf e1.ok) _ _ m6
    have hm : vs.length * i.toNat ≤ 10 * 1000000 := Nat.mul_le_mul (by rw [m6.length]; exact hx) (by omega)
    refine ⟨a, i, vs, rfl, rfl, e2.ex _ _ m5 m4, by omega, by omega, by rw [sizeLine_eq]; omega, fun q hq => ?_⟩
    obtain ⟨e, f⟩ := e2.ok.newL hq (g6.rep i.toNat)
    exact k _ _ _ ((e1.trans e2).trans e) (f.up S.ok (e1.trans e2)) p
/-- x if c else y, both new lists -/
theorem wpN_if {tt : TT} {P : List PyData → Prop} (h : wpT K W0 tt Γ fun b => (b = true → wpN K W0 ta Γ P) ∧ (b = false → wpN K W0 tb Γ P)) : wpN K W0 (tIf tt ta tb) Γ P := fun W σ S Q k => h W σ S _ fun W1 b e1 p => by
  cases b with
  | true =>
    show ta σ W1.H Q
    exact p.1 rfl W1 σ (S.mono e1) Q fun v W2 ds e2 n q => k v W2 ds (e1.trans e2) (Nw.up S.ok e1 n) q
  | false =>
    show tb σ W1.H Q
    exact p.2 rfl W1 σ (S.mono e1) Q fun v W2 ds e2 n q => k v W2 ds (e1.trans e2) (Nw.up S.ok e1 n) q
end
end G

set_option Elab.async false
set_option linter.all false
set_option autoImplicit false
set_option maxRecDepth 100000
set_option maxHeartbeats 4000000
/-! G32: rows.append([..]); `rows, x = [[]], c`; None in a list of data; one of several terms. -/
namespace G
open PySem L2 PyProof.Rows
section
variable {X : Cx} {e : Expr}
/-- a reading that is chosen when it is run -/
def tEx {ι : Type} (t : ι → TE) : TE := fun σ H Q => ∃ j, t j σ H Q
theorem pe_ex {ι : Type} {t : ι → TE} (F : ∀ j, PE X e (t j)) : PE X e (tEx t) := ⟨fun pins s σ H Q I ⟨j, h⟩ => (F j).run pins s σ H Q I h⟩
end
theorem hu65 {k : Nat} {B : Around} (hr : Room k B) : B.units + 65 < cLine := Nat.lt_of_le_of_lt (by omega) hr.un
section
variable {K : PySem.W.Frag} {W W0 : Wd} {Γ : Gm} {ta tb te : TE} {t u : TS}
theorem wpE_ex {ι : Type} {t : ι → TE} {P : PyData → Prop} (j : ι) (h : wpE K W0 (t j) Γ P) : wpE K W0 (tEx t) Γ P := fun W σ S Q k => ⟨j, h W σ S Q k⟩
/-- x in a list, x and its items any data -/
theorem opR_inD {x : PyData} {ds : List PyData} {P : PyData → Prop} (hx : SeqAt.shaped x = true) (hy : SeqAt.shaped (.list ds) = true) (p : P (.bool (ds.any fun z => PyData.eqv z x))) : opR K (rInD K) x (.list ds) P := fun W v u ok f1 f2 Q k =>
  ⟨x, ds, Df.dp _ _ (SeqAt.canLay_of_shaped hx) f1, Df.dp _ _ (SeqAt.canLay_of_shaped hy) f2, hx, hy, k _ W _ (.refl ok) (.bl _) p⟩
theorem inD_K {X : Cx} (h : X.K = K) (hu : X.A.units + 65 < cLine) : OpR X (compareOp .In) (rInD K) := by
  subst h
  exact op_inD hu
/-- rows.append(a new list) -/
theorem go2_appNewN {r : Nat} {xss : List (List PyData)} {A : AE2} (h : wpN K W0 te Γ fun ds => xss.length < 10000000 ∧ A.nx Γ (xss ++ [ds])) :
    go2 K W0 (tDrop (tBM K "list" rAppend (tVar r) (tCons te tNil))) Γ r xss A := fun W σ D a bs S c => by
  have hsz : sizeLine = 16777216 := sizeLine_eq
  refine ⟨_, S.var, .inl ⟨rfl, _, .inl (.inl S.aH)⟩, h W σ S.sat _ fun v W1 ds e n ⟨hz, p⟩ => ?_⟩
  have S1 := S.mono e
  obtain ⟨b, vs', rfl, n1, n2, n3, n4, n5⟩ := n
  refine ⟨a, bs.map V.ref, .ref b, rfl, rfl, S1.aH, by rw [List.length_map, S.len]; omega, ?_⟩
  have nab : a ≠ b := fun z => by
    subst z
    rw [S.aH] at n1
    cases n1
  have lf := S1.sat.ok.mutLf (o' := .lst (bs.map V.ref ++ [.ref b])) S1.aH trivial S1.aF S1.aB
  have nbs : ∀ (i : Nat) (x : Addr), bs[i]? = some x → x ≠ b := fun i x hx z => by
    subst z
    have hi : i < xss.length := by rw [← S.len]; exact (List.getElem?_eq_some_iff.mp hx).1
    obtain ⟨_, _, _, ws, q, _⟩ := S.all i x _ hx (List.getElem?_eq_getElem hi)
    rw [q] at n1
    cases n1
  have W0b : W0.H b = none := S.sat.le.fresh n1
  refine c.nx Γ ⟨W1.Fz, W1.B, upd W1.H a (.lst (bs.map V.ref ++ [.ref b]))⟩ σ a (bs ++ [b]) (xss ++ [ds]) ((e.lf S.sat.ok).trans lf) { S1 with
    sat := S1.sat.mutN S.own lf (S1.sat.le.mut S1.aH S1.aB S.a0)
    aH := by
      show upd _ a _ a = _
      rw [upd_same, List.map_append]
      rfl
    nd := by
      have nd := List.nodup_cons.mp S.nd
      refine List.nodup_cons.mpr ⟨fun z => ?_, List.nodup_append.mpr ⟨nd.2, by simp, fun x hx y hy => ?_⟩⟩
      · rcases List.mem_append.mp z with z | z
        · exact nd.1 z
        · exact nab (by simpa using z)
      · obtain ⟨i, hi⟩ := List.mem_iff_getElem?.mp hx
        have : y = b := by simpa using hy
        rw [this]
        exact nbs i x hi
    len := by rw [List.length_append, List.length_append, S.len]; rfl
    all := fun i x xs h1 h2 => ?_ } p
  by_cases hi : i < bs.length
  · rw [List.getElem?_append_left hi] at h1
    rw [List.getElem?_append_left (by rw [← S.len]; exact hi)] at h2
    obtain ⟨q0, qF, qB, ws, qH, qf⟩ := S1.all i x xs h1 h2
    have nax : x ≠ a := fun z => by
      subst z
      exact (List.nodup_cons.mp S.nd).1 (List.mem_of_getElem? h1)
    exact ⟨q0, qF, qB, ws, by show upd _ a _ x = _; rw [upd_ne nax]; exact qH, Dfs.mono lf _ _ qf⟩
  · by_cases hj : i = bs.length
    · subst hj
      simp at h1
      rw [S.len] at h2
      simp at h2
      subst h1
      subst h2
      exact ⟨W0b, n2, n3, vs', by show upd _ a _ b = _; rw [upd_ne (Ne.symm nab)]; exact n4, Dfs.mono lf _ _ n5⟩
    · rw [List.getElem?_eq_none (by simp; omega)] at h1
      cases h1
/-- rows, x = [[]], c; for ..: ..; what follows, the rows being data -/
theorem go_rowsP {A : AE} {r w q : Nat} {wi : TI} {c0 : V} {d0 : PyData} (hd0 : ∀ W, Df K W c0 d0) (hr : r < Γ.length) (nw : w ≠ r) (nq : q ≠ r) (no : noOwn Γ)
    (h : wpI K W0 wi ((Γ.set r .no).set q (.d d0)) fun ds => ∃ Iv : Nat → Gm → List (List PyData) → Prop, Iv 0 ((Γ.set r .no).set q (.d d0)) [[]] ∧
      (∀ (i : Nat) (d : PyData) (Γ' : Gm) (yss : List (List PyData)), ds[i]? = some d → Iv i Γ' yss → go2 K W0 t (Γ'.set w (.d d)) r yss ⟨Iv (i + 1), A.rt⟩) ∧
      ∀ Γ' yss, Iv ds.length Γ' yss → go K W0 u (Γ'.set r (.d (rowsD yss))) A) :
    go K W0 (tSeq (tPar r q (tCons (tLst (tCons (tLst tNil) tNil)) (tCons (tC c0) tNil))) (tSeq (tFor wi (gName w) t) u)) Γ A := fun W σ D S c => by
  have hsz : sizeLine = 16777216 := sizeLine_eq
  refine ⟨Nat.zero_le _, fun b hb => ⟨by rw [hsz]; exact Nat.le_of_ble_eq_true rfl, fun a ha => ⟨.ref a, c0, rfl, ?_⟩⟩⟩
  have hb0 : W.H b = none := hb
  obtain ⟨e1, n1⟩ := S.ok.newL (vs := []) (ds := []) hb (Dfs.nil (K := K))
  have ha1 : upd W.H b (.lst []) a = none := ha
  obtain ⟨e2, _⟩ := e1.ok.newT (vs := []) (ds := []) ha (Dfs.nil (K := K))
  have nab : a ≠ b := fun z => by
    subst z
    rw [upd_same] at ha1
    cases ha1
  have leA : Le W ⟨W.Fz, W.B, upd (upd W.H b (.lst [])) a (.lst [.ref b])⟩ := e1.trans (e1.ok.new (u := .lst [.ref b]) ha)
  have fr : ∀ c, W.H c = none → ¬ W.Fz c ∧ ¬ W.B c := fun c hc => ⟨fun z => S.ok.fz c z hc, fun z => by
    obtain ⟨_, _, _, q⟩ := S.ok.bx c z
    rw [hc] at q
    cases q⟩
  have ha0 : W.H a = none := by
    rw [upd_ne nab] at ha1
    exact ha1
  have hlen : r < σ.length := S.len hr
  have S0 : Sat2 K W0 ⟨W.Fz, W.B, upd (upd W.H b (.lst [])) a (.lst [.ref b])⟩ (σ.set r (some (.ref a))) (Γ.set r .no) r a [b] [[]] := {
    sat := (S.mono leA).set r (show SlOk K W0 _ (some (.ref a)) .no from trivial) (fun z => by cases z)
    nr := by rw [List.getElem?_set, if_pos rfl, if_pos hr]
    own := no.set rfl
    var := by rw [List.getElem?_set, if_pos rfl, if_pos hlen]
    a0 := S.le.fresh ha0
    aF := (fr a ha0).1
    aB := (fr a ha0).2
    aH := upd_same
    nd := by simp [nab]
    len := rfl
    all := fun i c xs h1 h2 => by
      cases i with
      | zero =>
        cases h1
        cases h2
        exact ⟨S.le.fresh hb0, (fr b hb0).1, (fr b hb0).2, [], by show upd _ a _ b = _; rw [upd_ne (Ne.symm nab)]; exact upd_same, .nil⟩
      | succ i => cases h1 }
  have S1 := S0.setD nq (hd0 _)
  refine h _ _ S1.sat _ fun W2 J ds e3 it ⟨Iv, i0, hs, hd⟩ => ?_
  have S2 := S1.mono e3
  have lf0 : Lf W W2 := (leA.trans e3).lf S.ok
  refine ⟨fun i m σ' H => m = ds.length - i ∧ i ≤ ds.length ∧ ∃ W3 Γ' a' bs yss, W3.H = H ∧ Lf W2 W3 ∧ Sat2 K W0 W3 σ' Γ' r a' bs yss ∧ Iv i Γ' yss, ⟨ds.length, by simp, Nat.zero_le _, W2, _, a, [b], [[]], rfl, .refl e3.ok, S2, i0⟩, ?_⟩
  rintro i m σ' H ⟨rfl, hi, W3, Γ', a', bs, yss, rfl, f2, S3, hI⟩
  have c2 := c.later (lf0.trans f2)
  by_cases hlt : i < ds.length
  · refine .inr ⟨it.go W3 i f2 hlt, fun σ' H' => ∃ W3 Γ' a' bs yss, W3.H = H' ∧ Lf W2 W3 ∧ Sat2 K W0 W3 σ' Γ' r a' bs yss ∧ Iv (i + 1) Γ' yss, fun σ' H' q => ⟨ds.length - (i + 1), by omega, rfl, hlt, q⟩, fun x H' hy => ?_⟩
    obtain ⟨W4, rfl, e4, f4⟩ := it.yld W3 i x H' ds[i] f2 S3.sat.ok (List.getElem?_eq_getElem hlt) hy
    have f5 : Lf W2 W4 := f2.trans (e4.lf S3.sat.ok)
    refine hs i ds[i] Γ' yss (List.getElem?_eq_getElem hlt) hI W4 _ _ a' bs ((S3.mono e4).setD nw f4) ⟨fun Γ5 W5 σ5 a5 b5 y5 f6 S5 q => ⟨W5, Γ5, a5, b5, y5, rfl, f5.trans f6, S5, q⟩, fun v W5 q e5 r5 p => c2.rt v W5 q e5 r5 p⟩
  · have e : i = ds.length := by omega
    subst e
    refine .inl ⟨it.stop W3 _ f2 (Nat.le_refl _), ?_⟩
    obtain ⟨V1, hV, lf, S4, _⟩ := S3.view
    show u D σ' W3.H
    rw [← hV]
    exact hd Γ' yss hI V1 σ' D S4 (c2.later lf)
end
theorem meets_cat2 (l b : Addr) (x1 x2 : Array Value) (n1 n2 : Nat) (d1 d2 : Option Addr) (s1 s2 : Array (Option Value)) (hz : x1.size + x2.size ≤ sizeLine) :
    Meets (Builtin.«list.__add__» ⟨[.ref l, .ref b], []⟩) fun _ R s =>
      s.heap.get? l = some ⟨.type "list", d1, .seq x1 n1, s1⟩ ∧ s.heap.get? b = some ⟨.type "list", d2, .seq x2 n2, s2⟩ ∧
        R (.ok (.ret (.ref s.heap.objs.size))) { s with heap := s.heap.push { cls := .type "list", data := .seq (x1 ++ x2) }, toks := s.toks } :=
  Meets.of_wp fun prog w A R s h => by
    obtain ⟨hp, g, dd, tk, os⟩ := s
    obtain ⟨h1, h2, h3⟩ := h
    have ty := AutoSeq1.sub_list_list
    wp_walk using AutoSeq1.wpAny_loadPart' h1, AutoSeq1.wpAny_loadPart' h2
    exact ⟨_, rfl, h3⟩
end G
namespace G
open PySem L2 PyProof.Rows
/-- list + list, both only read -/
def rCatR (K : PySem.W.Frag) : R2 := fun x y H Q => ∃ l b xs zs, x = .ref l ∧ y = .ref b ∧ SqL K H l xs ∧ SqL K H b zs ∧ xs.length + zs.length ≤ sizeLine ∧ ∀ p, H p = none → Q (.ref p) (upd H p (.lst (xs ++ zs)))
theorem op_catR {X : Cx} : OpR X (binaryOp .Add) (rCatR X.K) := by
  intro pins s σ H x y v u Q I rx ry h
  obtain ⟨l, b, xs, zs, rfl, rfl, hl, hb, hz, q⟩ := h
  cases rx
  cases ry
  obtain ⟨i1, r1, ⟨⟨c1, d1, data1, s1⟩, n1, g1, e1, e2, e3⟩, _⟩ := I.list hl
  obtain ⟨i2, r2, ⟨⟨c2, d2, data2, s2⟩, n2, g2, e4, e5, e6⟩, _⟩ := I.list hb
  simp only at e1 e3 e4 e6
  subst e1 e3 e4 e6
  have hz2 : i1.toArray.size + i2.toArray.size ≤ sizeLine := by
    rw [List.size_toArray, List.size_toArray, ← r1.length, ← r2.length]
    exact hz
  refine concat_meets ⟨_, g1, rfl⟩ ⟨_, g2, rfl⟩ noFill_list_add seq_list_add PySem.F.slot_list_add PySem.F.entry_list_add (PySem.F.args_list_add_2 _ _) (meets_cat2 l b i1.toArray i2.toArray n1 n2 d1 d2 s1 s2 hz2) ⟨g1, g2, ?_⟩
  have ea : i1.toArray ++ i2.toArray = (i1 ++ i2).toArray := by simp
  rw [ea]
  exact ⟨.ref _, _, I.lnew (t' := s.toks) (r1.append r2) (by rw [List.length_append]; exact hz), rfl, q _ I.fresh⟩
section
variable {K : PySem.W.Frag} {W W0 : Wd} {Γ : Gm} {ta tb te : TE}
theorem catR_K {X : Cx} (h : X.K = K) : OpR X (binaryOp .Add) (rCatR K) := by
  subst h
  exact op_catR
theorem wpN_catR {P : List PyData → Prop} (h : wpL K W0 ta Γ fun xs => wpL K W0 tb Γ fun ys => xs.length + ys.length ≤ sizeLine ∧ P (xs ++ ys)) : wpN K W0 (tOp (rCatR K) ta tb) Γ P := fun W σ S Q k =>
  h W σ S _ fun v W1 xs e1 n1 h1 => h1 W1 σ (S.mono e1) _ fun u W2 ys e2 n2 ⟨hz, p⟩ => by
    obtain ⟨a, vs, rfl, a2, a3⟩ := (n1.mono e1.ok e2).sq
    obtain ⟨b, us, rfl, b2, b3⟩ := n2.sq
    refine ⟨a, b, vs, us, rfl, rfl, a2, b2, by rw [a3.length, b3.length]; exact hz, fun p' hp => ?_⟩
    obtain ⟨e, f⟩ := e2.ok.newL hp (a3.append b3)
    exact k _ _ _ ((e1.trans e2).trans e) (f.up S.ok (e1.trans e2)) p
end
end G

set_option Elab.async false
set_option linter.all false
set_option autoImplicit false
set_option maxRecDepth 100000
set_option maxHeartbeats 0
namespace My
open PySem L2 G
def topS (i : Nat) : Stmt := PySem.Challenge.pw_leanround_k60_terms_and_claims_otherwise.main.body.getD i (.Pass ⟨0, 0, 0, 0⟩)
abbrev s_BadText_init : Stmt := inClass (topS 9) 0
abbrev N_BadText_init : List Str := ["self", "row"]
abbrev P_BadText_init : List Str := ["self", "row"]
theorem sc_BadText_init : FnScope N_BadText_init P_BadText_init (defScope s_BadText_init) := ⟨rfl, rfl, rfl, by decide +kernel, rfl, by decide +kernel, by decide +kernel⟩
abbrev s_is_name : Stmt := topS 15
abbrev N_is_name : List Str := ["text", "letter"]
abbrev P_is_name : List Str := ["text"]
theorem sc_is_name : FnScope N_is_name P_is_name (defScope s_is_name) := ⟨rfl, rfl, rfl, by decide +kernel, rfl, by decide +kernel, by decide +kernel⟩
abbrev s_inner : Stmt := topS 16
abbrev N_inner : List Str := ["term"]
abbrev P_inner : List Str := ["term"]
theorem sc_inner : FnScope N_inner P_inner (defScope s_inner) := ⟨rfl, rfl, rfl, by decide +kernel, rfl, by decide +kernel, by decide +kernel⟩
abbrev s_deep : Stmt := topS 17
abbrev N_deep : List Str := ["term", "level", "depth", "part", "below"]
abbrev P_deep : List Str := ["term"]
theorem sc_deep : FnScope N_deep P_deep (defScope s_deep) := ⟨rfl, rfl, rfl, by decide +kernel, rfl, by decide +kernel, by decide +kernel⟩
abbrev s_words_of : Stmt := topS 20
abbrev N_words_of : List Str := ["row"]
abbrev P_words_of : List Str := ["row"]
theorem sc_words_of : FnScope N_words_of P_words_of (defScope s_words_of) := ⟨rfl, rfl, rfl, by decide +kernel, rfl, by decide +kernel, by decide +kernel⟩
abbrev s_all_or_none : Stmt := topS 21
abbrev N_all_or_none : List Str := ["row", "told"]
abbrev P_all_or_none : List Str := ["row"]
theorem sc_all_or_none : FnScope N_all_or_none P_all_or_none (defScope s_all_or_none) := ⟨rfl, rfl, rfl, by decide +kernel, rfl, by decide +kernel, by decide +kernel⟩
abbrev s_terms_in : Stmt := topS 22
abbrev N_terms_in : List Str := ["words", "rows", "word", "begun", "made", "term"]
abbrev P_terms_in : List Str := ["words"]
theorem sc_terms_in : FnScope N_terms_in P_terms_in (defScope s_terms_in) := ⟨rfl, rfl, rfl, by decide +kernel, rfl, by decide +kernel, by decide +kernel⟩
abbrev s_parted : Stmt := topS 23
abbrev N_parted : List Str := ["words", "mark", "rows", "word"]
abbrev P_parted : List Str := ["words", "mark"]
theorem sc_parted : FnScope N_parted P_parted (defScope s_parted) := ⟨rfl, rfl, rfl, by decide +kernel, rfl, by decide +kernel, by decide +kernel⟩
abbrev s_atom_in : Stmt := topS 24
abbrev N_atom_in : List Str := ["words", "terms"]
abbrev P_atom_in : List Str := ["words"]
theorem sc_atom_in : FnScope N_atom_in P_atom_in (defScope s_atom_in) := ⟨rfl, rfl, rfl, by decide +kernel, rfl, by decide +kernel, by decide +kernel⟩
abbrev s_atoms_in : Stmt := topS 25
abbrev N_atoms_in : List Str := ["rows", "words"]
abbrev P_atoms_in : List Str := ["rows"]
theorem sc_atoms_in : FnScope N_atoms_in P_atoms_in (defScope s_atoms_in) := ⟨rfl, rfl, rfl, by decide +kernel, rfl, by decide +kernel, by decide +kernel⟩
abbrev s_claim_in : Stmt := topS 26
abbrev N_claim_in : List Str := ["words", "sides", "left"]
abbrev P_claim_in : List Str := ["words"]
theorem sc_claim_in : FnScope N_claim_in P_claim_in (defScope s_claim_in) := ⟨rfl, rfl, rfl, by decide +kernel, rfl, by decide +kernel, by decide +kernel⟩
abbrev s_read_term : Stmt := topS 27
abbrev N_read_term : List Str := ["text", "terms"]
abbrev P_read_term : List Str := ["text"]
theorem sc_read_term : FnScope N_read_term P_read_term (defScope s_read_term) := ⟨rfl, rfl, rfl, by decide +kernel, rfl, by decide +kernel, by decide +kernel⟩
abbrev s_read_claim : Stmt := topS 28
abbrev N_read_claim : List Str := ["text", "claim"]
abbrev P_read_claim : List Str := ["text"]
theorem sc_read_claim : FnScope N_read_claim P_read_claim (defScope s_read_claim) := ⟨rfl, rfl, rfl, by decide +kernel, rfl, by decide +kernel, by decide +kernel⟩
abbrev s_box : Stmt := topS 30
abbrev N_box : List Str := ["_law_script", "_law_k", "_law_cell", "_law_seed"]
abbrev P_box : List Str := ["_law_script", "_law_k"]
theorem sc_box : FnScope N_box P_box (defScope s_box) := ⟨rfl, rfl, rfl, by decide +kernel, rfl, by decide +kernel, by decide +kernel⟩
abbrev s_take : Stmt := topS 31
abbrev N_take : List Str := ["_law_box_here", "_law_many", "_law_digit", "_law_one"]
abbrev P_take : List Str := ["_law_box_here", "_law_many"]
theorem sc_take : FnScope N_take P_take (defScope s_take) := ⟨rfl, rfl, rfl, by decide +kernel, rfl, by decide +kernel, by decide +kernel⟩
abbrev s_alike : Stmt := topS 32
abbrev N_alike : List Str := ["_law_found", "_law_due", "_law_one", "_law_other"]
abbrev P_alike : List Str := ["_law_found", "_law_due"]
theorem sc_alike : FnScope N_alike P_alike (defScope s_alike) := ⟨rfl, rfl, rfl, by decide +kernel, rfl, by decide +kernel, by decide +kernel⟩
abbrev s_term_words : Stmt := topS 33
abbrev N_term_words : List Str := ["_law_term", "_law_found", "_law_part"]
abbrev P_term_words : List Str := ["_law_term"]
theorem sc_term_words : FnScope N_term_words P_term_words (defScope s_term_words) := ⟨rfl, rfl, rfl, by decide +kernel, rfl, by decide +kernel, by decide +kernel⟩
abbrev s_atom_words : Stmt := topS 34
abbrev N_atom_words : List Str := ["_law_atom_here", "_law_found", "_law_term"]
abbrev P_atom_words : List Str := ["_law_atom_here"]
theorem sc_atom_words : FnScope N_atom_words P_atom_words (defScope s_atom_words) := ⟨rfl, rfl, rfl, by decide +kernel, rfl, by decide +kernel, by decide +kernel⟩
abbrev s_claim_words : Stmt := topS 35
abbrev N_claim_words : List Str := ["_law_claim_here", "_law_found", "_law_side", "_law_k", "_law_atom_here"]
abbrev P_claim_words : List Str := ["_law_claim_here"]
theorem sc_claim_words : FnScope N_claim_words P_claim_words (defScope s_claim_words) := ⟨rfl, rfl, rfl, by decide +kernel, rfl, by decide +kernel, by decide +kernel⟩
abbrev s_wide_name : Stmt := topS 36
abbrev N_wide_name : List Str := ["_law_box_here", "_law_letters", "_law_some", "_law_name", "_law_k"]
abbrev P_wide_name : List Str := ["_law_box_here"]
theorem sc_wide_name : FnScope N_wide_name P_wide_name (defScope s_wide_name) := ⟨rfl, rfl, rfl, by decide +kernel, rfl, by decide +kernel, by decide +kernel⟩
abbrev s_wide_names : Stmt := topS 37
abbrev N_wide_names : List Str := ["_law_box_here", "_law_found", "_law_k"]
abbrev P_wide_names : List Str := ["_law_box_here"]
theorem sc_wide_names : FnScope N_wide_names P_wide_names (defScope s_wide_names) := ⟨rfl, rfl, rfl, by decide +kernel, rfl, by decide +kernel, by decide +kernel⟩
abbrev s_wide_term : Stmt := topS 39
abbrev N_wide_term : List Str := ["_law_box_here", "_law_names", "_law_room", "_law_down", "_law_left", "_law_terms_here", "_law_k", "_law_wide"]
abbrev P_wide_term : List Str := ["_law_box_here", "_law_names", "_law_room", "_law_down"]
theorem sc_wide_term : FnScope N_wide_term P_wide_term (defScope s_wide_term) := ⟨rfl, rfl, rfl, by decide +kernel, rfl, by decide +kernel, by decide +kernel⟩
abbrev s_wide_terms : Stmt := topS 40
abbrev N_wide_terms : List Str := ["_law_box_here", "_law_names", "_law_most", "_law_k"]
abbrev P_wide_terms : List Str := ["_law_box_here", "_law_names", "_law_most"]
theorem sc_wide_terms : FnScope N_wide_terms P_wide_terms (defScope s_wide_terms) := ⟨rfl, rfl, rfl, by decide +kernel, rfl, by decide +kernel, by decide +kernel⟩
abbrev s_wide_atom : Stmt := topS 41
abbrev N_wide_atom : List Str := ["_law_box_here", "_law_names"]
abbrev P_wide_atom : List Str := ["_law_box_here", "_law_names"]
theorem sc_wide_atom : FnScope N_wide_atom P_wide_atom (defScope s_wide_atom) := ⟨rfl, rfl, rfl, by decide +kernel, rfl, by decide +kernel, by decide +kernel⟩
abbrev s_wide_claim : Stmt := topS 42
abbrev N_wide_claim : List Str := ["_law_box_here", "_law_names", "_law_left", "_law_k"]
abbrev P_wide_claim : List Str := ["_law_box_here", "_law_names"]
theorem sc_wide_claim : FnScope N_wide_claim P_wide_claim (defScope s_wide_claim) := ⟨rfl, rfl, rfl, by decide +kernel, rfl, by decide +kernel, by decide +kernel⟩
abbrev s_l_is_name : Stmt := topS 43
abbrev N_l_is_name : List Str := ["_law_text", "_law_sign_here"]
abbrev P_l_is_name : List Str := ["_law_text"]
theorem sc_l_is_name : FnScope N_l_is_name P_l_is_name (defScope s_l_is_name) := ⟨rfl, rfl, rfl, by decide +kernel, rfl, by decide +kernel, by decide +kernel⟩
abbrev s_far : Stmt := topS 45
abbrev N_far : List Str := ["_law_term", "_law_part"]
abbrev P_far : List Str := ["_law_term"]
theorem sc_far : FnScope N_far P_far (defScope s_far) := ⟨rfl, rfl, rfl, by decide +kernel, rfl, by decide +kernel, by decide +kernel⟩
abbrev s_terms : Stmt := topS 46
abbrev N_terms : List Str := ["_law_words", "_law_made", "_law_begun", "_law_word", "_law_done", "_law_term"]
abbrev P_terms : List Str := ["_law_words"]
theorem sc_terms : FnScope N_terms P_terms (defScope s_terms) := ⟨rfl, rfl, rfl, by decide +kernel, rfl, by decide +kernel, by decide +kernel⟩
abbrev s_atom : Stmt := topS 47
abbrev N_atom : List Str := ["_law_words", "_law_terms_here"]
abbrev P_atom : List Str := ["_law_words"]
theorem sc_atom : FnScope N_atom P_atom (defScope s_atom) := ⟨rfl, rfl, rfl, by decide +kernel, rfl, by decide +kernel, by decide +kernel⟩
abbrev s_l_parted : Stmt := topS 48
abbrev N_l_parted : List Str := ["_law_words", "_law_mark", "_law_found", "_law_word"]
abbrev P_l_parted : List Str := ["_law_words", "_law_mark"]
theorem sc_l_parted : FnScope N_l_parted P_l_parted (defScope s_l_parted) := ⟨rfl, rfl, rfl, by decide +kernel, rfl, by decide +kernel, by decide +kernel⟩
abbrev s_claim : Stmt := topS 49
abbrev N_claim : List Str := ["_law_row", "_law_sides", "_law_found", "_law_side", "_law_words"]
abbrev P_claim : List Str := ["_law_row"]
theorem sc_claim : FnScope N_claim P_claim (defScope s_claim) := ⟨rfl, rfl, rfl, by decide +kernel, rfl, by decide +kernel, by decide +kernel⟩
abbrev s_other_word : Stmt := topS 50
abbrev N_other_word : List Str := ["_law_box_here", "_law_words", "_law_some"]
abbrev P_other_word : List Str := ["_law_box_here", "_law_words"]
theorem sc_other_word : FnScope N_other_word P_other_word (defScope s_other_word) := ⟨rfl, rfl, rfl, by decide +kernel, rfl, by decide +kernel, by decide +kernel⟩
abbrev s_sign : Stmt := topS 51
abbrev N_sign : List Str := ["_law_box_here", "_law_signs"]
abbrev P_sign : List Str := ["_law_box_here"]
theorem sc_sign : FnScope N_sign P_sign (defScope s_sign) := ⟨rfl, rfl, rfl, by decide +kernel, rfl, by decide +kernel, by decide +kernel⟩
abbrev s_row_otherwise : Stmt := topS 52
abbrev N_row_otherwise : List Str := ["_law_box_here", "_law_row", "_law_words", "_law_form", "_law_k", "_law_at", "_law_word"]
abbrev P_row_otherwise : List Str := ["_law_box_here", "_law_row"]
theorem sc_row_otherwise : FnScope N_row_otherwise P_row_otherwise (defScope s_row_otherwise) := ⟨rfl, rfl, rfl, by decide +kernel, rfl, by decide +kernel, by decide +kernel⟩
abbrev s_met : Stmt := topS 54
abbrev N_met : List Str := ["_law_call", "_law_text", "_law_found", "e", "_law_others"]
abbrev P_met : List Str := ["_law_call", "_law_text"]
theorem sc_met : FnScope N_met P_met (defScope s_met) := ⟨rfl, rfl, rfl, by decide +kernel, rfl, by decide +kernel, by decide +kernel⟩
abbrev s_due_term : Stmt := topS 55
abbrev N_due_term : List Str := ["_law_text", "_law_terms_here"]
abbrev P_due_term : List Str := ["_law_text"]
theorem sc_due_term : FnScope N_due_term P_due_term (defScope s_due_term) := ⟨rfl, rfl, rfl, by decide +kernel, rfl, by decide +kernel, by decide +kernel⟩
abbrev s_due_claim : Stmt := topS 56
abbrev N_due_claim : List Str := ["_law_text", "_law_claim_here"]
abbrev P_due_claim : List Str := ["_law_text"]
theorem sc_due_claim : FnScope N_due_claim P_due_claim (defScope s_due_claim) := ⟨rfl, rfl, rfl, by decide +kernel, rfl, by decide +kernel, by decide +kernel⟩
abbrev s_right : Stmt := topS 57
abbrev N_right : List Str := ["_law_box_here", "_law_many", "_law_names", "_law_texts", "_law_good", "_law_call", "_law_due", "_law_bad", "_law_turn", "_law_text"]
abbrev P_right : List Str := ["_law_box_here"]
theorem sc_right : FnScope N_right P_right (defScope s_right) := ⟨rfl, rfl, rfl, by decide +kernel, rfl, by decide +kernel, by decide +kernel⟩
abbrev s_law : Stmt := topS 58
abbrev N_law : List Str := ["_law_script", "_law_k"]
abbrev P_law : List Str := ["_law_script"]
theorem sc_law : FnScope N_law P_law (defScope s_law) := ⟨rfl, rfl, rfl, by decide +kernel, rfl, by decide +kernel, by decide +kernel⟩
structure FnT (K : PySem.W.Frag) (mg : Str → Option Value) (name : Str) (st : Stmt) (ps : List Str) where
  f : Addr
  fd : FuncData
  F : Fun K name name st f fd
  b : Binds K fd ps []
  m : mg name = some (.ref f)
structure MtT (K : PySem.W.Frag) (C : Addr) (name qual : Str) (st : Stmt) (ps : List Str) where
  f : Addr
  fd : FuncData
  F : Fun K name qual st f fd
  b : Binds K fd ps []
  at_ : Meth K C name f
structure Top (K : PySem.W.Frag) (mg : Str → Option Value) where
  b_ValueError : mg "ValueError" = none
  b_all : mg "all" = none
  b_any : mg "any" = none
  b_bool : mg "bool" = none
  b_dict : mg "dict" = none
  b_enumerate : mg "enumerate" = none
  b_int : mg "int" = none
  b_isinstance : mg "isinstance" = none
  b_len : mg "len" = none
  b_list : mg "list" = none
  b_max : mg "max" = none
  b_min : mg "min" = none
  b_range : mg "range" = none
  b_str : mg "str" = none
  b_tuple : mg "tuple" = none
  b_zip : mg "zip" = none
  t_LETTERS : Tok
  m_LETTERS : mg "LETTERS" = some (.str "abcdefghijklmnopqrstuvwxyz" t_LETTERS)
  t_LONGEST : Tok
  m_LONGEST : mg "LONGEST" = some (.int 8 t_LONGEST)
  a_WORDS : Addr
  m_WORDS : mg "WORDS" = some (.ref a_WORDS)
  k_WORDS : ∀ H, SqT K H a_WORDS [.str "if", .str "to", .str "lefts"]
  t_DEEPEST : Tok
  m_DEEPEST : mg "DEEPEST" = some (.int 30 t_DEEPEST)
  C_LeanError : Addr
  mC_LeanError : mg "LeanError" = some (.ref C_LeanError)
  C_BadText : Addr
  mC_BadText : mg "BadText" = some (.ref C_BadText)
  C_Loose : Addr
  mC_Loose : mg "Loose" = some (.ref C_Loose)
  C_NoBook : Addr
  mC_NoBook : mg "NoBook" = some (.ref C_NoBook)
  C_NoJoin : Addr
  mC_NoJoin : mg "NoJoin" = some (.ref C_NoJoin)
  C_NoPlain : Addr
  mC_NoPlain : mg "NoPlain" = some (.ref C_NoPlain)
  C_NoRow : Addr
  mC_NoRow : mg "NoRow" = some (.ref C_NoRow)
  C_NoStep : Addr
  mC_NoStep : mg "NoStep" = some (.ref C_NoStep)
  C_TooLong : Addr
  mC_TooLong : mg "TooLong" = some (.ref C_TooLong)
  C_TooMany : Addr
  mC_TooMany : mg "TooMany" = some (.ref C_TooMany)
  o_BadText : L2.OexC K C_BadText
  e_BadText : L2.ExcK K C_BadText
  em_BadText : PySem.W.exmOne K (.ref C_BadText) (.ref C_BadText) = some true
  n_BadText_row : PySem.W.findIn K (.ref C_BadText) "row" = some none
  k_BadText_Loose : PySem.W.kitOne K (.ref C_BadText) (.ref C_Loose) = some false
  k_BadText_NoBook : PySem.W.kitOne K (.ref C_BadText) (.ref C_NoBook) = some false
  k_BadText_NoJoin : PySem.W.kitOne K (.ref C_BadText) (.ref C_NoJoin) = some false
  k_BadText_NoPlain : PySem.W.kitOne K (.ref C_BadText) (.ref C_NoPlain) = some false
  k_BadText_NoRow : PySem.W.kitOne K (.ref C_BadText) (.ref C_NoRow) = some false
  k_BadText_NoStep : PySem.W.kitOne K (.ref C_BadText) (.ref C_NoStep) = some false
  k_BadText_TooLong : PySem.W.kitOne K (.ref C_BadText) (.ref C_TooLong) = some false
  k_BadText_TooMany : PySem.W.kitOne K (.ref C_BadText) (.ref C_TooMany) = some false
  k_BadText_LeanError : PySem.W.kitOne K (.ref C_BadText) (.ref C_LeanError) = some true
  k_BadText_ValueError : PySem.W.kitOne K (.ref C_BadText) (.type "ValueError") = some true
  x_BadText_init : MtT K C_BadText "__init__" "BadText.__init__" s_BadText_init P_BadText_init
  x_is_name : FnT K mg "is_name" s_is_name P_is_name
  x_inner : FnT K mg "inner" s_inner P_inner
  x_deep : FnT K mg "deep" s_deep P_deep
  x_words_of : FnT K mg "words_of" s_words_of P_words_of
  x_all_or_none : FnT K mg "all_or_none" s_all_or_none P_all_or_none
  x_terms_in : FnT K mg "terms_in" s_terms_in P_terms_in
  x_parted : FnT K mg "parted" s_parted P_parted
  x_atom_in : FnT K mg "atom_in" s_atom_in P_atom_in
  x_atoms_in : FnT K mg "atoms_in" s_atoms_in P_atoms_in
  x_claim_in : FnT K mg "claim_in" s_claim_in P_claim_in
  x_read_term : FnT K mg "read_term" s_read_term P_read_term
  x_read_claim : FnT K mg "read_claim" s_read_claim P_read_claim
  x_box : FnT K mg "_law_box" s_box P_box
  x_take : FnT K mg "_law_take" s_take P_take
  x_alike : FnT K mg "_law_alike" s_alike P_alike
  x_term_words : FnT K mg "_law_term_words" s_term_words P_term_words
  x_atom_words : FnT K mg "_law_atom_words" s_atom_words P_atom_words
  x_claim_words : FnT K mg "_law_claim_words" s_claim_words P_claim_words
  x_wide_name : FnT K mg "_law_wide_name" s_wide_name P_wide_name
  x_wide_names : FnT K mg "_law_wide_names" s_wide_names P_wide_names
  x_wide_term : FnT K mg "_law_wide_term" s_wide_term P_wide_term
  x_wide_terms : FnT K mg "_law_wide_terms" s_wide_terms P_wide_terms
  x_wide_atom : FnT K mg "_law_wide_atom" s_wide_atom P_wide_atom
  x_wide_claim : FnT K mg "_law_wide_claim" s_wide_claim P_wide_claim
  x_l_is_name : FnT K mg "_law_is_name" s_l_is_name P_l_is_name
  x_far : FnT K mg "_law_far" s_far P_far
  x_terms : FnT K mg "_law_terms" s_terms P_terms
  x_atom : FnT K mg "_law_atom" s_atom P_atom
  x_l_parted : FnT K mg "_law_parted" s_l_parted P_l_parted
  x_claim : FnT K mg "_law_claim" s_claim P_claim
  x_other_word : FnT K mg "_law_other_word" s_other_word P_other_word
  x_sign : FnT K mg "_law_sign" s_sign P_sign
  x_row_otherwise : FnT K mg "_law_row_otherwise" s_row_otherwise P_row_otherwise
  x_met : FnT K mg "_law_met" s_met P_met
  x_due_term : FnT K mg "_law_due_term" s_due_term P_due_term
  x_due_claim : FnT K mg "_law_due_claim" s_due_claim P_due_claim
  x_right : FnT K mg "_law_right" s_right P_right
  x_law : FnT K mg "law" s_law P_law
  ti_BadText : PySem.W.typeIn K (.ref x_BadText_init.f) = some (.type "function")

def preTake (ds : List PyData) : Prop := ∃ n : Int, ds = [boxD, .int n] ∧ 0 < n ∧ n.natAbs < 2 ^ 200
def postTake (ds : List PyData) (r : Rs) : Prop := ∃ n x : Int, ds = [boxD, .int n] ∧ r = .d (.int x) ∧ 0 ≤ x ∧ x < n
section
variable {K : PySem.W.Frag} {W0 : Wd} {Γ : Gm} {E : XK} {te : TE}
theorem w_take' {i : Nat} {P : PyData → Prop} (hi : Γ[i]? = some (.d boxD)) (h : wpE K W0 te Γ fun d => ∃ n : Int, d = .int n ∧ 0 < n ∧ n.natAbs < 2 ^ 200 ∧ ∀ x : Int, 0 ≤ x → x < n → P (.int x)) :
    wpE K W0 (tCall (spF K preTake postTake) [] E (tCons (tVar i) (tCons te tNil))) Γ P := by
  refine wpE_call (wpA_cons (wpE_var hi (wpA_cons (h.imp fun d ⟨n, e, h0, h1, p⟩ => wpA_nil ⟨⟨n, by rw [e], h0, h1⟩, ?_⟩))))
  rintro r ⟨n', x, e', rfl, q0, q1⟩
  rw [e] at e'
  cases e'
  exact p x q0 q1
theorem w_take {i : Nat} {n : Int} {P : PyData → Prop} (hi : Γ[i]? = some (.d boxD)) (h0 : 0 < n) (h1 : n.natAbs < 2 ^ 200) (p : ∀ x : Int, 0 ≤ x → x < n → P (.int x)) :
    wpE K W0 (tCall (spF K preTake postTake) [] E (tCons (tVar i) (tCons (tC (.int n)) tNil))) Γ P := w_take' hi (wpE_int ⟨n, rfl, h0, h1, p⟩)
end
local macro_rules | `(tactic| walk_at "ar") => `(tactic| ((try simp only [List.length_map, List.length_cons, List.length_nil, decide_eq_true_eq, decide_eq_false_iff_not, Int.natCast_add] at *); omega))
local macro_rules | `(tactic| walk_at "na") => `(tactic| ((refine Nat.lt_of_lt_of_le (m := 1000000000000) ?_ (by decide)); (try simp only [Str.length_append]); omega))
local macro_rules | `(tactic| walk_at "ln") => `(tactic| ((have hsz : sizeLine = 16777216 := sizeLine_eq); (try simp only [Str.length_append]); first | omega | decide | decide +kernel | (refine Nat.le_trans (Nat.add_le_add (b := 1000000) (d := 1000000) ?_ ?_) (by decide +kernel) <;> first | omega | decide +kernel | (show 1 ≤ 1000000; decide))))
local macro_rules | `(tactic| walk_at "kt") => `(tactic| first
  | with_reducible refine Exists.intro _ (And.intro (kt_str_str _) ?_)
  | with_reducible refine Exists.intro _ (And.intro (kt_str_tuple _) ?_)
  | with_reducible refine Exists.intro _ (And.intro (kt_str_list _) ?_)
  | with_reducible refine Exists.intro _ (And.intro (kt_str_bool _) ?_)
  | with_reducible refine Exists.intro _ (And.intro (kt_str_dict _) ?_)
  | with_reducible refine Exists.intro _ (And.intro (kt_str_int _) ?_)
  | with_reducible refine Exists.intro _ (And.intro (kt_str_tl _) ?_)
  | with_reducible refine Exists.intro _ (And.intro (kt_str_tld _) ?_)
  | with_reducible refine Exists.intro _ (And.intro (kt_tup_str _) ?_)
  | with_reducible refine Exists.intro _ (And.intro (kt_tup_tuple _) ?_)
  | with_reducible refine Exists.intro _ (And.intro (kt_tup_list _) ?_)
  | with_reducible refine Exists.intro _ (And.intro (kt_tup_bool _) ?_)
  | with_reducible refine Exists.intro _ (And.intro (kt_tup_dict _) ?_)
  | with_reducible refine Exists.intro _ (And.intro (kt_tup_int _) ?_)
  | with_reducible refine Exists.intro _ (And.intro (kt_tup_tl _) ?_)
  | with_reducible refine Exists.intro _ (And.intro (kt_tup_tld _) ?_)
  | with_reducible refine Exists.intro _ (And.intro (kt_lst_str _) ?_)
  | with_reducible refine Exists.intro _ (And.intro (kt_lst_tuple _) ?_)
  | with_reducible refine Exists.intro _ (And.intro (kt_lst_list _) ?_)
  | with_reducible refine Exists.intro _ (And.intro (kt_lst_bool _) ?_)
  | with_reducible refine Exists.intro _ (And.intro (kt_lst_dict _) ?_)
  | with_reducible refine Exists.intro _ (And.intro (kt_lst_int _) ?_)
  | with_reducible refine Exists.intro _ (And.intro (kt_lst_tl _) ?_)
  | with_reducible refine Exists.intro _ (And.intro (kt_lst_tld _) ?_)
  | with_reducible refine Exists.intro _ (And.intro (kt_int_str _) ?_)
  | with_reducible refine Exists.intro _ (And.intro (kt_int_tuple _) ?_)
  | with_reducible refine Exists.intro _ (And.intro (kt_int_list _) ?_)
  | with_reducible refine Exists.intro _ (And.intro (kt_int_bool _) ?_)
  | with_reducible refine Exists.intro _ (And.intro (kt_int_dict _) ?_)
  | with_reducible refine Exists.intro _ (And.intro (kt_int_int _) ?_)
  | with_reducible refine Exists.intro _ (And.intro (kt_int_tl _) ?_)
  | with_reducible refine Exists.intro _ (And.intro (kt_int_tld _) ?_)
  | with_reducible refine Exists.intro _ (And.intro (kt_bl_str _) ?_)
  | with_reducible refine Exists.intro _ (And.intro (kt_bl_tuple _) ?_)
  | with_reducible refine Exists.intro _ (And.intro (kt_bl_list _) ?_)
  | with_reducible refine Exists.intro _ (And.intro (kt_bl_bool _) ?_)
  | with_reducible refine Exists.intro _ (And.intro (kt_bl_dict _) ?_)
  | with_reducible refine Exists.intro _ (And.intro (kt_bl_int _) ?_)
  | with_reducible refine Exists.intro _ (And.intro (kt_bl_tl _) ?_)
  | with_reducible refine Exists.intro _ (And.intro (kt_bl_tld _) ?_)
  | with_reducible refine Exists.intro _ (And.intro (kt_non_str) ?_)
  | with_reducible refine Exists.intro _ (And.intro (kt_non_tuple) ?_)
  | with_reducible refine Exists.intro _ (And.intro (kt_non_list) ?_)
  | with_reducible refine Exists.intro _ (And.intro (kt_non_bool) ?_)
  | with_reducible refine Exists.intro _ (And.intro (kt_non_dict) ?_)
  | with_reducible refine Exists.intro _ (And.intro (kt_non_int) ?_)
  | with_reducible refine Exists.intro _ (And.intro (kt_non_tl) ?_)
  | with_reducible refine Exists.intro _ (And.intro (kt_non_tld) ?_))
/-! steps: walk_at "g" takes one step where it is plain which -/
local macro_rules | `(tactic| walk_at "g") => `(tactic| first
  | with_reducible refine go_seq ?_
  | (with_reducible refine go_if ?_)
  | (with_reducible refine go_parDL ?_)
  | (with_reducible refine go_par ?_)
  | (with_reducible refine go_retN ?_)
  | (with_reducible refine go_retL (wpN_lst ?_))
  | ((with_reducible refine' go_retV ?k1 ?_); (case k1 => rfl))
  | (with_reducible refine go_ret ?_)
  | ((with_reducible refine' go_asgBox ?k1 ?k2 ?k3 ?_); (case k1 => rfl); (case k2 => decide); (case k3 => decide))
  | ((with_reducible refine' go_setL0 ?k1 ?_ ?_); (case k1 => rfl))
  | (with_reducible refine go_asgN (wpN_lst ?_))
  | (with_reducible refine go_asg ?_)
  | (with_reducible refine go_next ?_)
  | (with_reducible refine go_brk ?_)
  | (with_reducible refine go_cont ?_)
  | ((with_reducible refine' go_appPopAt ?k0 ?k1 ?k2 ?_); (case k0 => decide); (case k1 => rfl); (case k2 => rfl))
  | ((with_reducible refine' go_append ?k1 ?_); (case k1 => rfl))
  | ((with_reducible refine' wpT_tru ?k1 ?_); (case k1 => rfl))
  | (with_reducible refine wpE_back ?_)
  | (with_reducible refine wpE_isi3 ?_)
  | (with_reducible refine go_drop ?_)
  | (with_reducible refine wpT_test ?_)
  | (with_reducible refine wpT_B ?_)
  | (with_reducible refine wpT_not ?_)
  | (with_reducible refine wpT_and ?_)
  | (with_reducible refine wpT_or ?_)
  | (with_reducible refine wpE_int ?_)
  | (with_reducible refine wpE_str ?_)
  | (with_reducible refine wpE_bl ?_)
  | (with_reducible refine wpE_non ?_)
  | ((with_reducible refine' wpE_var ?k1 ?_); (case k1 => rfl))
  | (with_reducible refine wpE_chain ?_)
  | (with_reducible refine wpE_andV ?_)
  | (with_reducible refine wpE_orV ?_)
  | (with_reducible refine wpE_notV ?_)
  | (with_reducible refine wpE_if ?_)
  | (with_reducible refine wpE_tup ?_)
  | ((with_reducible refine' wpE_opL (wpL_var ?k1 ?_)); (case k1 => rfl))
  | (with_reducible refine wpE_op (wpE_of_N (wpN_lst ?_)))
  | (with_reducible refine wpE_op ?_)
  | (with_reducible refine wpE_un ?_)
  | ((with_reducible refine' wpE_lenL (wpL_var ?k1 ?_)); (case k1 => rfl))
  | ((with_reducible refine' w_take ?k1 ?k2 ?k3 ?_); (case k1 => rfl); (case k2 => decide); (case k3 => decide); intro x hx0 hx1)
  | ((with_reducible refine' w_take' ?k1 ?_); (case k1 => rfl))
  | (with_reducible refine wpE_call ?_)
  | (with_reducible refine wpN_call ?_)
  | (with_reducible refine wpE_isi ?_)
  | (with_reducible refine wpE_isi2 ?_)
  | (with_reducible refine wpE_all ?_)
  | (with_reducible refine wpE_any ?_)
  | (with_reducible refine wpL_of_N (wpN_lst ?_))
  | ((with_reducible refine' wpE_tail ?k1 ?_); (case k1 => rfl))
  | ((with_reducible refine' wpE_of_N (wpN_slL (wpL_var ?k1 ?_))); (case k1 => rfl))
  | (with_reducible refine wpE_slS ?_)
  | ((with_reducible refine' wpE_tof (wpL_var ?k1 ?_)); (case k1 => rfl))
  | (with_reducible refine wpE_tof ?_)
  | (with_reducible refine wpE_maxL ?_)
  | (with_reducible refine wpE_CB ?_)
  | (with_reducible refine wpE_of_N (wpN_lst ?_))
  | (with_reducible refine wpA_nil ?_)
  | (with_reducible refine wpA_cons ?_)
  | (with_reducible refine add_int ?_)
  | ((with_reducible refine' add_str ?k1 ?_); (case k1 => walk_at "ln"))
  | (with_reducible refine mul_int ?_ ?_)
  | (with_reducible refine opR_I0I ?_)
  | (with_reducible refine opR_I0B ?_)
  | (with_reducible refine opR_II ?_ ?_)
  | ((with_reducible refine' opR_box ?k1 ?k2 ?_); (case k1 => decide); (case k2 => decide); intro _)
  | (with_reducible refine opR_catT ?_ ?_ ?_)
  | (with_reducible refine opR_inS ?_)
  | (with_reducible refine opR_inT ?_)
  | (with_reducible refine opR_ninS ?_)
  | (with_reducible refine eq_int ?_)
  | (with_reducible refine ne_int ?_)
  | (with_reducible refine opLR_neNil ?_ ?_)
  | (with_reducible refine opLR_eqNil ?_ ?_)
  | (with_reducible refine opR_neNil ?_ ?_)
  | (with_reducible refine opR_eqNil ?_ ?_)
  | (with_reducible refine opR_eqD ?_ ?_ ?_)
  | (with_reducible refine ne_bl ?_)
  | (with_reducible refine opR_neD ?_ ?_ ?_)

  | ((with_reducible refine opR_ix01 ?_); intro _)
  | ((with_reducible refine' opC_lenS ?k1 ?_); (case k1 => walk_at "ln"))
  | (with_reducible refine opC_lenT ?_)
  | (with_reducible refine opC_lenL ?_)
  | (with_reducible refine opC_intB ?_)
  | (with_reducible refine opC_II ?_)
  | (with_reducible refine opU_neg ?_)
  | ((with_reducible show (∃ b : Bool, _ = some b ∧ _)); walk_at "kt")
  | (with_reducible refine Exists.intro _ (And.intro rfl ?_))
  | (with_reducible refine Exists.intro _ (Exists.intro _ (And.intro rfl ?_)))
  | ((with_reducible show CMul _ _); first | exact Or.inl ⟨by decide, by decide⟩ | exact Or.inr ⟨by decide, by decide⟩ | exact Or.inl ⟨by omega, by omega⟩ | exact Or.inr ⟨by omega, by omega⟩)
  | ((with_reducible show CDivW _ _); first | exact wide_div (b := 64) (by decide) (by decide) (by decide) (by decide))
  | ((with_reducible show CPow _ _); exact ⟨by decide, by decide, by decide⟩)
  | ((with_reducible show (0 : Int) < _); first | decide | omega)
  | ((with_reducible refine And.intro (fun (hb : _ = true) => ?_) (fun (hb : _ = false) => ?_)) <;> try contradiction)
  | (with_reducible refine And.intro (Nat.le_of_ble_eq_true rfl : List.length _ ≤ sizeLine) ?_)
  | ((with_reducible refine' And.intro (?k1 : (0:Int) < _) (And.intro (?k2 : Int.natAbs _ < 2 ^ 200) ?_)); (case k1 => walk_at "ar"); (case k2 => walk_at "na"); intro x hx0 hx1)
  | ((with_reducible refine' Exists.intro _ (And.intro (And.intro (?k1 : Tx _ _) (?k2 : _ ≤ 1000000)) ?_)); (case k1 => assumption); (case k2 => decide))
  | ((with_reducible refine' And.intro (?k1 : Str.length _ ≤ sizeLine) ?_); (case k1 => walk_at "ln"))
  | (with_reducible refine wpO_no ?_)
  | (with_reducible refine wpO_some ?_)
  | dsimp only [List.set, wipeG])

section
variable {P : Program} {w : World} {K : PySem.W.Frag} {mg : Str → Option Value} {base : Heap}
/-! ### box, take -/
def preBox (ds : List PyData) : Prop := ∃ (ns : List Int) (k : Int), ds = [.list (ns.map PyData.int), .int k] ∧ 0 ≤ k
def postBox (_ : List PyData) (r : Rs) : Prop := r = .d boxD
theorem ok_box (T : Top K mg) : FnOk P w K mg base CX0 1 T.x_box.f T.x_box.fd P_box (spF K preBox postBox) := by
  have nd := sc_box.nd
  refine fn_ok T.x_box.F sc_box (fun ds h => ?_) (fun cdv A outer s H E hr => ⟨_, (pss_cons (ps_set (i := 2) nd rfl (by first | exact Or.inl rfl | exact Or.inr rfl) (pe_op (add_K (K := K) rfl) (pe_op op_MUL pe_int (pv 1)) pe_int))
    (pss_cons (ps_if (pt_cmpR op_lt (pv 1) (pe_callB (len_K (K := K) rfl) (by rfl) T.b_len (by decide +kernel) (pa_cons (pv 0) pa_nil)) (nomark _)) (pss_one (ps_set (i := 2) nd rfl (by first | exact Or.inl rfl | exact Or.inr rfl) (pe_callB (call_max2 rfl) (by rfl) T.b_max (by decide +kernel) (pa_cons (pe_ix (ix_K (K := K) rfl) (pv 0) (pv 1) (fun _ _ => rfl)) (pa_cons (pe_op op_sub pe_int (pe_ix (ix_K (K := K) rfl) (pv 0) (pv 1) (fun _ _ => rfl))) pa_nil))))) (pss_one (ps_if (pt_cmpR op_gt (pe_callB (len_K (K := K) rfl) (by rfl) T.b_len (by decide +kernel) (pa_cons (pv 0) pa_nil)) pe_int (nomark _)) (pss_one (ps_set (i := 2) nd rfl (by first | exact Or.inl rfl | exact Or.inr rfl) (pe_op (add_K (K := K) rfl) (pv 2) (pe_op op_MUL (pe_op op_mod (pe_ix (ix_K (K := K) rfl) (pv 0) (pe_op op_mod (pv 1) (pe_callB (len_K (K := K) rfl) (by rfl) T.b_len (by decide +kernel) (pa_cons (pv 0) pa_nil))) (fun _ _ => rfl)) pe_int) pe_int)))) pss_nil)))
    (pss_cons (ps_set (i := 3) nd rfl (by first | exact Or.inl rfl | exact Or.inr rfl) (pe_op (add_K (K := K) rfl) (pe_op op_mod (pe_op (add_K (K := K) rfl) (pe_op (add_K (K := K) rfl) (pe_op op_MUL (pe_op op_mod (pv 2) pe_int) pe_int) (pe_op op_MUL pe_int (pv 1))) pe_int) pe_int) pe_int))
    (pss_one (ps_ret (pe_lst (pa_cons (pe_ix (ix_K (K := K) rfl) (pe_lst (pa_cons pe_int (pa_cons (pv 2) pa_nil))) (pe_callTy call_int1 (by rfl) T.b_int (by decide +kernel) (pa_cons (pe_cmpR op_ge (pv 2) (pe_op op_pow pe_int pe_int) (nomark _)) pa_nil)) (fun _ _ => rfl)) (pa_cons (pv 3) (pa_cons pe_int pa_nil))))))))), fun W0 ds hp => ?_⟩)
  · obtain ⟨ns, k, rfl, _⟩ := h
    rfl
  obtain ⟨ns, k, rfl, h0⟩ := hp
  simp only [cx_K, cx_K2, startG, List.map, List.length, List.replicate, List.append, List.cons_append, List.nil_append]
  repeat' (first | (with_reducible refine go_retBox (wpN_lst ?_)) | walk_at "g")
  · refine opR_ixInts h0 (by walk_at "ar") fun n => ?_
    repeat' (first | (with_reducible refine go_retBox (wpN_lst ?_)) | walk_at "g")
    refine opR_ixInts h0 (by walk_at "ar") fun n => ?_
    repeat' (first | (with_reducible refine go_retBox (wpN_lst ?_)) | walk_at "g")
    exact ⟨_, _, _, rfl, rfl⟩
  · walk_at "ar"
  · rename_i hb
    have hn : 0 < (ns.length : Int) := by walk_at "ar"
    rw [List.length_map]
    refine opR_ixInts (Int.emod_nonneg _ (by omega)) (Int.emod_lt_of_pos _ hn) fun n => ?_
    repeat' (first | (with_reducible refine go_retBox (wpN_lst ?_)) | walk_at "g")
    exact ⟨_, _, _, rfl, rfl⟩
  · exact ⟨_, _, _, rfl, rfl⟩
theorem ok_take (T : Top K mg) : FnOk P w K mg base CX0 1 T.x_take.f T.x_take.fd P_take (spF K preTake postTake) := by
  have nd := sc_take.nd
  refine fn_ok T.x_take.F sc_take (fun ds h => ?_) (fun cdv A outer s H E hr => ⟨_, (pss_cons (ps_if (pt_cmpR op_gt (pe_ix (ix_K (K := K) rfl) (pv 0) pe_int (fun _ _ => rfl)) pe_int (nomark _)) (pss_cons (ps_set (i := 2) nd rfl (by first | exact Or.inl rfl | exact Or.inr rfl) (pe_op op_mod (pe_ix (ix_K (K := K) rfl) (pv 0) pe_int (fun _ _ => rfl)) (pv 1)))
    (pss_cons (ps_asg (pe_op op_fdivW (pe_ix (ix_K (K := K) rfl) (pv 0) pe_int (fun _ _ => rfl)) (pv 1)) (pg_sub (pv 0) pe_int set_list))
    (pss_one (ps_ret (pv 2))))) pss_nil)
    (pss_cons (ps_asg (pe_op (add_K (K := K) rfl) (pe_ix (ix_K (K := K) rfl) (pv 0) pe_int (fun _ _ => rfl)) pe_int) (pg_sub (pv 0) pe_int set_list))
    (pss_cons (ps_set (i := 3) nd rfl (by first | exact Or.inl rfl | exact Or.inr rfl) (pe_op op_mod (pe_op op_MUL (pe_op (add_K (K := K) rfl) (pe_ix (ix_K (K := K) rfl) (pv 0) pe_int (fun _ _ => rfl)) (pe_op op_MUL pe_int (pe_ix (ix_K (K := K) rfl) (pv 0) pe_int (fun _ _ => rfl)))) pe_int) pe_int))
    (pss_cons (ps_asg (pe_op (add_K (K := K) rfl) (pe_op op_mod (pe_op (add_K (K := K) rfl) (pe_op op_MUL (pv 3) pe_int) pe_int) pe_int) pe_int) (pg_sub (pv 0) pe_int set_list))
    (pss_one (ps_ret (pe_op op_mod (pe_op op_fdivW (pe_op (add_K (K := K) rfl) (pe_op op_MUL (pv 3) pe_int) (pe_ix (ix_K (K := K) rfl) (pv 0) pe_int (fun _ _ => rfl))) pe_int) (pv 1)))))))), fun W0 ds hp => ?_⟩)
  · obtain ⟨n, rfl, _⟩ := h
    rfl
  obtain ⟨n, rfl, h0, h1⟩ := hp
  simp only [cx_K, cx_K2, startG, List.map, List.length, List.replicate, List.append, List.cons_append, List.nil_append]
  repeat' (walk_at "g")
  · exact wide_div h0 h1 (by decide) (by decide)
  · exact ⟨n, _, rfl, rfl, Int.emod_nonneg _ (by omega), Int.emod_lt_of_pos _ h0⟩
  · exact ⟨n, _, rfl, rfl, Int.emod_nonneg _ (by omega), Int.emod_lt_of_pos _ h0⟩

end
/-! ### names -/
def tl (x : Str) : List Nat := x.cps.toList
theorem tl_len (x : Str) : (tl x).length = x.length := Array.length_toList
def words3 : List Str := ["if", "to", "lefts"]
def GoodN (x : Str) : Prop := 1 ≤ x.length ∧ x.length ≤ 8 ∧ (∀ c ∈ tl x, 97 ≤ c ∧ c ≤ 122) ∧ x ∉ words3
theorem GoodN.tx {x : Str} (h : GoodN x) : Tx 30 x := ⟨by have := h.2.1; omega, fun c hc => by have := h.2.2.1 c hc; omega⟩
theorem letters_az : ∀ c ∈ (Str.ofString "abcdefghijklmnopqrstuvwxyz").cps.toList, 97 ≤ c ∧ c ≤ 122 := by decide +kernel
theorem letters_at : ∀ n, n < 26 → (Str.ofString "abcdefghijklmnopqrstuvwxyz").cps.toList[n]? = some (97 + n) := by decide +kernel
theorem good_all {x : Str} (h : GoodN x) : (x.cps.toList.map fun c => decide (c ∈ (Str.ofString "abcdefghijklmnopqrstuvwxyz").cps.toList)).all id = true := by
  rw [List.all_map]
  refine List.all_eq_true.mpr fun c hc => ?_
  obtain ⟨h1, h2⟩ := h.2.2.1 c hc
  have : ∀ c, 97 ≤ c ∧ c ≤ 122 → c ∈ (Str.ofString "abcdefghijklmnopqrstuvwxyz").cps.toList := by
    intro c ⟨h1, h2⟩
    obtain ⟨n, rfl⟩ : ∃ n, c = 97 + n := ⟨c - 97, by omega⟩
    exact List.mem_of_getElem? (letters_at n (by omega))
  exact decide_eq_true (this c ⟨h1, h2⟩)
def isName (x : Str) : Bool := if (!(decide (1 ≤ (x.length : Int)) && decide ((x.length : Int) ≤ 8)) || decide (x ∈ ([("if" : Str), "to", "lefts"] : List Str))) = true then false else (x.cps.toList.map fun c => decide (c ∈ (Str.ofString "abcdefghijklmnopqrstuvwxyz").cps.toList)).all id
theorem good_isName {x : Str} (h : GoodN x) : isName x = true := by
  unfold isName
  rw [good_all h]
  have h1 : decide (1 ≤ (x.length : Int)) = true := decide_eq_true (by have := h.1; omega)
  have h2 : decide ((x.length : Int) ≤ 8) = true := decide_eq_true (by have := h.2.1; omega)
  have h3 : decide (x ∈ ([("if" : Str), "to", "lefts"] : List Str)) = false := decide_eq_false h.2.2.2
  rw [h1, h2, h3]
  rfl
abbrev lpS : Str := Str.ofString "("
abbrev rpS : Str := Str.ofString ")"
abbrev cmS : Str := Str.ofString ","
abbrev arS : Str := Str.ofString "=>"
theorem not_good {c : Nat} {x : Str} (h : tl x = [c]) (hc : c < 97) : ¬ GoodN x := fun g => by
  have := g.2.2.1 c (by rw [h]; simp)
  omega
theorem lp_isName : isName lpS = false := by decide +kernel
theorem rp_isName : isName rpS = false := by decide +kernel
/-! ### terms and their words -/
mutual
/-- a term's words -/
def twD : PyData → List PyData
  | .tuple xs => .str lpS :: twTup xs
  | d => [d]
def twTup : List PyData → List PyData
  | [] => [.str rpS]
  | m :: ts => m :: (twAll ts ++ [.str rpS])
def twAll : List PyData → List PyData
  | [] => []
  | t :: ts => twD t ++ twAll ts
end
/-- a term, less than n levels -/
def Tm : Nat → PyData → Prop
  | 0, _ => False
  | n + 1, d => (∃ x, d = .str x ∧ GoodN x) ∨ ∃ m ts, d = .tuple (.str m :: ts) ∧ GoodN m ∧ ts.length ≤ 3 ∧ ∀ t ∈ ts, Tm n t
theorem Tm.up : ∀ {n : Nat} {d : PyData}, Tm n d → Tm (n + 1) d
  | n + 1, d, h => h.imp id fun ⟨m, ts, h1, h2, h3, h4⟩ => ⟨m, ts, h1, h2, h3, fun t ht => (h4 t ht).up⟩
theorem Tm.le {n m : Nat} {d : PyData} (h : Tm n d) (e : n ≤ m) : Tm m d := by
  induction e with
  | refl => exact h
  | step _ ih => exact ih.up
theorem twD_str (x : Str) : twD (.str x) = [.str x] := by simp [twD]
theorem twD_tup (m : PyData) (ts : List PyData) : twD (.tuple (m :: ts)) = .str lpS :: m :: (twAll ts ++ [.str rpS]) := by simp [twD, twTup]
theorem twAll_nil : twAll [] = [] := by simp [twAll]
theorem twAll_cons (t : PyData) (ts : List PyData) : twAll (t :: ts) = twD t ++ twAll ts := by rw [twAll]
theorem twAll_append : ∀ (xs ys : List PyData), twAll (xs ++ ys) = twAll xs ++ twAll ys
  | [], ys => by simp [twAll]
  | x :: xs, ys => by
    rw [List.cons_append, twAll_cons, twAll_cons, twAll_append xs ys, List.append_assoc]
theorem twAll_flat : ∀ xs : List PyData, twAll xs = xs.flatMap twD
  | [] => by simp [twAll]
  | x :: xs => by rw [twAll_cons, twAll_flat xs, List.flatMap_cons]
theorem tw_pos : ∀ (d : PyData), 1 ≤ (twD d).length := by
  intro d
  unfold twD
  split <;> simp
theorem twAll_long : ∀ ts : List PyData, ts.length ≤ (twAll ts).length
  | [] => Nat.zero_le _
  | t :: ts => by
    have := twAll_long ts
    have := tw_pos t
    rw [twAll_cons, List.length_append, List.length_cons]
    omega
theorem tw_size : ∀ (n : Nat) (d : PyData), Tm n d → (twD d).length + 2 ≤ 3 * 3 ^ n
  | n + 1, d, h => by
    have q : 1 ≤ 3 ^ n := Nat.one_le_pow _ _ (by decide)
    rcases h with ⟨x, rfl, _⟩ | ⟨m, ts, rfl, _, h2, h3⟩
    · rw [twD_str, Nat.pow_succ, List.length_singleton]
      omega
    · rw [twD_tup, List.length_cons, List.length_cons, List.length_append, List.length_singleton, Nat.pow_succ]
      match ts, h2, h3 with
      | [], _, _ => rw [twAll_nil, List.length_nil]; omega
      | [a], _, h3 =>
        have := tw_size n a (h3 a (by simp))
        rw [twAll_cons, twAll_nil, List.append_nil]
        omega
      | [a, b], _, h3 =>
        have := tw_size n a (h3 a (by simp))
        have := tw_size n b (h3 b (by simp))
        rw [twAll_cons, twAll_cons, twAll_nil, List.append_nil, List.length_append]
        omega
      | [a, b, c], _, h3 =>
        have := tw_size n a (h3 a (by simp))
        have := tw_size n b (h3 b (by simp))
        have := tw_size n c (h3 c (by simp))
        rw [twAll_cons, twAll_cons, twAll_cons, twAll_nil, List.append_nil, List.length_append, List.length_append]
        omega
/-- a word of a term -/
def isWd (d : PyData) : Prop := d = .str lpS ∨ d = .str rpS ∨ ∃ x, d = .str x ∧ GoodN x
mutual
theorem tw_wd : ∀ (n : Nat) (d : PyData), Tm n d → ∀ w ∈ twD d, isWd w
  | n + 1, d, h, w, hw => by
    rcases h with ⟨x, rfl, hx⟩ | ⟨m, ts, rfl, hm, h2, h3⟩
    · rw [twD_str] at hw
      exact .inr (.inr ⟨x, List.mem_singleton.mp hw, hx⟩)
    · rw [twD_tup] at hw
      rcases List.mem_cons.mp hw with rfl | hw
      · exact .inl rfl
      · rcases List.mem_cons.mp hw with rfl | hw
        · exact .inr (.inr ⟨m, rfl, hm⟩)
        · rcases List.mem_append.mp hw with hw | hw
          · exact twAll_wd n ts h3 w hw
          · exact .inr (.inl (List.mem_singleton.mp hw))
theorem twAll_wd : ∀ (n : Nat) (ts : List PyData), (∀ t ∈ ts, Tm n t) → ∀ w ∈ twAll ts, isWd w
  | n, [], _, w, hw => by rw [twAll_nil] at hw; cases hw
  | n, t :: ts, h, w, hw => by
    rw [twAll_cons] at hw
    rcases List.mem_append.mp hw with hw | hw
    · exact tw_wd n t (h t List.mem_cons_self) w hw
    · exact twAll_wd n ts (fun u hu => h u (List.mem_cons_of_mem _ hu)) w hw
end
/-! ### reading the words -/
inductive Stp : List (List PyData) → PyData → List (List PyData) → Prop
  | nm {ps : List (List PyData)} {q : List PyData} {x : Str} : GoodN x → Stp (ps ++ [q]) (.str x) (ps ++ [q ++ [.str x]])
  | op {ps : List (List PyData)} {q : List PyData} : (ps = [] ∨ q ≠ []) → Stp (ps ++ [q]) (.str lpS) (ps ++ [q] ++ [[]])
  | cl {ps : List (List PyData)} {p q : List PyData} : q ≠ [] → Stp (ps ++ [p] ++ [q]) (.str rpS) (ps ++ [p ++ [.tuple q]])
inductive Rn : List (List PyData) → List PyData → List (List PyData) → Prop
  | nil {x : List (List PyData)} : Rn x [] x
  | cons {x y z : List (List PyData)} {w : PyData} {ws : List PyData} : Stp x w y → Rn y ws z → Rn x (w :: ws) z
theorem Rn.trans : ∀ {x y z : List (List PyData)} {ws vs : List PyData}, Rn x ws y → Rn y vs z → Rn x (ws ++ vs) z
  | _, _, _, _, _, .nil, h => h
  | _, _, _, _, _, .cons s t, h => .cons s (t.trans h)
mutual
theorem rn_tw : ∀ (n : Nat) (d : PyData), Tm n d → ∀ (ps : List (List PyData)) (q : List PyData), (ps = [] ∨ q ≠ []) → Rn (ps ++ [q]) (twD d) (ps ++ [q ++ [d]])
  | n + 1, d, h, ps, q, hq => by
    rcases h with ⟨x, rfl, hx⟩ | ⟨m, ts, rfl, hm, h2, h3⟩
    · rw [twD_str]
      exact .cons (.nm hx) .nil
    · rw [twD_tup]
      refine .cons (.op hq) (.cons (.nm hm) ?_)
      refine Rn.trans (rn_twAll n ts h3 (ps ++ [q]) [.str m] (by simp)) ?_
      exact .cons (.cl (by simp)) .nil
theorem rn_twAll : ∀ (n : Nat) (ts : List PyData), (∀ t ∈ ts, Tm n t) → ∀ (ps : List (List PyData)) (q : List PyData), (ps = [] ∨ q ≠ []) → Rn (ps ++ [q]) (twAll ts) (ps ++ [q ++ ts])
  | n, [], _, ps, q, _ => by
    rw [twAll_nil, List.append_nil]
    exact .nil
  | n, t :: ts, h, ps, q, hq => by
    rw [twAll_cons]
    refine Rn.trans (rn_tw n t (h t List.mem_cons_self) ps q hq) ?_
    have := rn_twAll n ts (fun u hu => h u (List.mem_cons_of_mem _ hu)) ps (q ++ [t]) (.inr (by simp))
    rw [List.append_assoc] at this
    exact this
end
section
variable {P : Program} {w : World} {K : PySem.W.Frag} {mg : Str → Option Value} {base : Heap}

/-! ### the refusal, and what meets it -/
theorem ok_BadText_init (T : Top K mg) : FnOk P w K mg base CX0 1 T.x_BadText_init.f T.x_BadText_init.fd P_BadText_init (spI1 T.C_BadText "row") := by
  have nd := sc_BadText_init.nd
  exact fn_init1 T.x_BadText_init.F sc_BadText_init T.o_BadText T.n_BadText_row rfl fun cdv A outer s H E => .inr (pss_one (L2.ps_ost (pv 0) (pv 1)))
/-- the fields of such a refusal -/
def rowFs (n : Int) : List (Str × PyData) := [(Str.ofString "row", .int n)]
def badD (n : Int) : PyData := .tuple [.str (Str.ofString "bad"), .int n]
def preMet {ι : Type} (f : Addr) (pre : ι → List PyData → Prop) (i : ι) (ds : List PyData) : Prop := ∃ d, ds = [rfD f, d] ∧ pre i [d]
def postMet {ι : Type} (C : Addr) (f : Addr) (post : ι → List PyData → Rs → Prop) (xp : ι → List PyData → Xp) (i : ι) (ds : List PyData) (r : Rs) : Prop :=
  ∃ d, ds = [rfD f, d] ∧ ((∃ r', post i [d] r' ∧ r = .d r'.data) ∨ ∃ n : Int, xp i [d] C (rowFs n) ∧ r = .d (badD n))
theorem ok_met (T : Top K mg) {ι : Type} {k : Nat} {f : Addr} {fd : FuncData} {ps : List Str} {pre : ι → List PyData → Prop} {post : ι → List PyData → Rs → Prop} {xp : ι → List PyData → Xp}
    (GL__law_call : FnOk P w K mg base (L2.CX P w) k f fd ps (spX K pre post xp)) (kp__law_call : PySem.W.keepIn K (.ref f) = true) (bi__law_call : Binds K fd ps []) (hk : k ≤ 30)
    (hxp : ∀ i ds C fs, xp i ds C fs → C = T.C_BadText ∧ ∃ n : Int, fs = rowFs n) (i : ι) : FnOk P w K mg base CX0 32 T.x_met.f T.x_met.fd P_met (spF K (preMet f pre i) (postMet T.C_BadText f post xp i)) := by
  have nd := sc_met.nd
  refine fn_ok T.x_met.F sc_met (fun ds h => ?_) (fun cdv A outer s H E hr => ⟨_, (pss_cons (ps_set (i := 2) nd rfl (by first | exact Or.inl rfl | exact Or.inr rfl) (pe_tup (pa_cons pe_str pa_nil)))
    (pss_cons (L2.ps_try_as (i := 3) rfl rfl nd rfl rfl ⟨by rfl, by decide, .inl T.mC_BadText⟩ L2.takes0 (fun W pn xe tk po =>
      (pss_one (ps_set (i := 2) nd rfl (by first | exact Or.inl rfl | exact Or.inr rfl) (L2.pe_callLS (i := 0) GL__law_call (hr.mono (by first | decide | omega)) rfl (by first | exact Or.inl rfl | exact Or.inr (Or.inl rfl) | exact Or.inr (Or.inr rfl)) kp__law_call bi__law_call (fun σ => L2.passAt tk σ) (pa_cons (pv 1) pa_nil))))) (fun a oe cls d pn hz hf =>
      (pss_cons (ps_set (i := 4) nd rfl (by first | exact Or.inl rfl | exact Or.inr rfl) (pe_callB (L2.call_isXT hz hf) (by rfl) T.b_isinstance (by decide +kernel) (pa_cons (pv 3) (pa_cons (pe_tup (pa_cons (pe_glob (v := .ref T.C_Loose) rfl T.mC_Loose rfl) (pa_cons (pe_glob (v := .ref T.C_NoBook) rfl T.mC_NoBook rfl) (pa_cons (pe_glob (v := .ref T.C_NoJoin) rfl T.mC_NoJoin rfl) (pa_cons (pe_glob (v := .ref T.C_NoPlain) rfl T.mC_NoPlain rfl) (pa_cons (pe_glob (v := .ref T.C_NoRow) rfl T.mC_NoRow rfl) (pa_cons (pe_glob (v := .ref T.C_NoStep) rfl T.mC_NoStep rfl) (pa_cons (pe_glob (v := .ref T.C_TooLong) rfl T.mC_TooLong rfl) (pa_cons (pe_glob (v := .ref T.C_TooMany) rfl T.mC_TooMany rfl) pa_nil))))))))) pa_nil))))
    (pss_one (ps_if (PW.pt (pw_and (pt_not (pt_val (pv 4))) (pw_and (pt_val (pe_callB (L2.call_isX hz hf) (by rfl) T.b_isinstance (by decide +kernel) (pa_cons (pv 3) (pa_cons (pe_glob (v := .ref T.C_LeanError) rfl T.mC_LeanError rfl) pa_nil)))) (pw_and1 (pt_val (pe_callB (L2.call_isX hz hf) (by rfl) T.b_isinstance (by decide +kernel) (pa_cons (pv 3) (pa_cons (pe_bltn (v := .ty "ValueError") (by rfl) T.b_ValueError (by decide +kernel) rfl) pa_nil)))))))) (pss_one (ps_set (i := 2) nd rfl (by first | exact Or.inl rfl | exact Or.inr rfl) (pe_tup (pa_cons pe_str (pa_cons (L2.pe_xf T.e_BadText.xf T.n_BadText_row hz hf (pv 3)) pa_nil))))) pss_nil)))))
    (pss_one (ps_ret (pv 2))))), fun W0 ds hp => ?_⟩)
  · obtain ⟨d, rfl, _⟩ := h
    rfl
  obtain ⟨d, rfl, hp⟩ := hp
  simp only [cx_K, cx_K2, startG, List.map, List.length, List.replicate, List.append, List.cons_append, List.nil_append]
  refine go_seq (go_asg (wpE_tup (wpA_cons (wpE_str (wpA_nil ⟨Nat.le_of_ble_eq_true rfl, ?_⟩)))))
  refine go_seq (go_tryAs (xp := fun C fs => xp i [d] C fs) rfl (try_asgLS rfl (wpA_cons (wpE_var rfl (wpA_nil ⟨i, hp, fun r hr => ?_, fun C fs h => h⟩)))) fun C fs hx => ?_)
  · exact go_ret (wpE_var rfl ⟨d, rfl, .inl ⟨r, hr, rfl⟩⟩)
  obtain ⟨rfl, n, rfl⟩ := hxp _ _ _ _ hx
  refine ⟨T.em_BadText, fun W1 a dd ok1 ca => ?_⟩
  have kt : PySem.W.kitAny K (.ref T.C_BadText) [.ref T.C_Loose, .ref T.C_NoBook, .ref T.C_NoJoin, .ref T.C_NoPlain, .ref T.C_NoRow, .ref T.C_NoStep, .ref T.C_TooLong, .ref T.C_TooMany] = some false := by
    refine kitAny_cons T.k_BadText_Loose (fun _ => kitAny_cons T.k_BadText_NoBook (fun _ => kitAny_cons T.k_BadText_NoJoin (fun _ => kitAny_cons T.k_BadText_NoPlain (fun _ => kitAny_cons T.k_BadText_NoRow (fun _ => kitAny_cons T.k_BadText_NoStep (fun _ => kitAny_cons T.k_BadText_TooLong (fun _ => kitAny_cons T.k_BadText_TooMany (fun _ => kitAny_nil) ?_) ?_) ?_) ?_) ?_) ?_) ?_) ?_
    all_goals (intro z; cases z)
  refine go_seq (go_asg (wpE_isXT ok1 ca rfl T.e_BadText (.cons (.own _) (.cons (.own _) (.cons (.own _) (.cons (.own _) (.cons (.own _) (.cons (.own _) (.cons (.own _) (.cons (.own _) .nil)))))))) (Nat.le_of_ble_eq_true rfl) kt ?_))
  refine go_if (wpT_and (wpT_not (wpT_B (wpE_var rfl ⟨false, rfl, (fun _ => ?_), (fun z => by cases z)⟩))))
  refine wpT_and (wpT_B (wpE_isX ok1 ca rfl T.e_BadText (.own _) T.k_BadText_LeanError ⟨true, rfl, (fun _ => ?_), (fun z => by cases z)⟩))
  refine wpT_B (wpE_isX ok1 ca rfl T.e_BadText (.ty _) T.k_BadText_ValueError ⟨true, rfl, (fun _ => ?_), (fun z => by cases z)⟩)
  refine go_asg (wpE_tup (wpA_cons (wpE_str (wpA_cons (wpE_xf ok1 ca rfl (x := .int n) ((lookup_putG _ _ _ _).trans (if_pos rfl)) (wpA_nil ⟨Nat.le_of_ble_eq_true rfl, ?_⟩))))))
  exact go_ret (wpE_var rfl ⟨d, rfl, .inr ⟨n, hx, rfl⟩⟩)

/-! ### promises by an index -/
section
variable {K : PySem.W.Frag} {W0 : Wd} {Γ : Gm} {te : TE}
/-- a promise by an index -/
def spFx (K : PySem.W.Frag) {I : Type} (pre : I → List PyData → Prop) (post : I → List PyData → Rs → Prop) : Sp := fun vs H Q E => ∃ i, spF K (pre i) (post i) vs H Q E
theorem wpE_callX {I : Type} {pre : I → List PyData → Prop} {post : I → List PyData → Rs → Prop} {E : XK} {t : TA} {P : PyData → Prop}
    (h : wpA K W0 t Γ fun ds => ∃ i, pre i ds ∧ ∀ r, post i ds r → P r.data) : wpE K W0 (tCall (spFx K pre post) [] E t) Γ P := fun W σ S Q k =>
  h W σ S _ fun vs W1 ds e1 f1 ⟨i, hp, hq⟩ => by
    refine ⟨i, W1, ds, rfl, e1.ok, by rw [List.append_nil]; exact f1, hp, fun v W2 r e2 r2 hr => ?_⟩
    cases r with
    | d x => exact k v W2 x (e1.trans e2) r2 (hq _ hr)
    | l xs =>
      obtain ⟨W3, h1, h2, h3⟩ := Nw.freeze e2 r2
      rw [← h1]
      exact k v W3 _ (e1.trans h2) h3 (hq _ hr)
end
theorem fn_ex {k : Nat} {f : Addr} {fd : FuncData} {ps : List Str} {I : Type} {sp : I → Sp} (F : ∀ i, FnOk P w K mg base CX0 k f fd ps (sp i)) : FnOk P w K mg base CX0 k f fd ps (fun vs H Q E => ∃ i, sp i vs H Q E) :=
  ⟨fun vs H Q E ⟨i, h⟩ => (F i).len vs H Q E h, fun A outer s H args us vs Q E hr he hb hv ⟨i, h⟩ => (F i).run A outer s H args us vs Q E hr he hb hv h⟩
theorem spF_sub {pre pre' : List PyData → Prop} {post post' : List PyData → Rs → Prop} (h1 : ∀ ds, pre ds → pre' ds) (h2 : ∀ ds r, pre ds → post' ds r → post ds r) (vs : List V) (H : Hp) (Q : VK) (E : XK) (h : spF K pre post vs H Q E) : spF K pre' post' vs H Q E := by
  obtain ⟨W, ds, a, b, c, hp, q⟩ := h
  exact ⟨W, ds, a, b, c, h1 ds hp, fun v W' r e ro hr => q v W' r e ro (h2 ds r hp hr)⟩

/-! ### names -/
def preS (ds : List PyData) : Prop := ∃ x : Str, ds = [.str x] ∧ Tx 6000000 x
def postN (ds : List PyData) (r : Rs) : Prop := ∃ x : Str, ds = [.str x] ∧ r = .d (.bool (isName x))
theorem ok_is_name (T : Top K mg) : FnOk P w K mg base CX0 1 T.x_is_name.f T.x_is_name.fd P_is_name (spF K preS postN) := by
  have nd := sc_is_name.nd
  refine fn_ok T.x_is_name.F sc_is_name (fun ds h => ?_) (fun cdv A outer s H E hr => ⟨_, (pss_cons (ps_if (PW.pt (pw_or (pt_not (pt_chain op_le op_le pe_int (pe_callB (len_K (K := K) rfl) (by rfl) T.b_len (by decide +kernel) (pa_cons (pv 0) pa_nil)) (pe_glob (v := .int 8) rfl T.m_LONGEST ⟨_, rfl⟩))) (pw_or1 (pt_cmpR (in_K (K := K) rfl) (pv 0) (pe_glob (v := .ref T.a_WORDS) rfl T.m_WORDS rfl) (by rfl))))) (pss_one (ps_ret pe_bl)) pss_nil)
    (pss_one (ps_ret (pe_callB (all_K (K := K) rfl rfl) (by rfl) T.b_all (by decide +kernel) (pa_cons (pe_lc (own := [("letter", 1)]) (by rfl) nd (pi_str (pv 0)) (blkOk_by (by with_unfolding_all rfl)) (fun _ _ _ _ _ => (pg_name (i := 1) nd rfl (by first | exact Or.inl rfl | exact Or.inr rfl))) (fun _ _ _ _ _ => pts_nil) (fun _ _ _ _ _ => (pe_cmpR (in_K (K := K) rfl) (pv 1) (pe_glob (v := .str "abcdefghijklmnopqrstuvwxyz") rfl T.m_LETTERS ⟨_, rfl⟩) (by rfl)))) pa_nil))))), fun W0 ds hp => ?_⟩)
  · obtain ⟨x, rfl, _⟩ := h
    rfl
  obtain ⟨x, rfl, hT⟩ := hp
  have hx := hT.1
  simp only [cx_K, cx_K2, startG, List.map, List.length, List.replicate, List.append, List.cons_append, List.nil_append]
  repeat' (walk_at "g")
  all_goals (try (refine wpE_kt (ss := ["if", "to", "lefts"]) T.k_WORDS ?_))
  all_goals (repeat' (walk_at "g"))
  · exact ⟨x, rfl, by simp_all [isName]⟩
  · exact ⟨x, rfl, by simp_all [isName]⟩
  · refine wpL_of_N (wpN_map (fun d => match d with | .str y => .bool (decide (y.cps.getD 0 0 ∈ (Str.ofString "abcdefghijklmnopqrstuvwxyz").cps.toList)) | _ => .none) (wpIc_of (wpI_str (wpE_var rfl ⟨x, rfl, ?_, fun d hd => ?_, ?_⟩))))
    · have e : (signsD x).length = x.length := by simp [signsD, Str.length]
      omega
    · obtain ⟨c, _, rfl⟩ := mem_signs hd
      refine wpG_name (by decide) ?_
      repeat' (walk_at "g")
      rfl
    · refine ⟨x.cps.toList.map fun c => decide (c ∈ (Str.ofString "abcdefghijklmnopqrstuvwxyz").cps.toList), ?_, x, rfl, ?_⟩
      · unfold signsD
        rw [List.map_map, List.map_map]
        rfl
      · simp_all [isName]
  · exact ⟨x, rfl, by simp_all [isName]⟩
/-! ### terms of any shape: height, how many parts -/
mutual
def hgt : PyData → Nat
  | .tuple xs => hgtT xs
  | _ => 0
def hgtT : List PyData → Nat
  | [] => 0
  | _ :: ts => hgtL ts
def hgtL : List PyData → Nat
  | [] => 0
  | t :: ts => max (hgt t + 1) (hgtL ts)
end
mutual
def nod : PyData → Nat
  | .tuple xs => 1 + nodL xs
  | _ => 1
def nodL : List PyData → Nat
  | [] => 0
  | t :: ts => nod t + nodL ts
end
mutual
def trm : PyData → Bool
  | .str _ => true
  | .tuple xs => !xs.isEmpty && trmL xs
  | _ => false
def trmL : List PyData → Bool
  | [] => true
  | t :: ts => trm t && trmL ts
end
/-- the terms that stand right in one -/
def inn : PyData → List PyData
  | .tuple (_ :: ts) => ts
  | _ => []
theorem trm_cases {d : PyData} (h : trm d = true) : (∃ x, d = .str x) ∨ ∃ m ts, d = .tuple (m :: ts) ∧ trmL ts = true := by
  cases d with
  | str x => exact .inl ⟨x, rfl⟩
  | tuple xs =>
    cases xs with
    | nil => simp [trm] at h
    | cons m ts =>
      simp only [trm, trmL, Bool.and_eq_true] at h
      exact .inr ⟨m, ts, rfl, h.2.2⟩
  | _ => simp [trm] at h
theorem inn_trm {d : PyData} (h : trm d = true) : trmL (inn d) = true := by
  rcases trm_cases h with ⟨x, rfl⟩ | ⟨m, ts, rfl, h2⟩
  · simp [inn, trmL]
  · exact h2
theorem nod_pos (d : PyData) : 1 ≤ nod d := by
  cases d <;> simp [nod]
theorem nod_inn (d : PyData) : nodL (inn d) + 1 ≤ nod d := by
  unfold inn
  split
  · rename_i m ts
    have := nod_pos m
    simp only [nod, nodL]
    omega
  · have := nod_pos d
    simp only [nodL]
    omega
theorem hgt_inn (d : PyData) : hgt d = hgtL (inn d) := by
  unfold inn
  split
  · simp [hgt, hgtT]
  · rename_i h
    cases d with
    | tuple xs =>
      cases xs with
      | nil => simp [hgt, hgtT, hgtL]
      | cons m ts => exact absurd rfl (h m ts)
    | _ => simp [hgt, hgtL]
theorem nodL_len : ∀ xs : List PyData, xs.length ≤ nodL xs
  | [] => Nat.zero_le _
  | x :: xs => by
    have := nodL_len xs
    have := nod_pos x
    simp only [nodL, List.length_cons]
    omega
theorem nodL_app : ∀ (xs ys : List PyData), nodL (xs ++ ys) = nodL xs + nodL ys
  | [], ys => by simp [nodL]
  | x :: xs, ys => by
    rw [List.cons_append, nodL, nodL, nodL_app xs ys, Nat.add_assoc]
theorem trmL_app : ∀ (xs ys : List PyData), trmL (xs ++ ys) = (trmL xs && trmL ys)
  | [], ys => by simp [trmL]
  | x :: xs, ys => by
    rw [List.cons_append, trmL, trmL, trmL_app xs ys, Bool.and_assoc]
theorem hgtL_app : ∀ (xs ys : List PyData), hgtL (xs ++ ys) = max (hgtL xs) (hgtL ys)
  | [], ys => by simp [hgtL]
  | x :: xs, ys => by
    rw [List.cons_append, hgtL, hgtL, hgtL_app xs ys, Nat.max_assoc]
theorem trmL_mem : ∀ {xs : List PyData}, trmL xs = true → ∀ x ∈ xs, trm x = true
  | [], _, x, hx => nomatch hx
  | y :: ys, h, x, hx => by
    simp only [trmL, Bool.and_eq_true] at h
    rcases List.mem_cons.mp hx with rfl | hx
    · exact h.1
    · exact trmL_mem h.2 x hx
theorem nod_mem : ∀ {xs : List PyData} {x : PyData}, x ∈ xs → nod x ≤ nodL xs
  | y :: ys, x, hx => by
    rw [nodL]
    rcases List.mem_cons.mp hx with rfl | hx
    · omega
    · have := nod_mem hx
      omega
theorem flat_nod : ∀ xs : List PyData, nodL (xs.flatMap inn) ≤ nodL xs
  | [] => Nat.le_refl _
  | x :: xs => by
    have := flat_nod xs
    have := nod_inn x
    rw [List.flatMap_cons, nodL_app, nodL]
    omega
theorem flat_trm : ∀ {xs : List PyData}, trmL xs = true → trmL (xs.flatMap inn) = true
  | [], _ => by simp [trmL]
  | x :: xs, h => by
    simp only [trmL, Bool.and_eq_true] at h
    rw [List.flatMap_cons, trmL_app, inn_trm h.1, flat_trm h.2]
    rfl
theorem flat_hgt : ∀ {xs : List PyData}, xs ≠ [] → hgtL (xs.flatMap inn) + 1 = hgtL xs
  | [], h => absurd rfl h
  | [x], _ => by simp [hgtL, hgt_inn]
  | x :: y :: ys, _ => by
    have := flat_hgt (xs := y :: ys) (by simp)
    rw [List.flatMap_cons, hgtL_app, hgtL, hgt_inn x, ← this]
    omega
theorem hgtL_nil {xs : List PyData} (h : xs ≠ []) : 1 ≤ hgtL xs := by
  have := flat_hgt h
  omega
def preT1 (ds : List PyData) : Prop := ∃ d, ds = [d] ∧ trm d = true ∧ nod d ≤ 9000000
def postInner (ds : List PyData) (r : Rs) : Prop := ∃ d, ds = [d] ∧ r = .d (.tuple (inn d))
theorem ok_inner (T : Top K mg) : FnOk P w K mg base CX0 1 T.x_inner.f T.x_inner.fd P_inner (spF K preT1 postInner) := by
  have nd := sc_inner.nd
  refine fn_ok T.x_inner.F sc_inner (fun ds h => ?_) (fun cdv A outer s H E hr => ⟨_, (pss_one (ps_ret (pe_ifExp (pt_val (pe_callB (isi_K (K := K) rfl) (by rfl) T.b_isinstance (by decide +kernel) (pa_cons (pv 0) (pa_cons (pe_bltn (v := .ty "str") (by rfl) T.b_str (by decide +kernel) rfl) pa_nil)))) (pe_tup pa_nil) (pe_slice (sl_K (K := K) rfl) (pv 0) (po_some pe_int) po_none)))), fun W0 ds hp => ?_⟩)
  · obtain ⟨d, rfl, _⟩ := h
    rfl
  obtain ⟨d, rfl, hT, hN⟩ := hp
  simp only [cx_K, cx_K2, startG, List.map, List.length, List.replicate, List.append, List.cons_append, List.nil_append]
  rcases trm_cases hT with ⟨x, rfl⟩ | ⟨m, ts, rfl, _⟩
  · repeat' (walk_at "g")
    exact ⟨_, rfl, rfl⟩
  · repeat' (walk_at "g")
    exact ⟨_, rfl, rfl⟩
theorem flat_len (xs : List PyData) : (xs.flatMap inn).length ≤ nodL xs := Nat.le_trans (nodL_len _) (flat_nod xs)
def postDeep (ds : List PyData) (r : Rs) : Prop := ∃ d, ds = [d] ∧ r = .d (.int (hgt d : Nat))
theorem ok_deep (T : Top K mg) : FnOk P w K mg base CX0 2 T.x_deep.f T.x_deep.fd P_deep (spF K preT1 postDeep) := by
  have nd := sc_deep.nd
  have G_inner := ok_inner (P := P) (w := w) (base := base) T
  refine fn_ok T.x_deep.F sc_deep (fun ds h => ?_) (fun cdv A outer s H E hr => ⟨_, (pss_cons (ps_set (i := 1) nd rfl (by first | exact Or.inl rfl | exact Or.inr rfl) (pe_call G_inner (hr.mono (by first | decide | omega)) (by rfl) T.x_inner.m T.x_inner.F.kp T.x_inner.b .nil pass0 (pa_cons (pv 0) pa_nil)))
    (pss_cons (ps_set (i := 2) nd rfl (by first | exact Or.inl rfl | exact Or.inr rfl) pe_int)
    (pss_cons (ps_while PassesOwn.never (tr_K (K := K) rfl (pv 1) (by intro _; rfl))
      (pss_cons (ps_setLc2 (i := 1) (own := [("part", 3), ("below", 4)]) (vs1 := [4]) (by rfl) nd rfl rfl (sw_true rfl rfl rfl (by decide +kernel)) (is_K (K := K) rfl (pv 1)) (blkOk_by (by with_unfolding_all rfl)) (by decide) (fun _ _ _ _ _ => (pg_name (i := 3) nd rfl (by first | exact Or.inl rfl | exact Or.inr rfl))) (fun _ _ _ _ _ => pts_nil) (fun _ _ _ _ _ => (it_K (K := K) rfl (pe_call G_inner (hr.mono (by first | decide | omega)) (by rfl) T.x_inner.m T.x_inner.F.kp T.x_inner.b .nil pass0 (pa_cons (pv 3) pa_nil)))) (fun _ _ _ _ _ => (pg_name (i := 4) nd rfl (by first | exact Or.inl rfl | exact Or.inr rfl))) (fun _ _ _ _ _ => pts_nil) (fun _ _ _ _ _ => (pv 4)))
    (pss_one (ps_aug (i := 2) nd rfl (by first | exact Or.inl rfl | exact Or.inr rfl) pe_int ip_add))))
    (pss_one (ps_ret (pv 2)))))), fun W0 ds hp => ?_⟩)
  · obtain ⟨d, rfl, _⟩ := h
    rfl
  obtain ⟨d, rfl, hT, hN⟩ := hp
  simp only [cx_K, cx_K2, startG, List.map, List.length, List.replicate, List.append, List.cons_append, List.nil_append]
  have wi : ∀ {W0 : Wd} {Γ : Gm} {E : XK} {te : TE} {P : PyData → Prop}, (wpE K W0 te Γ fun d => (trm d = true ∧ nod d ≤ 9000000) ∧ P (.tuple (inn d))) → wpE K W0 (tCall (spF K preT1 postInner) [] E (tCons te tNil)) Γ P := by
    intro W0 Γ E te P h
    refine wpE_call (wpA_cons (h.imp fun d ⟨hT, p⟩ => wpA_nil ⟨⟨d, rfl, hT.1, hT.2⟩, ?_⟩))
    rintro r ⟨d', e, rfl⟩
    cases e
    exact p
  have hi1 := inn_trm hT
  have hi2 := nod_inn d
  refine go_seq (go_asg (wi (wpE_var rfl ⟨⟨hT, hN⟩, ?_⟩)))
  refine go_seq (go_asg (wpE_int ?_))
  refine go_seq (go_while (fun m Γ' => ∃ (xs : List PyData) (x1 : Sl) (k : Nat), Γ' = [.d d, x1, .d (.int (k : Int)), .no, .no] ∧ (x1 = .d (.tuple xs) ∨ x1 = .l xs) ∧ trmL xs = true ∧ k + hgtL xs = hgt d ∧ m = hgtL xs ∧ nodL xs ≤ 9000000) _ ⟨_, _, 0, rfl, .inl rfl, hi1, by rw [Nat.zero_add, hgt_inn], rfl, by omega⟩ ?_)
  rintro m Γ' ⟨xs, x1, k, rfl, hsl, hx, hk, rfl, hl⟩
  have tru : ∀ {Q : Bool → Prop}, Q (!xs.isEmpty) → wpT K W0 (tTru K (tVar 1)) [.d d, x1, .d (.int (k : Int)), .no, .no] Q := by
    intro Q q
    rcases hsl with rfl | rfl
    · exact wpT_truT rfl q
    · exact wpT_tru rfl q
  refine tru ⟨fun hb => ?_, fun hb => ?_⟩
  · have hne : xs ≠ [] := fun z => by rw [z] at hb; cases hb
    have hh := flat_hgt hne
    have hf := flat_len xs
    have hn := flat_nod xs
    have hln := nodL_len xs
    have walk : wpIc K W0 (iSeq K (tVar 1)) [.d d, x1, .d (.int (k : Int)), .no, .no] fun ds => ds = xs := by
      rcases hsl with rfl | rfl
      · exact wpIc_of (wpI_seqT (wpE_var rfl ⟨xs, rfl, rfl⟩))
      · exact wpIc_seqL (wpL_var rfl rfl)
    refine go_seq (go_asgN (wpN_flat inn (by decide) (by decide) (walk.imp fun ds hds => ?_)))
    subst hds
    refine ⟨by omega, fun t ht => wpI_tup (wi (wpE_var rfl ⟨⟨trmL_mem hx t ht, by have := nod_mem ht; omega⟩, inn t, rfl, rfl, fun e _ => wpE_var rfl rfl⟩)), ?_⟩
    exact go_aug rfl (wpE_int ⟨1, rfl, _, by omega, ds.flatMap inn, _, k + 1, rfl, .inr rfl, flat_trm hx, by omega, rfl, by omega⟩)
  · have he : xs = [] := by
      cases xs with
      | nil => rfl
      | cons a b => cases hb
    subst he
    have e : k = hgt d := by rw [← hk]; simp [hgtL]
    subst e
    exact go_ret (wpE_var rfl ⟨d, rfl, rfl⟩)

/-! ### texts -/
def strOf : PyData → Str
  | .str x => x
  | _ => Str.ofString ""
def isTw (d : PyData) : Prop := ∃ x, d = .str x ∧ Tx 6000000 x
/-! ### reading terms, a function of the words -/
def beg (x : List (List PyData)) : Bool := decide (1 < x.length) && (x.getLastD []).isEmpty
def stepW (x : List (List PyData)) : PyData → Option (List (List PyData))
  | .str s =>
    if isName s = true then some (x.dropLast ++ [x.getLastD [] ++ [.str s]])
    else if s = lpS ∧ beg x = false then some (x ++ [[]])
    else if s = rpS ∧ 1 < x.length ∧ beg x = false then some (x.dropLast.dropLast ++ [x.dropLast.getLastD [] ++ [.tuple (x.getLastD [])]])
    else none
  | _ => none
def runW : List (List PyData) → List PyData → Option (List (List PyData))
  | x, [] => some x
  | x, w :: ws => match stepW x w with
    | some y => runW y ws
    | none => none
def tF (ws : List PyData) : PyData := match runW [[]] ws with
  | some [ts] => if ts.all (fun t => decide (hgt t ≤ 30)) = true then .tuple ts else .none
  | _ => .none
theorem noOwn_of {Γ : Gm} (h : ∀ s ∈ Γ, s.own = false) : noOwn Γ := fun _ s hs => h s (List.mem_of_getElem? hs)
theorem drop_cons {α : Type} {l : List α} {i : Nat} {d : α} (h : l[i]? = some d) : l.drop i = d :: l.drop (i + 1) := by
  obtain ⟨hi, rfl⟩ := List.getElem?_eq_some_iff.mp h
  exact List.drop_eq_getElem_cons hi
theorem beg_last (ps : List (List PyData)) (q : List PyData) : beg (ps ++ [q]) = (!ps.isEmpty && q.isEmpty) := by
  unfold beg
  rw [show (ps ++ [q]).getLastD [] = q by simp]
  cases ps <;> simp
theorem step_name {s : Str} (h : isName s = true) (ps : List (List PyData)) (q : List PyData) : stepW (ps ++ [q]) (.str s) = some (ps ++ [q ++ [.str s]]) := by
  simp [stepW, h]
theorem step_lp {x : List (List PyData)} (h : beg x = false) : stepW x (.str lpS) = some (x ++ [[]]) := by
  simp [stepW, lp_isName, h]
theorem rp_ne_lp : rpS ≠ lpS := by decide +kernel
theorem step_rp {ps : List (List PyData)} {p q : List PyData} (h : q ≠ []) : stepW (ps ++ [p] ++ [q]) (.str rpS) = some (ps ++ [p ++ [.tuple q]]) := by
  have e : beg (ps ++ [p] ++ [q]) = false := by
    rw [beg_last]
    cases q with
    | nil => exact absurd rfl h
    | cons a b => simp
  have e2 : 1 < (ps ++ [p] ++ [q]).length := by simp
  simp only [stepW, rp_isName, rp_ne_lp, e, e2, Bool.false_eq_true, false_and, if_false, and_self, if_true, true_and]
  simp
theorem step_bad {x : List (List PyData)} {s : Str} (h1 : isName s = false) (h2 : ¬ (s = lpS ∧ beg x = false)) (h3 : ¬ (s = rpS ∧ 1 < x.length ∧ beg x = false)) : stepW x (.str s) = none := by
  simp [stepW, h1, h2, h3]
theorem eqv_str (x y : Str) : PyData.eqv (.str x) (.str y) = decide (x = y) := by rw [Bool.eq_iff_iff]; simp [PyData.eqv]
def sumN (x : List (List PyData)) : Nat := (x.map nodL).sum
theorem sumN_app (x y : List (List PyData)) : sumN (x ++ y) = sumN x + sumN y := by simp [sumN]
theorem sumN_mem : ∀ {x : List (List PyData)} {q : List PyData}, q ∈ x → nodL q ≤ sumN x
  | y :: ys, q, h => by
    have e : sumN (y :: ys) = nodL y + sumN ys := by simp [sumN]
    rw [e]
    rcases List.mem_cons.mp h with rfl | h
    · omega
    · have := sumN_mem h
      omega
def preTi (ds : List PyData) : Prop := ∃ ws, ds = [.list ws] ∧ (∀ d ∈ ws, isTw d) ∧ ws.length ≤ 7000000
def postTi (ds : List PyData) (r : Rs) : Prop := ∃ ws, ds = [.list ws] ∧ r = .d (tF ws)
theorem ok_terms_in (T : Top K mg) : FnOk P w K mg base CX0 3 T.x_terms_in.f T.x_terms_in.fd P_terms_in (spF K preTi postTi) := by
  have nd := sc_terms_in.nd
  have G_is_name := ok_is_name (P := P) (w := w) (base := base) T
  have G_deep := ok_deep (P := P) (w := w) (base := base) T
  refine fn_ok T.x_terms_in.F sc_terms_in (fun ds h => ?_) (fun cdv A outer s H E hr => ⟨_, (pss_cons (ps_set (i := 1) nd rfl (by first | exact Or.inl rfl | exact Or.inr rfl) (pe_lst (pa_cons (pe_lst pa_nil) pa_nil)))
    (pss_cons (ps_for PassesOwn.never rfl (il_K (K := K) rfl (pv 0)) (pg_name (i := 2) nd rfl (by first | exact Or.inl rfl | exact Or.inr rfl))
      (pss_cons (ps_set (i := 3) nd rfl (by first | exact Or.inl rfl | exact Or.inr rfl) (pe_and (pe_cmpR op_gt (pe_callB (len_K (K := K) rfl) (by rfl) T.b_len (by decide +kernel) (pa_cons (pv 1) pa_nil)) pe_int (nomark _)) (pe_one (pe_cmpR (eq_K (K := K) rfl (hu64 hr)) (pe_callB (len_K (K := K) rfl) (by rfl) T.b_len (by decide +kernel) (pa_cons (pe_ix (ix_K (K := K) rfl) (pv 1) (pe_un un_neg pe_int) (fun _ _ => rfl)) pa_nil)) pe_int (nomark _)))))
    (pss_one (ps_if (pt_val (pe_call G_is_name (hr.mono (by first | decide | omega)) (by rfl) T.x_is_name.m T.x_is_name.F.kp T.x_is_name.b .nil pass0 (pa_cons (pv 2) pa_nil))) (pss_one (ps_expr (ap_K (K := K) rfl (pe_ix (ix_K (K := K) rfl) (pv 1) (pe_un un_neg pe_int) (fun _ _ => rfl)) (pv 2)))) (pss_one (ps_if (PW.pt (pw_and (pt_cmpR (eq_K (K := K) rfl (hu64 hr)) (pv 2) pe_str (nomark _)) (pw_and1 (pt_not (pt_val (pv 3)))))) (pss_one (ps_expr (ap_K (K := K) rfl (pv 1) (pe_lst pa_nil)))) (pss_one (ps_if (PW.pt (pw_and (pt_cmpR (eq_K (K := K) rfl (hu64 hr)) (pv 2) pe_str (nomark _)) (pw_and (pt_cmpR op_gt (pe_callB (len_K (K := K) rfl) (by rfl) T.b_len (by decide +kernel) (pa_cons (pv 1) pa_nil)) pe_int (nomark _)) (pw_and1 (pt_not (pt_val (pv 3))))))) (pss_cons (ps_set (i := 4) nd rfl (by first | exact Or.inl rfl | exact Or.inr rfl) (pe_callTy (tof_K (K := K) rfl) (by rfl) T.b_tuple (by decide +kernel) (pa_cons (pop_K (K := K) rfl (pv 1)) pa_nil)))
    (pss_one (ps_expr (ap_K (K := K) rfl (pe_ix (ix_K (K := K) rfl) (pv 1) (pe_un un_neg pe_int) (fun _ _ => rfl)) (pv 4))))) (pss_one (ps_ret pe_non))))))))))
    (pss_cons (ps_if (PW.pt (pw_or (pt_cmpR op_gt (pe_callB (len_K (K := K) rfl) (by rfl) T.b_len (by decide +kernel) (pa_cons (pv 1) pa_nil)) pe_int (nomark _)) (pw_or1 (pt_not (pt_val (pe_callB (all_K (K := K) rfl rfl) (by rfl) T.b_all (by decide +kernel) (pa_cons (pe_lc (own := [("term", 5)]) (by rfl) nd (il_K (K := K) rfl (pe_ix (ix_K (K := K) rfl) (pv 1) pe_int (fun _ _ => rfl))) (blkOk_by (by with_unfolding_all rfl)) (fun _ _ _ _ _ => (pg_name (i := 5) nd rfl (by first | exact Or.inl rfl | exact Or.inr rfl))) (fun _ _ _ _ _ => pts_nil) (fun _ _ _ _ _ => (pe_cmpR op_le (pe_call G_deep (hr.mono (by first | decide | omega)) (by rfl) T.x_deep.m T.x_deep.F.kp T.x_deep.b .nil pass0 (pa_cons (pv 5) pa_nil)) (pe_glob (v := .int 30) rfl T.m_DEEPEST ⟨_, rfl⟩) (nomark _)))) pa_nil))))))) (pss_one (ps_ret pe_non)) pss_nil)
    (pss_one (ps_ret (pe_callTy (tof_K (K := K) rfl) (by rfl) T.b_tuple (by decide +kernel) (pa_cons (pe_ix (ix_K (K := K) rfl) (pv 1) pe_int (fun _ _ => rfl)) pa_nil))))))), fun W0 ds hp => ?_⟩)
  · obtain ⟨_, rfl, _⟩ := h
    rfl
  obtain ⟨ws, rfl, hw, hz⟩ := hp
  have htl : Tx 30 lpS := Tx.of (by decide +kernel)
  have htr : Tx 30 rpS := Tx.of (by decide +kernel)
  simp only [cx_K, cx_K2, startG, List.map, List.length, List.replicate, List.append, List.cons_append, List.nil_append]
  refine go_rows (Nat.le_of_ble_eq_true rfl) (by decide) (noOwn_of (by simp [Sl.own])) (wpI_list (wpE_var rfl ⟨_, rfl, fun i Γ' xss => ∃ (x2 x3 x4 : Sl), Γ' = [.d (.list ws), .no, x2, x3, x4, .no] ∧ xss ≠ [] ∧ runW xss (ws.drop i) = runW [[]] ws ∧ (∀ q ∈ xss, trmL q = true) ∧ sumN xss ≤ i ∧ xss.length ≤ i + 1, ⟨_, _, _, rfl, by simp, rfl, by simp [trmL], by simp [sumN, nodL], Nat.le_refl _⟩, ?_, ?_⟩))
  · rintro i d Γ' xss hd ⟨x2, x3, x4, rfl, hne, hR, hT, hS, hl⟩
    have hi : i < ws.length := (List.getElem?_eq_some_iff.mp hd).1
    rw [drop_cons hd, runW] at hR
    obtain ⟨s, rfl, hs⟩ := hw d (List.mem_of_getElem? hd)
    obtain ⟨ps, q, rfl⟩ := last_split (l := xss) (fun z => hne (List.length_eq_zero_iff.mp z))
    have hqm : q ∈ ps ++ [q] := by simp
    have hlen : ∀ p ∈ ps ++ [q], p.length ≤ i := fun p hp => by
      have := sumN_mem hp
      have := nodL_len p
      omega
    rw [List.length_append, List.length_singleton] at hl
    refine go2_seq (go2_asgB (by decide) (wpE.imp (P := fun d => d = .bool (beg (ps ++ [q]))) ?_ fun d' hd' => ⟨_, hd', ?_⟩))
    · rw [beg_last]
      repeat' (walk_at "g")
      · refine opR_ixL (d := .list q) (by rw [List.map_append]; exact atI_last _ _) ?_
        repeat' (walk_at "g")
        rename_i hb
        have hps : ps ≠ [] := fun z => by
          subst z
          simp at hb
        have : (decide ((q.length : Int) = 0)) = q.isEmpty := by
          cases q with
          | nil => rfl
          | cons a b =>
            have h1 : ¬ (((a :: b).length : Int) = 0) := by rw [List.length_cons]; omega
            rw [decide_eq_false h1]
            rfl
        show PyData.bool _ = PyData.bool _
        rw [this]
        cases ps with
        | nil => exact absurd rfl hps
        | cons a b => rfl
      · rename_i hb
        have hps : ps = [] := by
          cases ps with
          | nil => rfl
          | cons a b =>
            simp only [List.length_map, List.length_append, List.length_cons, List.length_nil, decide_eq_false_iff_not] at hb
            omega
        rw [hps]
        rfl
    clear hd'
    have none_ : stepW (ps ++ [q]) (.str s) = none → tF ws = .none := fun e => by
      rw [e] at hR
      unfold tF
      rw [← hR]
    generalize hbg : beg (ps ++ [q]) = bg at *
    refine go2_if (wpT_imp (P := fun b => b = isName s) (wpT_B (wpE_call (wpA_cons (wpE_var rfl (wpA_nil ⟨⟨s, rfl, hs.le (by decide)⟩, ?_⟩))))) fun b hb => ⟨fun e => ?_, fun e => ?_⟩)
    · rintro r ⟨x', e, rfl⟩
      cases e
      exact ⟨isName s, rfl, rfl⟩
    · have hn : isName s = true := hb.symm.trans e
      rw [step_name hn] at hR
      refine go2_appLast (wpE_var rfl ⟨by have := hlen q hqm; omega, _, _, _, rfl, by simp, hR, fun p hp => ?_, ?_, by rw [List.length_append, List.length_singleton]; omega⟩)
      · rcases List.mem_append.mp hp with hp | hp
        · exact hT p (by simp [hp])
        · rw [List.mem_singleton.mp hp, trmL_app, hT q hqm]
          simp [trmL, trm]
      · rw [sumN_app] at hS ⊢
        have e1 : sumN [q ++ [.str s]] = sumN [q] + 1 := by simp [sumN, nodL_app, nodL, nod]
        omega
    have hn : isName s = false := hb.symm.trans e
    refine go2_if (wpT_imp (P := fun b => b = (decide (s = lpS) && !bg)) (wpT_and (wpT_test (wpE_op (wpE_var rfl (wpE_str (eq_strC (decide (s = lpS)) hs.sh htl.sh (eqv_str _ _) ⟨_, rfl, fun h => wpT_not (wpT_B (wpE_var rfl ⟨bg, rfl, by rw [h]; rfl⟩)), fun h => by rw [h]; rfl⟩)))))) fun b hb2 => ⟨fun e2 => ?_, fun e2 => ?_⟩)
    · rw [hb2] at e2
      simp only [Bool.and_eq_true, decide_eq_true_eq, Bool.not_eq_true'] at e2
      obtain ⟨rfl, rfl⟩ := e2
      rw [step_lp hbg] at hR
      refine go2_appNew (by rw [List.length_append, List.length_singleton]; omega) ⟨_, _, _, rfl, by simp, hR, fun p hp => ?_, ?_, by simp; omega⟩
      · rcases List.mem_append.mp hp with hp | hp
        · exact hT p hp
        · rw [List.mem_singleton.mp hp]
          simp [trmL]
      · rw [sumN_app]
        have e1 : sumN [[]] = 0 := by simp [sumN, nodL]
        omega
    have h2 : ¬ (s = lpS ∧ bg = false) := fun ⟨z1, z2⟩ => by
      rw [hb2, z1, z2] at e2
      simp at e2
    refine go2_if (wpT_imp (P := fun b => b = (decide (s = rpS) && (decide (1 < (ps ++ [q]).length) && !bg))) (wpT_and (wpT_test (wpE_op (wpE_var rfl (wpE_str (eq_strC (decide (s = rpS)) hs.sh htr.sh (eqv_str _ _) ⟨_, rfl, fun h => ?_, fun h => by rw [h]; rfl⟩)))))) fun b hb3 => ⟨fun e3 => ?_, fun e3 => ?_⟩)
    · rw [h, Bool.true_and]
      refine wpT_and (wpT_imp (P := fun b => b = decide (1 < (ps ++ [q]).length)) ?_ fun b hb => ⟨fun e => wpT_not (wpT_B (wpE_var rfl ⟨bg, rfl, by rw [← hb, e]; rfl⟩)), fun e => by rw [← hb, e]; rfl⟩)
      refine wpT_test (wpE_op (wpE_CB (wpA_cons (wpE_var rfl (wpA_nil (opC_lenL (wpE_int (opR_I0B ⟨_, rfl, ?_⟩))))))))
      rw [Bool.eq_iff_iff, decide_eq_true_eq, decide_eq_true_eq, List.length_map]
      omega
    · rw [hb3] at e3
      simp only [Bool.and_eq_true, decide_eq_true_eq, Bool.not_eq_true'] at e3
      obtain ⟨rfl, hgt1, rfl⟩ := e3
      obtain ⟨ps, p', rfl⟩ := last_split (l := ps) (fun z => by rw [List.length_append, List.length_singleton] at hgt1; omega)
      have hqn : q ≠ [] := fun z => by
        rw [beg_last, z] at hbg
        simp at hbg
      rw [step_rp hqn] at hR
      refine go2_seq (go2_pop (by decide) (go2_appLast (wpE_var rfl ⟨by have := hlen p' (by simp); omega, _, _, _, rfl, by simp, hR, fun p hp => ?_, ?_, by simp at hl ⊢; omega⟩)))
      · rcases List.mem_append.mp hp with hp | hp
        · exact hT p (by simp [hp])
        · rw [List.mem_singleton.mp hp, trmL_app, hT p' (by simp)]
          have := hT q hqm
          cases q with
          | nil => exact absurd rfl hqn
          | cons a b => simp [trmL, trm] at this ⊢; exact this
      · rw [sumN_app, sumN_app] at hS
        rw [sumN_app]
        have e1 : sumN [p' ++ [.tuple q]] = sumN [p'] + (1 + sumN [q]) := by simp [sumN, nodL_app, nodL, nod]
        omega
    · have h3 : ¬ (s = rpS ∧ 1 < (ps ++ [q]).length ∧ bg = false) := fun ⟨z1, z2, z3⟩ => by
        rw [hb3, z1, decide_eq_true z2, z3] at e3
        simp at e3
      have hno := none_ (step_bad hn (by rw [hbg]; exact h2) (by rw [hbg]; exact h3))
      exact go2_ret (wpE_non ⟨ws, rfl, by rw [hno]⟩)
  · rintro Γ' yss ⟨x2, x3, x4, rfl, hne, hR, hT, hS, hl⟩
    rw [List.drop_length] at hR
    have hR' : runW [[]] ws = some yss := hR.symm
    refine go_seq (go_if (wpT_or (wpT_imp (P := fun b => b = decide (1 < yss.length)) ?_ fun b hb => ⟨fun e => ⟨fun _ => ?_, (fun z => by cases z)⟩, fun e => ?_⟩)))
    · refine wpT_test (wpE_op (wpE_CB (wpA_cons (wpE_var rfl (wpA_nil (opC_lenL (wpE_int (opR_I0B ⟨_, rfl, ?_⟩))))))))
      rw [Bool.eq_iff_iff, decide_eq_true_eq, decide_eq_true_eq, List.length_map]
      omega
    · have h1 : 1 < yss.length := of_decide_eq_true (hb.symm.trans e)
      refine go_ret (wpE_non ⟨ws, rfl, ?_⟩)
      have : tF ws = .none := by
        unfold tF
        rw [hR']
        match yss, h1 with
        | _ :: _ :: _, _ => rfl
      rw [this]
    have h1 : ¬ 1 < yss.length := of_decide_eq_false (hb.symm.trans e)
    obtain ⟨ts, rfl⟩ : ∃ ts, yss = [ts] := by
      match yss, h1, hne with
      | [ts], _, _ => exact ⟨ts, rfl⟩
      | _ :: _ :: _, h, _ => simp at h
    have htT := hT ts (by simp)
    have hts : nodL ts ≤ ws.length := by
      have := sumN_mem (x := [ts]) (q := ts) (by simp)
      omega
    have htl := nodL_len ts
    have htF : tF ws = if ts.all (fun t => decide (hgt t ≤ 30)) = true then .tuple ts else .none := by
      unfold tF
      rw [hR']
    refine wpT_not (wpT_imp (P := fun b => b = ts.all (fun t => decide (hgt t ≤ 30))) ?_ fun b hb => ⟨fun e => ?_, fun e => ?_⟩)
    · repeat' (walk_at "g")
      refine wpL_of_N (wpN_map (fun t => .bool (decide (hgt t ≤ 30))) (wpIc_of (wpI_list (wpE_op (wpE_var rfl (wpE_int (opR_ixL (d := .list ts) rfl ⟨ts, rfl, by omega, fun d hd => ?_, ts.map (fun t => decide (hgt t ≤ 30)), by rw [List.map_map]; rfl, _, rfl, ?_⟩)))))))
      · refine wpG_name (by decide) ?_
        repeat' (walk_at "g")
        refine ⟨⟨d, rfl, trmL_mem htT d hd, by have := nod_mem hd; omega⟩, ?_⟩
        rintro r ⟨d', e, rfl⟩
        cases e
        repeat' (walk_at "g")
        refine opR_I0B ?_
        congr 1
        rw [Bool.eq_iff_iff, decide_eq_true_eq, decide_eq_true_eq]
        omega
      · rw [List.all_map]
        rfl
    · have hf : ts.all (fun t => decide (hgt t ≤ 30)) = false := by
        rw [← hb]
        cases b with
        | true => cases e
        | false => rfl
      refine go_ret (wpE_non ⟨ws, rfl, ?_⟩)
      rw [htF, hf]
      rfl
    · have hf : ts.all (fun t => decide (hgt t ≤ 30)) = true := by
        rw [← hb]
        cases b with
        | true => rfl
        | false => cases e
      repeat' (walk_at "g")
      refine wpL_of_E (wpE_op (wpE_var rfl (wpE_int (opR_ixL (d := .list ts) rfl ⟨ts, rfl, ws, rfl, ?_⟩))))
      rw [htF, if_pos hf]

/-! ### a text's words -/
def wsT (x : Str) : List PyData := (Txt.split x (Str.ofString " ")).map PyData.str
theorem joinL_part {S : List Nat} : ∀ {ps : List (List Nat)} {p : List Nat}, p ∈ ps → p.length ≤ (TL.joinL S ps).length ∧ ∀ c ∈ p, c ∈ TL.joinL S ps
  | [q], p, h => by
    rw [List.mem_singleton.mp h]
    exact ⟨Nat.le_refl _, fun c hc => hc⟩
  | q :: q' :: r, p, h => by
    show p.length ≤ (q ++ (S ++ TL.joinL S (q' :: r))).length ∧ ∀ c ∈ p, c ∈ q ++ (S ++ TL.joinL S (q' :: r))
    rw [List.length_append, List.length_append]
    rcases List.mem_cons.mp h with rfl | h
    · exact ⟨by omega, fun c hc => List.mem_append_left _ hc⟩
    · obtain ⟨h1, h2⟩ := joinL_part (S := S) h
      exact ⟨by omega, fun c hc => List.mem_append_right _ (List.mem_append_right _ (h2 c hc))⟩
theorem split_part {x y s : Str} (h : s ∈ Txt.split x y) : s.length ≤ x.length ∧ ∀ c ∈ tl s, c ∈ tl x := by
  have e := TL.tl_join y (Txt.split x y)
  rw [StrLaws.join_split] at e
  obtain ⟨h1, h2⟩ := joinL_part (S := TL.tl y) (List.mem_map.mpr ⟨s, h, rfl⟩ : TL.tl s ∈ (Txt.split x y).map TL.tl)
  rw [← e] at h1 h2
  refine ⟨?_, h2⟩
  rw [TL.len_tl, TL.len_tl]
  exact h1
theorem wsT_ok {x : Str} (h : Tx 6000000 x) : (∀ d ∈ wsT x, isTw d) ∧ (wsT x).length ≤ 6000002 ∧ wsT x ≠ [] := by
  refine ⟨fun d hd => ?_, ?_, fun z => ?_⟩
  · obtain ⟨s, hs, rfl⟩ := List.mem_map.mp hd
    obtain ⟨h1, h2⟩ := split_part hs
    exact ⟨s, rfl, by have := h.1; omega, fun c hc => h.2 c (h2 c hc)⟩
  · unfold wsT
    have := PyProof.Rows.split_le x (Str.ofString " ")
    have := h.1
    rw [List.length_map]
    omega
  · have := PyProof.Rows.split_pos x (Str.ofString " ")
    unfold wsT at z
    rw [List.map_eq_nil_iff] at z
    rw [z] at this
    simp at this
def preWx (ds : List PyData) : Prop := ∃ x, ds = [.str x] ∧ Tx 6000000 x
def postWx (ds : List PyData) (r : Rs) : Prop := ∃ x, ds = [.str x] ∧ r = .l (wsT x)
section
variable {W0 : Wd} {Γ : Gm}
theorem wpN_words {i : Nat} {x : Str} {P : List PyData → Prop} (hi : Γ[i]? = some (.d (.str x))) (h : Tx 6000000 x) (p : P (wsT x)) : wpN K W0 (tM1 rSplit (tVar i) (tC (.str (Str.ofString " ")))) Γ P :=
  wpN_split (wpE_var hi ⟨_, rfl, wpE_str ⟨_, rfl, by decide +kernel, by have := h.1; rw [sizeLine_eq]; omega, p⟩⟩)
end
theorem ok_words_of (T : Top K mg) : FnOk P w K mg base CX0 1 T.x_words_of.f T.x_words_of.fd P_words_of (spF K preWx postWx) := by
  have nd := sc_words_of.nd
  refine fn_ok T.x_words_of.F sc_words_of (fun ds h => ?_) (fun cdv A outer s H E hr => ⟨_, (pss_one (ps_ret (split_K (pv 0) pe_str))), fun W0 ds hp => ?_⟩)
  · obtain ⟨_, rfl, _⟩ := h
    rfl
  obtain ⟨x, rfl, hx⟩ := hp
  simp only [cx_K, cx_K2, startG, List.map, List.length, List.replicate, List.append, List.cons_append, List.nil_append]
  exact go_retL (wpN_words rfl hx ⟨x, rfl, rfl⟩)
/-! ### parted -/
def isM (m : Str) : PyData → Bool
  | .str x => decide (x = m)
  | _ => false
def prt (m : Str) : List PyData → List PyData × List (List PyData)
  | [] => ([], [])
  | w :: ws => if isM m w then ([], (prt m ws).1 :: (prt m ws).2) else (w :: (prt m ws).1, (prt m ws).2)
def rowsP (m : Str) (ws : List PyData) : List (List PyData) := (prt m ws).1 :: (prt m ws).2
def prePt (ds : List PyData) : Prop := ∃ ws m, ds = [.list ws, .str m] ∧ Tx 30 m ∧ (∀ d ∈ ws, isTw d) ∧ ws.length ≤ 7000000
def postPt (ds : List PyData) (r : Rs) : Prop := ∃ ws m, ds = [.list ws, .str m] ∧ r = .d (rowsD (rowsP m ws))
theorem ok_parted (T : Top K mg) : FnOk P w K mg base CX0 1 T.x_parted.f T.x_parted.fd P_parted (spF K prePt postPt) := by
  have nd := sc_parted.nd
  refine fn_ok T.x_parted.F sc_parted (fun ds h => ?_) (fun cdv A outer s H E hr => ⟨_, (pss_cons (ps_set (i := 2) nd rfl (by first | exact Or.inl rfl | exact Or.inr rfl) (pe_lst (pa_cons (pe_lst pa_nil) pa_nil)))
    (pss_cons (ps_for PassesOwn.never rfl (il_K (K := K) rfl (pv 0)) (pg_name (i := 3) nd rfl (by first | exact Or.inl rfl | exact Or.inr rfl))
      (pss_one (ps_if (pt_cmpR (eq_K (K := K) rfl (hu64 hr)) (pv 3) (pv 1) (nomark _)) (pss_one (ps_expr (ap_K (K := K) rfl (pv 2) (pe_lst pa_nil)))) (pss_one (ps_expr (ap_K (K := K) rfl (pe_ix (ix_K (K := K) rfl) (pv 2) (pe_un un_neg pe_int) (fun _ _ => rfl)) (pv 3)))))))
    (pss_one (ps_ret (pv 2))))), fun W0 ds hp => ?_⟩)
  · obtain ⟨_, _, rfl, _⟩ := h
    rfl
  obtain ⟨ws, m, rfl, hm, hw, hz⟩ := hp
  simp only [cx_K, cx_K2, startG, List.map, List.length, List.replicate, List.append, List.cons_append, List.nil_append]
  refine go_rows (Nat.le_of_ble_eq_true rfl) (by decide) (noOwn_of (by simp [Sl.own])) (wpI_list (wpE_var rfl ⟨_, rfl, fun i Γ' xss => ∃ (x3 : Sl) (ps : List (List PyData)) (q : List PyData), Γ' = [.d (.list ws), .d (.str m), .no, x3] ∧ xss = ps ++ [q] ∧ ps ++ [q ++ (prt m (ws.drop i)).1] ++ (prt m (ws.drop i)).2 = rowsP m ws ∧ ps.length ≤ i ∧ q.length ≤ i, ⟨_, [], [], rfl, rfl, rfl, Nat.le_refl _, Nat.le_refl _⟩, ?_, ?_⟩))
  · rintro i d Γ' xss hd ⟨x3, ps, q, rfl, rfl, hE, hl, hq⟩
    have hi : i < ws.length := (List.getElem?_eq_some_iff.mp hd).1
    rw [drop_cons hd] at hE
    obtain ⟨x, rfl, hx⟩ := hw d (List.mem_of_getElem? hd)
    by_cases hxm : x = m
    · subst hxm
      have e1 : isM x (.str x) = true := decide_eq_true rfl
      have e2 : prt x (.str x :: ws.drop (i + 1)) = ([], (prt x (ws.drop (i + 1))).1 :: (prt x (ws.drop (i + 1))).2) := by rw [prt, if_pos e1]
      rw [e2] at hE
      refine go2_if (wpT_test (wpE_op (wpE_var rfl (wpE_var rfl (eq_str hx ⟨true, rfl, fun _ => ?_, (fun hb => by cases hb)⟩)))))
      refine go2_appNew (by rw [List.length_append, List.length_singleton]; omega) ⟨_, ps ++ [q], [], rfl, rfl, ?_, by simp; omega, Nat.zero_le _⟩
      rw [← hE]
      simp
    · have e1 : isM m (.str x) = false := decide_eq_false hxm
      have e2 : prt m (.str x :: ws.drop (i + 1)) = (.str x :: (prt m (ws.drop (i + 1))).1, (prt m (ws.drop (i + 1))).2) := by rw [prt, if_neg (by rw [e1]; decide)]
      rw [e2] at hE
      refine go2_if (wpT_test (wpE_op (wpE_var rfl (wpE_var rfl (eq_strC false hx.sh hm.sh (by simp [PyData.eqv, hxm]) ⟨false, rfl, (fun hb => by cases hb), fun _ => ?_⟩)))))
      refine go2_appLast (wpE_var rfl ⟨by omega, _, ps, q ++ [.str x], rfl, rfl, ?_, by omega, by rw [List.length_append, List.length_singleton]; omega⟩)
      rw [← hE]
      simp
  · rintro Γ' xss ⟨x3, ps, q, rfl, rfl, hE, hl, hq⟩
    rw [List.drop_length] at hE
    refine go_ret (wpE_var rfl ⟨ws, m, rfl, ?_⟩)
    have : ps ++ [q] = rowsP m ws := by
      rw [← hE]
      simp [prt]
    rw [this]
theorem prt_app {m : Str} : ∀ {us : List PyData} (vs : List PyData), (∀ d ∈ us, isM m d = false) → prt m (us ++ vs) = (us ++ (prt m vs).1, (prt m vs).2)
  | [], vs, _ => rfl
  | u :: us, vs, h => by
    have := prt_app (us := us) vs fun d hd => h d (List.mem_cons_of_mem _ hd)
    rw [List.cons_append, prt, if_neg (by rw [h u List.mem_cons_self]; decide), this]
    rfl
theorem rowsP_one {m : Str} {us : List PyData} (h : ∀ d ∈ us, isM m d = false) : rowsP m us = [us] := by
  have := prt_app (us := us) (m := m) [] h
  rw [List.append_nil] at this
  unfold rowsP
  rw [this]
  simp [prt]
theorem rowsP_cons {m : Str} {us vs : List PyData} (h : ∀ d ∈ us, isM m d = false) : rowsP m (us ++ .str m :: vs) = us :: rowsP m vs := by
  have e1 : isM m (.str m) = true := decide_eq_true rfl
  unfold rowsP
  rw [prt_app _ h, prt, if_pos e1]
  simp
theorem rowsP_in (m : Str) : ∀ (ws : List PyData), (∀ r ∈ rowsP m ws, r.length ≤ ws.length ∧ ∀ d ∈ r, d ∈ ws) ∧ (rowsP m ws).length ≤ ws.length + 1
  | [] => by simp [rowsP, prt]
  | w :: ws => by
    obtain ⟨h1, h2⟩ := rowsP_in m ws
    unfold rowsP at h1 h2 ⊢
    rw [prt]
    by_cases h : isM m w = true
    · rw [if_pos h]
      refine ⟨fun r hr => ?_, by simp only [List.length_cons] at h2 ⊢; omega⟩
      rcases List.mem_cons.mp hr with rfl | hr
      · exact ⟨Nat.zero_le _, fun d hd => nomatch hd⟩
      · obtain ⟨q1, q2⟩ := h1 r hr
        exact ⟨by rw [List.length_cons]; omega, fun d hd => List.mem_cons_of_mem _ (q2 d hd)⟩
    · rw [if_neg h]
      refine ⟨fun r hr => ?_, by simp only [List.length_cons] at h2 ⊢; omega⟩
      rcases List.mem_cons.mp hr with rfl | hr
      · obtain ⟨q1, q2⟩ := h1 _ List.mem_cons_self
        refine ⟨by simp only [List.length_cons]; omega, fun d hd => ?_⟩
        rcases List.mem_cons.mp hd with rfl | hd
        · exact List.mem_cons_self
        · exact List.mem_cons_of_mem _ (q2 d hd)
      · obtain ⟨q1, q2⟩ := h1 r (List.mem_cons_of_mem _ hr)
        exact ⟨by rw [List.length_cons]; omega, fun d hd => List.mem_cons_of_mem _ (q2 d hd)⟩
theorem cut_from {xs : List PyData} {n : Nat} : cutD xs (some (n : Int)) none = xs.drop n := by
  unfold cutD
  rw [HT.sIx_nat, HT.sIx_none]
  by_cases h : n ≤ xs.length
  · rw [Nat.min_eq_left h, List.take_of_length_le (by rw [List.length_drop]; exact Nat.le_refl _)]
  · rw [Nat.min_eq_right (by omega), List.drop_of_length_le (Nat.le_refl _), List.drop_of_length_le (by omega), List.take_nil]
/-! ### all or none -/
def allF (xs : List PyData) : PyData := if xs.any noneD = true then .none else .tuple xs
def preAo (ds : List PyData) : Prop := ∃ xs, ds = [.list xs] ∧ xs.length ≤ 9000000
def postAo (ds : List PyData) (r : Rs) : Prop := ∃ xs, ds = [.list xs] ∧ r = .d (allF xs)
theorem ok_all_or_none (T : Top K mg) : FnOk P w K mg base CX0 1 T.x_all_or_none.f T.x_all_or_none.fd P_all_or_none (spF K preAo postAo) := by
  have nd := sc_all_or_none.nd
  refine fn_ok T.x_all_or_none.F sc_all_or_none (fun ds h => ?_) (fun cdv A outer s H E hr => ⟨_, (pss_one (ps_ret (pe_ifExp (pt_val (pe_callB (any_K (K := K) rfl rfl) (by rfl) T.b_any (by decide +kernel) (pa_cons (pe_lc (own := [("told", 1)]) (by rfl) nd (il_K (K := K) rfl (pv 0)) (blkOk_by (by with_unfolding_all rfl)) (fun _ _ _ _ _ => (pg_name (i := 1) nd rfl (by first | exact Or.inl rfl | exact Or.inr rfl))) (fun _ _ _ _ _ => pts_nil) (fun _ _ _ _ _ => (pe_cmpR op_isN (pv 1) pe_non (nomark _)))) pa_nil))) pe_non (pe_callTy (tof_K (K := K) rfl) (by rfl) T.b_tuple (by decide +kernel) (pa_cons (pv 0) pa_nil))))), fun W0 ds hp => ?_⟩)
  · obtain ⟨_, rfl, _⟩ := h
    rfl
  obtain ⟨xs, rfl, hl⟩ := hp
  simp only [cx_K, cx_K2, startG, List.map, List.length, List.replicate, List.append, List.cons_append, List.nil_append]
  repeat' (walk_at "g")
  refine wpL_of_N (wpN_map (fun d => .bool (noneD d)) (wpIc_of (wpI_list (wpE_var rfl ⟨xs, rfl, by omega, fun d hd => ?_, xs.map noneD, by rw [List.map_map]; rfl, _, rfl, fun h => ?_, fun h => ?_⟩))))
  · exact wpG_name (by decide) (wpE_op (wpE_var rfl (wpE_non (opR_isN rfl))))
  · rw [List.any_map] at h
    refine wpE_non ⟨xs, rfl, ?_⟩
    unfold allF
    rw [if_pos (show xs.any noneD = true from h)]
  · rw [List.any_map] at h
    refine wpE_tof (wpL_of_E (wpE_var rfl ⟨xs, rfl, xs, rfl, ?_⟩))
    unfold allF
    have h' : xs.any noneD = false := h
    rw [h']
    rfl
/-! ### atoms, claims, rules -/
def nameD : PyData → Bool
  | .str s => isName s
  | _ => false
def atF : List PyData → PyData
  | [] => .none
  | w :: us => if us.isEmpty || !nameD w then .none else match tF us with
    | .tuple ts => .tuple [w, .tuple ts]
    | _ => .none
def tfT (d : PyData) : Prop := d = .none ∨ ∃ ts, d = .tuple ts
theorem tF_cases (ws : List PyData) : tfT (tF ws) := by
  unfold tF
  split
  · split
    · exact .inr ⟨_, rfl⟩
    · exact .inl rfl
  · exact .inl rfl
def preAt (ds : List PyData) : Prop := ∃ ws, ds = [.list ws] ∧ (∀ d ∈ ws, isTw d) ∧ ws.length ≤ 7000000
def postAt (ds : List PyData) (r : Rs) : Prop := ∃ ws, ds = [.list ws] ∧ r = .d (atF ws)
theorem ok_atom_in (T : Top K mg) : FnOk P w K mg base CX0 4 T.x_atom_in.f T.x_atom_in.fd P_atom_in (spF K preAt postAt) := by
  have nd := sc_atom_in.nd
  have G_is_name := ok_is_name (P := P) (w := w) (base := base) T
  have G_terms_in := ok_terms_in (P := P) (w := w) (base := base) T
  refine fn_ok T.x_atom_in.F sc_atom_in (fun ds h => ?_) (fun cdv A outer s H E hr => ⟨_, (pss_cons (ps_if (PW.pt (pw_or (pt_cmpR op_lt (pe_callB (len_K (K := K) rfl) (by rfl) T.b_len (by decide +kernel) (pa_cons (pv 0) pa_nil)) pe_int (nomark _)) (pw_or1 (pt_not (pt_val (pe_call G_is_name (hr.mono (by first | decide | omega)) (by rfl) T.x_is_name.m T.x_is_name.F.kp T.x_is_name.b .nil pass0 (pa_cons (pe_ix (ix_K (K := K) rfl) (pv 0) pe_int (fun _ _ => rfl)) pa_nil))))))) (pss_one (ps_ret pe_non)) pss_nil)
    (pss_cons (ps_set (i := 1) nd rfl (by first | exact Or.inl rfl | exact Or.inr rfl) (pe_call G_terms_in (hr.mono (by first | decide | omega)) (by rfl) T.x_terms_in.m T.x_terms_in.F.kp T.x_terms_in.b .nil pass0 (pa_cons (pe_slice (sl_K (K := K) rfl) (pv 0) (po_some pe_int) po_none) pa_nil)))
    (pss_one (ps_ret (pe_ifExp (pt_cmpR op_isN (pv 1) pe_non (nomark _)) pe_non (pe_tup (pa_cons (pe_ix (ix_K (K := K) rfl) (pv 0) pe_int (fun _ _ => rfl)) (pa_cons (pv 1) pa_nil)))))))), fun W0 ds hp => ?_⟩)
  · obtain ⟨_, rfl, _⟩ := h
    rfl
  obtain ⟨ws, rfl, hw, hz⟩ := hp
  simp only [cx_K, cx_K2, startG, List.map, List.length, List.replicate, List.append, List.cons_append, List.nil_append]
  refine go_seq (go_if (wpT_or (wpT_imp (P := fun b => b = decide (ws.length < 2)) ?_ fun b hb => ⟨fun e => ⟨fun _ => ?_, (fun z => by cases z)⟩, fun e => ?_⟩)))
  · refine wpT_test (wpE_op (wpE_CB (wpA_cons (wpE_var rfl (wpA_nil (opC_lenL (wpE_int (opR_I0B ⟨_, rfl, ?_⟩))))))))
    rw [Bool.eq_iff_iff, decide_eq_true_eq, decide_eq_true_eq]
    omega
  · have h : ws.length < 2 := of_decide_eq_true (hb.symm.trans e)
    refine go_ret (wpE_non ⟨ws, rfl, ?_⟩)
    have : atF ws = .none := by
      match ws, h with
      | [], _ => rfl
      | [a], _ => rfl
    rw [this]
  have h : ¬ ws.length < 2 := of_decide_eq_false (hb.symm.trans e)
  obtain ⟨w0, us, rfl, hus⟩ : ∃ w0 us, ws = w0 :: us ∧ us.isEmpty = false := by
    match ws, h with
    | a :: b :: c, _ => exact ⟨a, b :: c, rfl, rfl⟩
    | [a], h => simp at h
    | [], h => simp at h
  obtain ⟨s, rfl, hs⟩ := hw w0 List.mem_cons_self
  have e1 : cutD (.str s :: us) (some 1) none = us := cut_from (n := 1)
  have hpost : ∀ r, r = Rs.d (match isName s, tF us with | true, .tuple ts => .tuple [.str s, .tuple ts] | _, _ => .none) → postAt [.list (.str s :: us)] r := fun r hr => ⟨_, rfl, by
    rw [hr]
    show _ = Rs.d (if us.isEmpty || !isName s then .none else match tF us with | .tuple ts => .tuple [.str s, .tuple ts] | _ => .none)
    rw [hus]
    cases isName s with
    | false => rfl
    | true => rcases tF_cases us with q | ⟨ts, q⟩ <;> (rw [q]; rfl)⟩
  refine wpT_not (wpT_B (wpE_call (wpA_cons (wpE_op (wpE_var rfl (wpE_int (opR_ixL (d := .str s) (atI_nat (j := 0) rfl) (wpA_nil ⟨⟨s, rfl, hs.le (by decide)⟩, ?_⟩))))))))
  rintro r ⟨x, ex, rfl⟩
  cases ex
  refine ⟨isName s, rfl, fun en => ?_, fun en => ?_⟩
  · refine go_ret (wpE_non (hpost _ ?_))
    cases q : isName s with
    | true => rw [q] at en; cases en
    | false => rfl
  have hn : isName s = true := by
    cases q : isName s with
    | true => rfl
    | false => rw [q] at en; cases en
  rw [hn] at hpost
  refine go_next (go_seq (go_asg (wpE_call (wpA_cons (wpE_of_N (wpN_slL (wpL_of_E (wpE_var rfl ⟨_, rfl, wpO_some (wpE_int ⟨1, rfl, wpO_no ?_⟩)⟩))))))))
  rw [e1]
  refine wpA_nil ⟨⟨us, rfl, fun d hd => hw d (List.mem_cons_of_mem _ hd), by simp only [List.length_cons] at hz; omega⟩, ?_⟩
  rintro r ⟨us', ex, rfl⟩
  cases ex
  refine go_ret (wpE_if (wpT_test (wpE_op (wpE_var rfl (wpE_non (opR_isN ⟨_, rfl, fun en => ?_, fun en => ?_⟩))))))
  · rcases tF_cases us with q | ⟨ts, q⟩
    · refine wpE_non (hpost _ ?_)
      rw [q]
    · simp only [Rs.data] at en
      rw [q] at en
      cases en
  · rcases tF_cases us with q | ⟨ts, q⟩
    · simp only [Rs.data] at en
      rw [q] at en
      cases en
    · refine wpE_tup (wpA_cons (wpE_op (wpE_var rfl (wpE_int (opR_ixL (d := .str s) (atI_nat (j := 0) rfl) (wpA_cons (wpE_var rfl (wpA_nil ⟨Nat.le_of_ble_eq_true rfl, hpost _ ?_⟩))))))))
      simp only [Rs.data]
      rw [q]
theorem list_map_inj : ∀ {xs ys : List (List PyData)}, xs.map PyData.list = ys.map PyData.list → xs = ys
  | [], [], _ => rfl
  | [], _ :: _, e => nomatch e
  | _ :: _, [], e => nomatch e
  | a :: as, b :: bs, e => by
    simp only [List.map_cons, List.cons.injEq, PyData.list.injEq] at e
    rw [e.1, list_map_inj e.2]
def atFd : PyData → PyData
  | .list ws => atF ws
  | _ => .none
def asF (rows : List (List PyData)) : PyData := allF (rows.map atF)
def preAi (ds : List PyData) : Prop := ∃ rows : List (List PyData), ds = [rowsD rows] ∧ rows.length ≤ 7000001 ∧ ∀ r ∈ rows, r.length ≤ 7000000 ∧ ∀ d ∈ r, isTw d
def postAi (ds : List PyData) (r : Rs) : Prop := ∃ rows : List (List PyData), ds = [rowsD rows] ∧ r = .d (asF rows)
theorem ok_atoms_in (T : Top K mg) : FnOk P w K mg base CX0 5 T.x_atoms_in.f T.x_atoms_in.fd P_atoms_in (spF K preAi postAi) := by
  have nd := sc_atoms_in.nd
  have G_atom_in := ok_atom_in (P := P) (w := w) (base := base) T
  have G_all_or_none := ok_all_or_none (P := P) (w := w) (base := base) T
  refine fn_ok T.x_atoms_in.F sc_atoms_in (fun ds h => ?_) (fun cdv A outer s H E hr => ⟨_, (pss_one (ps_ret (pe_call G_all_or_none (hr.mono (by first | decide | omega)) (by rfl) T.x_all_or_none.m T.x_all_or_none.F.kp T.x_all_or_none.b .nil pass0 (pa_cons (pe_lc (own := [("words", 1)]) (by rfl) nd (il_K (K := K) rfl (pv 0)) (blkOk_by (by with_unfolding_all rfl)) (fun _ _ _ _ _ => (pg_name (i := 1) nd rfl (by first | exact Or.inl rfl | exact Or.inr rfl))) (fun _ _ _ _ _ => pts_nil) (fun _ _ _ _ _ => (pe_call G_atom_in (hr.mono (by first | decide | omega)) (by rfl) T.x_atom_in.m T.x_atom_in.F.kp T.x_atom_in.b .nil pass0 (pa_cons (pv 1) pa_nil)))) pa_nil)))), fun W0 ds hp => ?_⟩)
  · obtain ⟨_, rfl, _⟩ := h
    rfl
  obtain ⟨rows, rfl, hl, hr⟩ := hp
  simp only [cx_K, cx_K2, startG, List.map, List.length, List.replicate, List.append, List.cons_append, List.nil_append]
  refine go_ret (wpE_call (wpA_cons (wpE_of_N (wpN_map atFd (wpIc_of (wpI_list (wpE_var rfl ⟨_, rfl, by rw [List.length_map]; omega, fun d hd => ?_, wpA_nil ⟨⟨_, rfl, by rw [List.length_map, List.length_map]; omega⟩, ?_⟩⟩)))))))
  · obtain ⟨r, hrm, rfl⟩ := List.mem_map.mp hd
    obtain ⟨h1, h2⟩ := hr r hrm
    refine wpG_name (by decide) (wpE_call (wpA_cons (wpE_var rfl (wpA_nil ⟨⟨r, rfl, h2, h1⟩, ?_⟩))))
    rintro r' ⟨ws, e, rfl⟩
    cases e
    rfl
  · rintro r ⟨xs, e, rfl⟩
    cases e
    refine ⟨rows, rfl, ?_⟩
    unfold asF
    rw [List.map_map]
    rfl
def clF (ws : List PyData) : PyData := match rowsP arS ws with
  | [a, b] => allF [if a.isEmpty then .tuple [] else asF (rowsP cmS a), asF (rowsP cmS b)]
  | _ => .none
def preCi (ds : List PyData) : Prop := ∃ ws, ds = [.list ws] ∧ (∀ d ∈ ws, isTw d) ∧ ws.length ≤ 7000000
def postCi (ds : List PyData) (r : Rs) : Prop := ∃ ws, ds = [.list ws] ∧ r = .d (clF ws)
theorem ok_claim_in (T : Top K mg) : FnOk P w K mg base CX0 6 T.x_claim_in.f T.x_claim_in.fd P_claim_in (spF K preCi postCi) := by
  have nd := sc_claim_in.nd
  have G_parted := ok_parted (P := P) (w := w) (base := base) T
  have G_atoms_in := ok_atoms_in (P := P) (w := w) (base := base) T
  have G_all_or_none := ok_all_or_none (P := P) (w := w) (base := base) T
  refine fn_ok T.x_claim_in.F sc_claim_in (fun ds h => ?_) (fun cdv A outer s H E hr => ⟨_, (pss_cons (ps_set (i := 1) nd rfl (by first | exact Or.inl rfl | exact Or.inr rfl) (pe_call G_parted (hr.mono (by first | decide | omega)) (by rfl) T.x_parted.m T.x_parted.F.kp T.x_parted.b .nil pass0 (pa_cons (pv 0) (pa_cons pe_str pa_nil))))
    (pss_cons (ps_if (pt_cmpR (ne_K (K := K) rfl (hu64 hr)) (pe_callB (len_K (K := K) rfl) (by rfl) T.b_len (by decide +kernel) (pa_cons (pv 1) pa_nil)) pe_int (nomark _)) (pss_one (ps_ret pe_non)) pss_nil)
    (pss_cons (ps_set (i := 2) nd rfl (by first | exact Or.inl rfl | exact Or.inr rfl) (pe_ifExp (pt_cmpR (eq_K (K := K) rfl (hu64 hr)) (pe_callB (len_K (K := K) rfl) (by rfl) T.b_len (by decide +kernel) (pa_cons (pe_ix (ix_K (K := K) rfl) (pv 1) pe_int (fun _ _ => rfl)) pa_nil)) pe_int (nomark _)) (pe_tup pa_nil) (pe_call G_atoms_in (hr.mono (by first | decide | omega)) (by rfl) T.x_atoms_in.m T.x_atoms_in.F.kp T.x_atoms_in.b .nil pass0 (pa_cons (pe_call G_parted (hr.mono (by first | decide | omega)) (by rfl) T.x_parted.m T.x_parted.F.kp T.x_parted.b .nil pass0 (pa_cons (pe_ix (ix_K (K := K) rfl) (pv 1) pe_int (fun _ _ => rfl)) (pa_cons pe_str pa_nil))) pa_nil))))
    (pss_one (ps_ret (pe_call G_all_or_none (hr.mono (by first | decide | omega)) (by rfl) T.x_all_or_none.m T.x_all_or_none.F.kp T.x_all_or_none.b .nil pass0 (pa_cons (pe_lst (pa_cons (pv 2) (pa_cons (pe_call G_atoms_in (hr.mono (by first | decide | omega)) (by rfl) T.x_atoms_in.m T.x_atoms_in.F.kp T.x_atoms_in.b .nil pass0 (pa_cons (pe_call G_parted (hr.mono (by first | decide | omega)) (by rfl) T.x_parted.m T.x_parted.F.kp T.x_parted.b .nil pass0 (pa_cons (pe_ix (ix_K (K := K) rfl) (pv 1) pe_int (fun _ _ => rfl)) (pa_cons pe_str pa_nil))) pa_nil)) pa_nil))) pa_nil))))))), fun W0 ds hp => ?_⟩)
  · obtain ⟨_, rfl, _⟩ := h
    rfl
  obtain ⟨ws, rfl, hw, hz⟩ := hp
  have hcm : Tx 30 cmS := Tx.of (by decide +kernel)
  simp only [cx_K, cx_K2, startG, List.map, List.length, List.replicate, List.append, List.cons_append, List.nil_append]
  refine go_seq (go_asg (wpE_call (wpA_cons (wpE_var rfl (wpA_cons (wpE_str (wpA_nil ⟨⟨ws, arS, rfl, Tx.of (by decide +kernel), hw, hz⟩, ?_⟩)))))))
  rintro r ⟨ws', m, e, rfl⟩
  cases e
  have hin := (rowsP_in arS ws).1
  have hlr := (rowsP_in arS ws).2
  simp only [Rs.data]
  have side : ∀ (us : List PyData), us.length ≤ 7000000 → (∀ d ∈ us, isTw d) → ∀ {Γ : Gm} {te : TE} {Q : PyData → Prop}, wpE K W0 te Γ (fun d => d = .list us) → Q (asF (rowsP cmS us)) →
      wpE K W0 (tCall (spF K preAi postAi) [] E0 (tCons (tCall (spF K prePt postPt) [] E0 (tCons te (tCons (tC (.str (Str.ofString ","))) tNil))) tNil)) Γ Q := by
    intro us hl hA Γ te Q hte q
    refine wpE_call (wpA_cons (wpE_call (wpA_cons (hte.imp fun d hd => wpA_cons (wpE_str (wpA_nil ⟨⟨us, cmS, by rw [hd], hcm, hA, hl⟩, ?_⟩))))))
    rintro r ⟨ws', m, e, rfl⟩
    rw [hd] at e
    cases e
    have hin2 := rowsP_in (Str.ofString ",") us
    refine wpA_nil ⟨⟨_, rfl, by omega, fun r hr => ⟨by have := (hin2.1 r hr).1; omega, fun d hd => hA d ((hin2.1 r hr).2 d hd)⟩⟩, ?_⟩
    rintro r ⟨rows, e, rfl⟩
    have e2 : rowsP cmS us = rows := by
      have := PyData.list.inj (List.cons.inj e).1
      exact list_map_inj this
    rw [← e2]
    exact q
  refine go_seq (go_if (wpT_imp (P := fun b => b = !decide ((rowsP arS ws).length = 2)) ?_ fun b hb => ⟨fun e => ?_, fun e => ?_⟩))
  · refine wpT_test (wpE_op (wpE_CB (wpA_cons (wpE_var rfl (wpA_nil (opC_lenL (wpE_int (ne_int ⟨_, rfl, ?_⟩))))))))
    have elr : (rowsP (Str.ofString "=>") ws).length = (rowsP arS ws).length := rfl
    congr 1
    rw [Bool.eq_iff_iff, decide_eq_true_eq, decide_eq_true_eq, List.length_map]
    omega
  · have h : ¬ (rowsP arS ws).length = 2 := by
      rw [hb] at e
      simpa using e
    refine go_ret (wpE_non ⟨ws, rfl, ?_⟩)
    have : clF ws = .none := by
      unfold clF
      split
      · rename_i q
        rw [q] at h
        exact absurd rfl h
      · rfl
    rw [this]
  have h : (rowsP arS ws).length = 2 := by
    rw [hb] at e
    simpa using e
  obtain ⟨a, b', hab⟩ : ∃ a b, rowsP arS ws = [a, b] := by
    match q : rowsP arS ws, h with
    | [a, b], _ => exact ⟨a, b, rfl⟩
  have hcl : clF ws = allF [if a.isEmpty then .tuple [] else asF (rowsP cmS a), asF (rowsP cmS b')] := by
    unfold clF
    rw [hab]
  rw [hab] at hin
  have ha := hin a (by simp)
  have hb' := hin b' (by simp)
  have hrow : (rowsD (rowsP arS ws)) = .list [.list a, .list b'] := by rw [hab]; rfl
  rw [show rowsD (rowsP (Str.ofString "=>") ws) = .list [.list a, .list b'] from hrow]
  refine go_next (go_seq (go_asg (wpE.imp (P := fun d => d = if a.isEmpty then .tuple [] else asF (rowsP cmS a)) ?_ fun d hd => ?_)))
  · refine wpE_if (wpT_imp (P := fun b => b = a.isEmpty) ?_ fun b hb => ⟨fun hb2 => ?_, fun hb2 => ?_⟩)
    · refine wpT_test (wpE_op (wpE_CB (wpA_cons (wpE_op (wpE_var rfl (wpE_int (opR_ixL (d := .list a) (atI_nat (j := 0) rfl) (wpA_nil (opC_lenL (wpE_int (eq_int ⟨_, rfl, ?_⟩)))))))))))
      cases a with
      | nil => rfl
      | cons x y =>
        refine decide_eq_false ?_
        rw [List.length_cons]
        omega
    · rw [← hb, hb2, if_pos rfl]
      exact wpE_tup (wpA_nil ⟨Nat.zero_le _, rfl⟩)
    · rw [← hb, hb2, if_neg (by decide)]
      exact side a (by omega) (fun d hd => hw d (ha.2 d hd)) (wpE_op (wpE_var rfl (wpE_int (opR_ixL (d := .list a) (atI_nat (j := 0) rfl) rfl)))) rfl
  · subst hd
    refine go_ret (wpE_call (wpA_cons (wpE_of_N (wpN_lst (wpA_cons (wpE_var rfl (wpA_cons (side b' (by omega) (fun d hd => hw d (hb'.2 d hd)) (wpE_op (wpE_var rfl (wpE_int (opR_ixL (d := .list b') (atI_nat (j := 1) rfl) rfl)))) (wpA_nil ⟨Nat.le_of_ble_eq_true rfl, wpA_nil ⟨⟨_, rfl, Nat.le_of_ble_eq_true rfl⟩, ?_⟩⟩)))))))))
    rintro r ⟨xs, e, rfl⟩
    cases e
    exact ⟨ws, rfl, by rw [hcl]; rfl⟩

/-! ### readers of texts, with their refusals -/
theorem allF_cases (xs : List PyData) : tfT (allF xs) := by
  unfold allF
  split
  · exact .inl rfl
  · exact .inr ⟨_, rfl⟩
theorem clF_cases (ws : List PyData) : tfT (clF ws) := by
  unfold clF
  split
  · exact allF_cases _
  · exact .inl rfl
def xpB (Cb : Addr) (n : Int) (bad : Prop) : Xp := fun C fs => C = Cb ∧ fs = rowFs n ∧ bad
abbrev TxI : Type := { x : Str // Tx 6000000 x }
def preRt (i : TxI) (ds : List PyData) : Prop := ds = [.str i.val]
def postRt (i : TxI) (_ : List PyData) (r : Rs) : Prop := ∃ t, tF (wsT i.val) = .tuple [t] ∧ r = .d t
def xpRt (Cb : Addr) (i : TxI) (_ : List PyData) : Xp := xpB Cb 0 (¬ ∃ t, tF (wsT i.val) = .tuple [t])
theorem ok_read_term (T : Top K mg) : FnOk P w K mg base (L2.CX P w) 4 T.x_read_term.f T.x_read_term.fd P_read_term (spX K preRt postRt (xpRt T.C_BadText)) := by
  have nd := sc_read_term.nd
  have G_words_of := ok_words_of (P := P) (w := w) (base := base) T
  have G_terms_in := ok_terms_in (P := P) (w := w) (base := base) T
  have G_BadText_init := ok_BadText_init (P := P) (w := w) (base := base) T
  refine fn_okX T.x_read_term.F sc_read_term (fun i ds h => ?_) (fun cdv A outer s H E hr => ⟨_, (pss_cons (ps_set (i := 1) nd rfl (by first | exact Or.inl rfl | exact Or.inr rfl) (pe_call G_terms_in (hr.mono (by first | decide | omega)) (by rfl) T.x_terms_in.m T.x_terms_in.F.kp T.x_terms_in.b .nil pass0 (pa_cons (pe_call G_words_of (hr.mono (by first | decide | omega)) (by rfl) T.x_words_of.m T.x_words_of.F.kp T.x_words_of.b .nil pass0 (pa_cons (pv 0) pa_nil)) pa_nil)))
    (pss_cons (ps_if (PW.pt (pw_or (pt_cmpR op_isN (pv 1) pe_non (nomark _)) (pw_or1 (pt_cmpR (ne_K (K := K) rfl (hu64 hr)) (pe_callB (len_K (K := K) rfl) (by rfl) T.b_len (by decide +kernel) (pa_cons (pv 1) pa_nil)) pe_int (nomark _))))) (pss_one (L2.ps_raise rfl (L2.takes_of rfl rfl rfl rfl) (L2.pmk_oex T.o_BadText T.x_BadText_init.at_.at_ T.ti_BadText G_BadText_init (hr.mono (by first | decide | omega)) T.x_BadText_init.b .nil pass0 (by rfl) T.mC_BadText (pa_cons pe_int pa_nil)))) pss_nil)
    (pss_one (ps_ret (pe_ix (ix_K (K := K) rfl) (pv 1) pe_int (fun _ _ => rfl)))))), fun i W0 ds hp hE => ?_⟩)
  · rw [h]
    rfl
  obtain ⟨x, hx⟩ := i
  obtain rfl := hp
  obtain ⟨hw1, hw2, hw3⟩ := wsT_ok hx
  simp only [cx_K, cx_K2, startG, List.map, List.length, List.replicate, List.append, List.cons_append, List.nil_append]
  refine go_seq (go_asg (wpE_call (wpA_cons (wpE_call (wpA_cons (wpE_var rfl (wpA_nil ⟨⟨_, rfl, hx⟩, fun r hr2 => ?_⟩)))))))
  obtain ⟨x', e, rfl⟩ := hr2
  cases e
  refine wpA_nil ⟨⟨_, rfl, hw1, by omega⟩, ?_⟩
  rintro r ⟨ws', e, rfl⟩
  cases e
  simp only [Rs.data]
  generalize hws : wsT x = ws at hw1 hw2 hw3
  have raise : ∀ {Γ : Gm} {A : AE}, (¬ ∃ t, tF ws = .tuple [t]) → go K W0 (fun _ σ H => tMkO T.C_BadText (spI1 T.C_BadText "row") [] (tCons (tC (.int 0)) tNil) σ H fun cls d H' => E cls d H') Γ A := fun h =>
    go_raise1 hE (wpA_cons (wpE_int (wpA_nil ⟨_, rfl, rfl, rfl, by rw [hws]; exact h⟩)))
  rcases tF_cases ws with q | ⟨ts, q⟩
  · have hno : ¬ ∃ t, tF ws = .tuple [t] := fun ⟨t, z⟩ => by
      rw [q] at z
      cases z
    rw [q]
    exact go_seq (go_if (wpT_or (wpT_test (wpE_op (wpE_var rfl (wpE_non (opR_isN ⟨_, rfl, fun _ => ⟨fun _ => raise hno, (fun z => nomatch (show true = false from z))⟩, (fun z => nomatch (show true = false from z))⟩)))))))
  · rw [q]
    refine go_seq (go_if (wpT_or (wpT_test (wpE_op (wpE_var rfl (wpE_non (opR_isN ⟨_, rfl, (fun z => nomatch (show false = true from z)), fun _ => ?_⟩)))))))
    refine wpT_test (wpE_op (wpE_CB (wpA_cons (wpE_var rfl (wpA_nil (opC_lenT (wpE_int (ne_int ⟨_, rfl, fun z => raise ?_, fun z => go_next ?_⟩))))))))
    · rintro ⟨t, z2⟩
      rw [q] at z2
      cases z2
      simp at z
    · have hl : ts.length = 1 := by
        have := of_decide_eq_true (show decide _ = true from by simpa using z)
        omega
      obtain ⟨t, rfl⟩ := List.length_eq_one_iff.mp hl
      exact go_ret (wpE_op (wpE_var rfl (wpE_int (opR_ixT (d := t) (atI_nat (j := 0) rfl) ⟨t, by rw [hws]; exact q, rfl⟩))))
def postRc (i : TxI) (_ : List PyData) (r : Rs) : Prop := clF (wsT i.val) ≠ .none ∧ r = .d (clF (wsT i.val))
def xpRc (Cb : Addr) (i : TxI) (_ : List PyData) : Xp := xpB Cb 0 (clF (wsT i.val) = .none)
theorem ok_read_claim (T : Top K mg) : FnOk P w K mg base (L2.CX P w) 7 T.x_read_claim.f T.x_read_claim.fd P_read_claim (spX K preRt postRc (xpRc T.C_BadText)) := by
  have nd := sc_read_claim.nd
  have G_words_of := ok_words_of (P := P) (w := w) (base := base) T
  have G_claim_in := ok_claim_in (P := P) (w := w) (base := base) T
  have G_BadText_init := ok_BadText_init (P := P) (w := w) (base := base) T
  refine fn_okX T.x_read_claim.F sc_read_claim (fun i ds h => ?_) (fun cdv A outer s H E hr => ⟨_, (pss_cons (ps_set (i := 1) nd rfl (by first | exact Or.inl rfl | exact Or.inr rfl) (pe_call G_claim_in (hr.mono (by first | decide | omega)) (by rfl) T.x_claim_in.m T.x_claim_in.F.kp T.x_claim_in.b .nil pass0 (pa_cons (pe_call G_words_of (hr.mono (by first | decide | omega)) (by rfl) T.x_words_of.m T.x_words_of.F.kp T.x_words_of.b .nil pass0 (pa_cons (pv 0) pa_nil)) pa_nil)))
    (pss_cons (ps_if (pt_cmpR op_isN (pv 1) pe_non (nomark _)) (pss_one (L2.ps_raise rfl (L2.takes_of rfl rfl rfl rfl) (L2.pmk_oex T.o_BadText T.x_BadText_init.at_.at_ T.ti_BadText G_BadText_init (hr.mono (by first | decide | omega)) T.x_BadText_init.b .nil pass0 (by rfl) T.mC_BadText (pa_cons pe_int pa_nil)))) pss_nil)
    (pss_one (ps_ret (pv 1))))), fun i W0 ds hp hE => ?_⟩)
  · rw [h]
    rfl
  obtain ⟨x, hx⟩ := i
  obtain rfl := hp
  obtain ⟨hw1, hw2, hw3⟩ := wsT_ok hx
  simp only [cx_K, cx_K2, startG, List.map, List.length, List.replicate, List.append, List.cons_append, List.nil_append]
  refine go_seq (go_asg (wpE_call (wpA_cons (wpE_call (wpA_cons (wpE_var rfl (wpA_nil ⟨⟨_, rfl, hx⟩, fun r hr2 => ?_⟩)))))))
  obtain ⟨x', e, rfl⟩ := hr2
  cases e
  refine wpA_nil ⟨⟨_, rfl, hw1, by omega⟩, ?_⟩
  rintro r ⟨ws', e, rfl⟩
  cases e
  simp only [Rs.data]
  rcases clF_cases (wsT x) with q | ⟨ts, q⟩
  · refine go_seq (go_if (wpT_test (wpE_op (wpE_var rfl (wpE_non (opR_isN ⟨_, rfl, fun _ => ?_, fun z => ?_⟩))))))
    · exact go_raise1 hE (wpA_cons (wpE_int (wpA_nil ⟨_, rfl, rfl, rfl, q⟩)))
    · rw [q] at z
      cases z
  · refine go_seq (go_if (wpT_test (wpE_op (wpE_var rfl (wpE_non (opR_isN ⟨_, rfl, fun z => ?_, fun z => go_next ?_⟩))))))
    · rw [q] at z
      cases z
    · exact go_ret (wpE_var rfl ⟨(by rw [q]; intro z; cases z), rfl⟩)
/-! ### met -/
inductive RdI where
  | tm (i : TxI)
  | cl (i : TxI)
def rdT : RdI → Str
  | .tm i => i.val
  | .cl i => i.val
/-- what is told of a text -/
def tmO (ws : List PyData) : PyData := match tF ws with
  | .tuple [t] => t
  | _ => badD 0
def clO (ws : List PyData) : PyData := match clF ws with
  | .none => badD 0
  | d => d
def rdO : RdI → PyData
  | .tm i => tmO (wsT i.val)
  | .cl i => clO (wsT i.val)
def rdF (T : Top K mg) : RdI → Addr
  | .tm _ => T.x_read_term.f
  | .cl _ => T.x_read_claim.f
def preM (T : Top K mg) (i : RdI) (ds : List PyData) : Prop := ds = [rfD (rdF T i), .str (rdT i)]
def postM (i : RdI) (_ : List PyData) (r : Rs) : Prop := r = .d (rdO i)
theorem rowFs_inj {n m : Int} (h : rowFs n = rowFs m) : n = m := by
  simpa [rowFs] using h
theorem ok_metA (T : Top K mg) : FnOk P w K mg base CX0 32 T.x_met.f T.x_met.fd P_met (spFx K (preM T) postM) := fn_ex fun
  | .tm i => (ok_met T (ok_read_term T) T.x_read_term.F.kp T.x_read_term.b (by decide) (fun i ds C fs h => ⟨h.1, _, h.2.1⟩) i).imp (spF_sub (fun ds h => ⟨_, h, rfl⟩) fun ds r _ h => by
      show r = .d (tmO (wsT i.val))
      obtain ⟨d, hd, ⟨r', ⟨t, h1, rfl⟩, rfl⟩ | ⟨n, ⟨_, h1, h2⟩, rfl⟩⟩ := h
      · unfold tmO
        rw [h1]
        rfl
      · rw [rowFs_inj h1]
        unfold tmO
        split
        · rename_i t e
          exact absurd ⟨t, e⟩ h2
        · rfl)
  | .cl i => (ok_met T (ok_read_claim T) T.x_read_claim.F.kp T.x_read_claim.b (by decide) (fun i ds C fs h => ⟨h.1, _, h.2.1⟩) i).imp (spF_sub (fun ds h => ⟨_, h, rfl⟩) fun ds r _ h => by
      show r = .d (clO (wsT i.val))
      obtain ⟨d, hd, ⟨r', ⟨h1, rfl⟩, rfl⟩ | ⟨n, ⟨_, h1, h2⟩, rfl⟩⟩ := h
      · unfold clO
        rcases clF_cases (wsT i.val) with q | ⟨ts, q⟩
        · exact absurd q h1
        · rw [q]
          rfl
      · rw [rowFs_inj h1]
        unfold clO
        rw [show clF (wsT i.val) = .none from h2])
section
variable {W0 : Wd} {Γ : Gm} {E : XK}
theorem w_met (T : Top K mg) {tf te : TE} {Q : PyData → Prop} (i : RdI) (h1 : wpE K W0 tf Γ fun d => d = rfD (rdF T i)) (h2 : wpE K W0 te Γ fun d => d = .str (rdT i)) (q : Q (rdO i)) : wpE K W0 (tCall (spFx K (preM T) postM) [] E (tCons tf (tCons te tNil))) Γ Q :=
  wpE_callX (wpA_cons (h1.imp fun d e => wpA_cons (h2.imp fun d' e' => wpA_nil ⟨i, by rw [e, e']; rfl, fun r hr => by
    have hr : r = .d (rdO i) := hr
    rw [hr]
    exact q⟩)))
end

/-! ### terms that can be read; stacks on the way -/
inductive TmW : PyData → Prop
  | nm {s : Str} : isName s = true → Tx 6000000 s → TmW (.str s)
  | mk {m : Str} {ts : List PyData} : isName m = true → Tx 6000000 m → (∀ t ∈ ts, TmW t) → TmW (.tuple (.str m :: ts))
def NmS (d : PyData) : Prop := ∃ s, d = .str s ∧ isName s = true ∧ Tx 6000000 s
theorem NmS.tm {d : PyData} (h : NmS d) : TmW d := by
  obtain ⟨s, rfl, h1, h2⟩ := h
  exact .nm h1 h2
/-- a row of a stack, the lowest or not -/
def Rwk : Nat → List PyData → Prop
  | 0, q => ∀ t ∈ q, TmW t
  | _ + 1, q => ∃ m ts, q = m :: ts ∧ NmS m ∧ ∀ t ∈ ts, TmW t
def Stk (k : Nat) : List (List PyData) → Prop
  | [] => True
  | q :: x => Rwk k q ∧ Stk (k + 1) x
theorem Stk.app : ∀ {x : List (List PyData)} {k : Nat} {q : List PyData}, Stk k (x ++ [q]) ↔ Stk k x ∧ Rwk (k + x.length) q
  | [], k, q => by simp [Stk]
  | p :: x, k, q => by
    rw [List.cons_append, Stk, Stk, Stk.app, List.length_cons, and_assoc, show k + 1 + x.length = k + (x.length + 1) by omega]
/-- a stack of the reader: an empty row may stand on top -/
def Gw (x : List (List PyData)) : Prop := x ≠ [] ∧ (Stk 0 x ∨ ∃ ps, x = ps ++ [[]] ∧ ps ≠ [] ∧ Stk 0 ps)
theorem Rwk.snoc {k : Nat} {q : List PyData} {t : PyData} (h : Rwk k q) (g : TmW t) : Rwk k (q ++ [t]) := by
  cases k with
  | zero =>
    intro u hu
    rcases List.mem_append.mp hu with hu | hu
    · exact h u hu
    · rw [List.mem_singleton.mp hu]
      exact g
  | succ k =>
    obtain ⟨m, ts, rfl, hm, ht⟩ := h
    refine ⟨m, ts ++ [t], rfl, hm, fun u hu => ?_⟩
    rcases List.mem_append.mp hu with hu | hu
    · exact ht u hu
    · rw [List.mem_singleton.mp hu]
      exact g
theorem Rwk.tup {k : Nat} {q : List PyData} (h : Rwk (k + 1) q) : TmW (.tuple q) := by
  obtain ⟨m, ts, rfl, ⟨s, rfl, h1, h2⟩, ht⟩ := h
  exact .mk h1 h2 ht
theorem Stk.beg {x : List (List PyData)} (hx : x ≠ []) (h : Stk 0 x) : beg x = false := by
  obtain ⟨ps, q, rfl⟩ := last_split (l := x) (fun z => hx (List.length_eq_zero_iff.mp z))
  rw [beg_last]
  cases ps with
  | nil => rfl
  | cons p ps =>
    rw [Stk.app] at h
    have h2 : Rwk ((ps.length) + 1) q := by
      have := h.2
      rw [List.length_cons, Nat.zero_add] at this
      exact this
    obtain ⟨m, ts, rfl, _⟩ := h2
    simp
theorem beg_new {ps : List (List PyData)} (h : ps ≠ []) : beg (ps ++ [[]]) = true := by
  rw [beg_last]
  cases ps with
  | nil => exact absurd rfl h
  | cons a b => rfl
theorem not_tw {s : Str} (h : isTw (.str s)) : Tx 6000000 s := by
  obtain ⟨x, e, h⟩ := h
  cases e
  exact h
/-- what a word does -/
theorem Gw.step {x y : List (List PyData)} {d : PyData} (hd : isTw d) (h : Gw x) (e : stepW x d = some y) : Gw y := by
  obtain ⟨s, rfl, hs⟩ := hd
  obtain ⟨ps, q, rfl⟩ := last_split (l := x) (fun z => h.1 (List.length_eq_zero_iff.mp z))
  by_cases hn : isName s = true
  · rw [step_name hn] at e
    cases e
    refine ⟨by simp, .inl ?_⟩
    rcases h.2 with h | ⟨ps', h1, h2, h3⟩
    · rw [Stk.app] at h ⊢
      exact ⟨h.1, h.2.snoc (.nm hn hs)⟩
    · obtain ⟨rfl, rfl⟩ := List.append_inj' h1 rfl |>.imp id fun z => List.cons.inj z |>.1
      rw [Stk.app]
      refine ⟨h3, ?_⟩
      cases ps with
      | nil => exact absurd rfl h2
      | cons a b => exact ⟨_, [], rfl, ⟨s, rfl, hn, hs⟩, fun _ z => nomatch z⟩
  have hn' : isName s = false := by simpa using hn
  by_cases h2 : s = lpS ∧ beg (ps ++ [q]) = false
  · obtain ⟨rfl, hb⟩ := h2
    rw [step_lp hb] at e
    cases e
    refine ⟨by simp, .inr ⟨_, rfl, h.1, ?_⟩⟩
    rcases h.2 with h | ⟨ps', h1, h2, h3⟩
    · exact h
    · rw [h1, beg_new h2] at hb
      cases hb
  by_cases h3 : s = rpS ∧ 1 < (ps ++ [q]).length ∧ beg (ps ++ [q]) = false
  · obtain ⟨rfl, hl, hb⟩ := h3
    obtain ⟨ps, p', rfl⟩ := last_split (l := ps) (fun z => by rw [List.length_append, List.length_singleton] at hl; omega)
    rcases h.2 with h | ⟨ps', h1, h2, h3⟩
    · rw [Stk.app, Stk.app] at h
      have hq : Rwk (ps.length + 1) q := by
        have := h.2
        rw [List.length_append, List.length_singleton, Nat.zero_add] at this
        exact this
      have hqn : q ≠ [] := by
        obtain ⟨m, ts, rfl, _⟩ := hq
        simp
      rw [step_rp hqn] at e
      cases e
      refine ⟨by simp, .inl ?_⟩
      rw [Stk.app]
      exact ⟨h.1.1, h.1.2.snoc hq.tup⟩
    · rw [h1, beg_new h2] at hb
      cases hb
  · rw [step_bad hn' h2 h3] at e
    cases e
theorem Gw.run : ∀ {ws : List PyData} {x y : List (List PyData)}, (∀ d ∈ ws, isTw d) → Gw x → runW x ws = some y → Gw y
  | [], x, y, _, h, e => by
    cases e
    exact h
  | w :: ws, x, y, hw, h, e => by
    rw [runW] at e
    split at e
    · rename_i z hz
      exact Gw.run (fun d hd => hw d (List.mem_cons_of_mem _ hd)) (h.step (hw w List.mem_cons_self) hz) e
    · cases e
theorem gw0 : Gw [[]] := ⟨by simp, .inl ⟨fun t h => (nomatch h), trivial⟩⟩
/-! how deep a stack must become -/
def hk (k : Nat) (q : List PyData) : Nat := if k = 0 then hgtL q else hgtL q.tail
def Dr (k : Nat) : List (List PyData) → Nat
  | [] => 0
  | q :: x => max (k + hk k q) (Dr (k + 1) x)
theorem Dr_app : ∀ (x : List (List PyData)) (k : Nat) (q : List PyData), Dr k (x ++ [q]) = max (Dr k x) (k + x.length + hk (k + x.length) q)
  | [], k, q => by simp [Dr]
  | p :: x, k, q => by
    rw [List.cons_append, Dr, Dr, Dr_app x (k + 1) q, List.length_cons, show k + 1 + x.length = k + (x.length + 1) by omega]
    omega
theorem hk_snoc (k : Nat) (q : List PyData) (t : PyData) : hk k q ≤ hk k (q ++ [t]) := by
  unfold hk
  split
  · rw [hgtL_app]
    omega
  · cases q with
    | nil => simp [hgtL]
    | cons a b =>
      rw [List.cons_append, List.tail_cons, List.tail_cons, hgtL_app]
      omega
theorem hk_tup {k : Nat} {p q : List PyData} (hp : Rwk k p) (hq : q ≠ []) : 1 + hk (k + 1) q ≤ hk k (p ++ [.tuple q]) := by
  have e : hk (k + 1) q = hgt (.tuple q) := by
    cases q with
    | nil => exact absurd rfl hq
    | cons a b => rfl
  have e2 : hgtL [PyData.tuple q] = hgt (.tuple q) + 1 := by simp [hgtL]
  rw [e]
  unfold hk
  split
  · rw [hgtL_app, e2]
    omega
  · rename_i hk0
    obtain ⟨k', rfl⟩ : ∃ k', k = k' + 1 := ⟨k - 1, by omega⟩
    obtain ⟨m, ts, rfl, _⟩ := hp
    rw [List.cons_append, List.tail_cons, hgtL_app, e2]
    omega
theorem Dr.step {x y : List (List PyData)} {d : PyData} (hd : isTw d) (h : Gw x) (e : stepW x d = some y) : Dr 0 x ≤ Dr 0 y := by
  obtain ⟨s, rfl, hs⟩ := hd
  obtain ⟨ps, q, rfl⟩ := last_split (l := x) (fun z => h.1 (List.length_eq_zero_iff.mp z))
  by_cases hn : isName s = true
  · rw [step_name hn] at e
    cases e
    rw [Dr_app, Dr_app]
    have := hk_snoc (0 + ps.length) q (.str s)
    omega
  have hn' : isName s = false := by simpa using hn
  by_cases h2 : s = lpS ∧ beg (ps ++ [q]) = false
  · obtain ⟨rfl, hb⟩ := h2
    rw [step_lp hb] at e
    cases e
    rw [Dr_app (ps ++ [q])]
    omega
  by_cases h3 : s = rpS ∧ 1 < (ps ++ [q]).length ∧ beg (ps ++ [q]) = false
  · obtain ⟨rfl, hl, hb⟩ := h3
    obtain ⟨ps, p', rfl⟩ := last_split (l := ps) (fun z => by rw [List.length_append, List.length_singleton] at hl; omega)
    rcases h.2 with h | ⟨ps', h1, h2, h3⟩
    · rw [Stk.app, Stk.app] at h
      have hqn : q ≠ [] := by
        have hq : Rwk (ps.length + 1) q := by
          have := h.2
          rw [List.length_append, List.length_singleton, Nat.zero_add] at this
          exact this
        obtain ⟨m, ts, rfl, _⟩ := hq
        simp
      rw [step_rp hqn] at e
      cases e
      rw [Dr_app, Dr_app, Dr_app, List.length_append, List.length_singleton]
      have h1 := hk_snoc (0 + ps.length) p' (.tuple q)
      have h2 := hk_tup (q := q) h.1.2 hqn
      rw [show 0 + (ps.length + 1) = 0 + ps.length + 1 by omega]
      omega
    · rw [h1, beg_new h2] at hb
      cases hb
  · rw [step_bad hn' h2 h3] at e
    cases e
theorem Dr.run : ∀ {ws : List PyData} {x y : List (List PyData)}, (∀ d ∈ ws, isTw d) → Gw x → runW x ws = some y → Dr 0 x ≤ Dr 0 y
  | [], x, y, _, h, e => by
    cases e
    exact Nat.le_refl _
  | w :: ws, x, y, hw, h, e => by
    rw [runW] at e
    split at e
    · rename_i z hz
      exact Nat.le_trans (Dr.step (hw w List.mem_cons_self) h hz) (Dr.run (fun d hd => hw d (List.mem_cons_of_mem _ hd)) (h.step (hw w List.mem_cons_self) hz) e)
    · cases e
theorem hgtL_le : ∀ {ts : List PyData} {n : Nat}, (∀ t ∈ ts, hgt t ≤ n) → hgtL ts ≤ n + 1
  | [], n, _ => by simp [hgtL]
  | t :: ts, n, h => by
    have := hgtL_le (ts := ts) fun u hu => h u (List.mem_cons_of_mem _ hu)
    have := h t List.mem_cons_self
    rw [hgtL]
    omega
/-- a stack of more than 32 rows comes to nothing -/
theorem deep_none {ws vs : List PyData} {x : List (List PyData)} (hw : ∀ d ∈ vs, isTw d) (h : Gw x) (hl : 33 ≤ x.length) (e : runW x vs = runW [[]] ws) : tF ws = .none := by
  unfold tF
  rw [← e]
  cases q : runW x vs with
  | none => rfl
  | some y =>
    have h1 := Dr.run hw h q
    obtain ⟨ps, r, rfl⟩ := last_split (l := x) (by omega)
    rw [Dr_app] at h1
    rw [List.length_append, List.length_singleton] at hl
    match y, h1 with
    | [], _ => rfl
    | _ :: _ :: _, _ => rfl
    | [ts], h1 =>
      show (if ts.all (fun t => decide (hgt t ≤ 30)) = true then PyData.tuple ts else .none) = .none
      rw [if_neg]
      intro z
      have h2 : hgtL ts ≤ 31 := hgtL_le (n := 30) fun t ht => of_decide_eq_true (List.all_eq_true.mp z t ht)
      have h3 : Dr 0 [ts] = hgtL ts := by simp [Dr, hk]
      omega
/-! what such terms are -/
theorem TmW.trm : ∀ {d : PyData}, TmW d → trm d = true
  | _, .nm _ _ => by simp [My.trm]
  | _, .mk (ts := ts) h1 h2 ht => by
    have : trmL ts = true := by
      have key : ∀ us : List PyData, (∀ t ∈ us, My.trm t = true) → trmL us = true := fun us => by
        induction us with
        | nil => simp [trmL]
        | cons u us ih =>
          intro h
          rw [trmL, h u List.mem_cons_self, ih fun t ht => h t (List.mem_cons_of_mem _ ht)]
          rfl
      exact key ts fun t h => (ht t h).trm
    simp [My.trm, trmL, this]
theorem hgt_mk (m : PyData) (ts : List PyData) : hgt (.tuple (m :: ts)) = hgtL ts := by simp [hgt, hgtT]
theorem hgt_mem : ∀ {ts : List PyData} {t : PyData}, t ∈ ts → hgt t + 1 ≤ hgtL ts
  | u :: ts, t, h => by
    rw [hgtL]
    rcases List.mem_cons.mp h with rfl | h
    · omega
    · have := hgt_mem h
      omega

/-! ### the law's own reading -/
theorem isName_w {x : Str} (h : x ∈ ([("if" : Str), "to", "lefts"] : List Str)) : isName x = false := by
  unfold isName
  rw [if_pos]
  rw [decide_eq_true h, Bool.or_true]
theorem isName_l {x : Str} (h : ¬ (1 ≤ x.length ∧ x.length ≤ 8)) : isName x = false := by
  unfold isName
  rw [if_pos]
  have : (decide (1 ≤ (x.length : Int)) && decide ((x.length : Int) ≤ 8)) = false := by
    by_cases h1 : 1 ≤ x.length
    · have : ¬ ((x.length : Int) ≤ 8) := by omega
      simp [this]
    · have : ¬ (1 ≤ (x.length : Int)) := by omega
      simp [this]
  rw [this]
  rfl
theorem isName_a {x : Str} (h : x ∉ ([("if" : Str), "to", "lefts"] : List Str)) (h1 : 1 ≤ x.length ∧ x.length ≤ 8) : isName x = (x.cps.toList.map fun c => decide (c ∈ (Str.ofString "abcdefghijklmnopqrstuvwxyz").cps.toList)).all id := by
  unfold isName
  rw [if_neg]
  have e1 : decide (1 ≤ (x.length : Int)) = true := decide_eq_true (by omega)
  have e2 : decide ((x.length : Int) ≤ 8) = true := decide_eq_true (by omega)
  rw [e1, e2, decide_eq_false h]
  decide
def notAz (d : PyData) : Bool := match d with
  | .str y => !decide (y.cps.getD 0 0 ∈ (Str.ofString "abcdefghijklmnopqrstuvwxyz").cps.toList)
  | _ => false
theorem ok_l_is_name (T : Top K mg) : FnOk P w K mg base CX0 1 T.x_l_is_name.f T.x_l_is_name.fd P_l_is_name (spF K preS postN) := by
  have nd := sc_l_is_name.nd
  refine fn_ok T.x_l_is_name.F sc_l_is_name (fun ds h => ?_) (fun cdv A outer s H E hr => ⟨_, (pss_cons (ps_if (PW.pt (pw_or (pt_cmpR (in_K (K := K) rfl) (pv 0) (pe_tup (pa_cons pe_str (pa_cons pe_str (pa_cons pe_str pa_nil)))) (by rfl)) (pw_or1 (pt_not (pt_chain op_lt op_lt pe_int (pe_callB (len_K (K := K) rfl) (by rfl) T.b_len (by decide +kernel) (pa_cons (pv 0) pa_nil)) pe_int))))) (pss_one (ps_ret pe_bl)) pss_nil)
    (pss_one (ps_ret (pe_cmpR (eq_K (K := K) rfl (hu64 hr)) (pe_lc (own := [("_law_sign_here", 1)]) (by rfl) nd (pi_str (pv 0)) (blkOk_by (by with_unfolding_all rfl)) (fun _ _ _ _ _ => (pg_name (i := 1) nd rfl (by first | exact Or.inl rfl | exact Or.inr rfl))) (fun _ _ _ _ _ => (pts_one (pt_cmpR (nin_K (K := K) rfl) (pv 1) pe_str (by rfl)))) (fun _ _ _ _ _ => (pv 1))) (pe_lst pa_nil) (nomark _))))), fun W0 ds hp => ?_⟩)
  · obtain ⟨x, rfl, _⟩ := h
    rfl
  obtain ⟨x, rfl, hT⟩ := hp
  have hx := hT.1
  have hz : x.length ≤ sizeLine := by rw [sizeLine_eq]; omega
  simp only [cx_K, cx_K2, startG, List.map, List.length, List.replicate, List.append, List.cons_append, List.nil_append]
  have fin : ∀ {Γ : Gm} {A : AE}, isName x = false → A.rt (.d (.bool false)) → go K W0 (tRet (tC (.bl false))) Γ A := fun _ h => go_ret (wpE_bl h)
  refine go_seq (go_if (wpT_or (wpT_test (wpE_op (wpE_var rfl (wpE_tup (wpA_cons (wpE_str (wpA_cons (wpE_str (wpA_cons (wpE_str (wpA_nil ⟨Nat.le_of_ble_eq_true rfl, opR_inT (xs := ["if", "to", "lefts"]) ⟨_, rfl, fun hb => ⟨fun _ => ?_, (fun z => nomatch (show true = false from z))⟩, fun hb => ?_⟩⟩)))))))))))))
  · have := isName_w (of_decide_eq_true hb)
    exact go_ret (wpE_bl ⟨x, rfl, by rw [this]⟩)
  have hw := of_decide_eq_false hb
  refine wpT_not (wpT_test (wpE_chain (wpE_int (wpE_CB (wpA_cons (wpE_var rfl (wpA_nil (opC_lenS hz (opR_I0B ⟨_, rfl, fun hb1 => wpE_int (opR_I0B ⟨_, rfl, ?_⟩), fun hb1 => ⟨false, rfl, fun _ => ?_, (fun z => nomatch (show true = false from z))⟩⟩)))))))))
  · refine ⟨fun e => ?_, fun e => go_next ?_⟩
    · have h8 : ¬ (x.length : Int) < 9 := fun z => by
        rw [decide_eq_true z] at e
        cases e
      have := isName_l (x := x) (by omega)
      exact go_ret (wpE_bl ⟨x, rfl, by rw [this]⟩)
    have h8 : (x.length : Int) < 9 := by
      by_cases z : (x.length : Int) < 9
      · exact z
      · rw [decide_eq_false z] at e
        cases e
    have h1 := of_decide_eq_true hb1
    have hN := isName_a hw (by omega)
    refine go_ret (wpE_op (wpE_of_N (wpN_filter notAz id (wpIc_of (wpI_str (wpE_var rfl ⟨x, rfl, ?_, fun d hd => ?_, ?_⟩))))))
    · have e : (signsD x).length = x.length := by simp [signsD, Str.length]
      omega
    · obtain ⟨c, _, rfl⟩ := mem_signs hd
      exact wpG_name (by decide) (wpT_test (wpE_op (wpE_var rfl (wpE_str (opR_ninS ⟨_, rfl, rfl, fun _ => wpE_var rfl rfl⟩)))))
    · rw [List.map_id]
      refine wpE_of_N (wpN_lst (wpA_nil ⟨Nat.zero_le _, opR_eqNil (fun d hd => ?_) ⟨x, rfl, ?_⟩⟩))
      · obtain ⟨c, hc, rfl⟩ := mem_signs ((List.mem_filter.mp hd).1)
        exact ⟨(Tx.one (hT.2 c hc)).ok, Nat.zero_le _⟩
      · rw [hN]
        congr 2
        rw [Bool.eq_iff_iff, List.isEmpty_iff, List.filter_eq_nil_iff, List.all_map, List.all_eq_true]
        unfold signsD
        constructor
        · intro h c hc
          have := h _ (List.mem_map.mpr ⟨c, hc, rfl⟩)
          simpa [notAz] using this
        · intro h d hd
          obtain ⟨c, hc, rfl⟩ := List.mem_map.mp hd
          have := h c hc
          simpa [notAz] using this
  · have := of_decide_eq_false hb1
    have := isName_l (x := x) (by omega)
    exact go_ret (wpE_bl ⟨x, rfl, by rw [this]⟩)
/-! how deep -/
theorem foldl_hgt : ∀ (ts : List PyData) (a : Nat), ((ts.map fun t => (1 : Int) + (hgt t : Nat)).foldl max (a : Int)) = ((max a (hgtL ts) : Nat) : Int)
  | [], a => by simp [hgtL]
  | t :: ts, a => by
    rw [List.map_cons, List.foldl_cons]
    have e : max (a : Int) (1 + (hgt t : Nat)) = ((max a (hgt t + 1) : Nat) : Int) := by omega
    rw [e, foldl_hgt ts, hgtL]
    congr 1
    omega
theorem maxI_hgt (ts : List PyData) : maxI 0 (ts.map fun t => (1 : Int) + (hgt t : Nat)) = ((hgtL ts : Nat) : Int) := by
  cases ts with
  | nil => simp [maxI, hgtL]
  | cons t ts =>
    rw [List.map_cons]
    show (ts.map fun t => (1 : Int) + (hgt t : Nat)).foldl max ((1 : Int) + (hgt t : Nat)) = _
    have e : (1 : Int) + (hgt t : Nat) = ((hgt t + 1 : Nat) : Int) := by omega
    rw [e, foldl_hgt ts, hgtL]
def preFar (n : Nat) (ds : List PyData) : Prop := ∃ d, ds = [d] ∧ TmW d ∧ hgt d < n ∧ nod d ≤ 9000000
theorem ok_far (T : Top K mg) : ∀ n, FnOk P w K mg base CX0 (n + 1) T.x_far.f T.x_far.fd P_far (spF K (preFar n) postDeep)
  | 0 => fn_none fun ds h => by
    obtain ⟨_, _, _, h, _⟩ := h
    omega
  | n + 1 => by
    have nd := sc_far.nd
    have G_far := ok_far T n
    refine fn_ok T.x_far.F sc_far (fun ds h => ?_) (fun cdv A outer s H E hr => ⟨_, (pss_cons (ps_if (pt_val (pe_callB (isi_K (K := K) rfl) (by rfl) T.b_isinstance (by decide +kernel) (pa_cons (pv 0) (pa_cons (pe_bltn (v := .ty "str") (by rfl) T.b_str (by decide +kernel) rfl) pa_nil)))) (pss_one (ps_ret pe_int)) pss_nil)
    (pss_one (ps_ret (pe_callBK (maxDf_K (K := K) rfl (hu64 hr) rfl) (by rfl) T.b_max (by decide +kernel) (pa_cons (pe_lc (own := [("_law_part", 1)]) (by rfl) nd (it_K (K := K) rfl (pe_slice (sl_K (K := K) rfl) (pv 0) (po_some pe_int) po_none)) (blkOk_by (by with_unfolding_all rfl)) (fun _ _ _ _ _ => (pg_name (i := 1) nd rfl (by first | exact Or.inl rfl | exact Or.inr rfl))) (fun _ _ _ _ _ => pts_nil) (fun _ _ _ _ _ => (pe_op (add_K (K := K) rfl) pe_int (pe_call G_far (hr.mono (by first | decide | omega)) (by rfl) T.x_far.m T.x_far.F.kp T.x_far.b .nil pass0 (pa_cons (pv 1) pa_nil))))) pa_nil) (pk_cons pe_int pk_nil))))), fun W0 ds hp => ?_⟩)
    · obtain ⟨_, rfl, _⟩ := h
      rfl
    obtain ⟨d, rfl, hT, hh, hN⟩ := hp
    simp only [cx_K, cx_K2, startG, List.map, List.length, List.replicate, List.append, List.cons_append, List.nil_append]
    cases hT with
    | nm h1 h2 =>
      repeat' (walk_at "g")
      exact ⟨_, rfl, rfl⟩
    | @mk m ts h1 h2 ht =>
      rw [hgt_mk] at hh
      have hl : nodL ts ≤ 9000000 := by
        have := nod_inn (.tuple (.str m :: ts))
        have e : inn (.tuple (.str m :: ts)) = ts := rfl
        rw [e] at this
        omega
      refine go_seq (go_if (wpT_B (wpE_isi (wpE_var rfl ⟨false, by show kitB "tuple" "str" = some false; decide +kernel, _, rfl, (fun z => nomatch (show false = true from z)), fun _ => go_next ?_⟩))))
      refine go_ret (wpE_maxDf (wpL_of_N (wpN_map (fun t => .int (1 + (hgt t : Nat))) (wpIc_of (wpI_tup ?_)))))
      refine wpE_tail rfl ⟨ts, rfl, by have := nodL_len ts; omega, fun t hm => ?_, ts.map fun t => (1 : Int) + (hgt t : Nat), by rw [List.map_map]; rfl, _, rfl, ?_⟩
      · refine wpG_name (by decide) (wpE_op (wpE_int (wpE_call (wpA_cons (wpE_var rfl (wpA_nil ⟨⟨t, rfl, ht t hm, by have := hgt_mem hm; omega, by have := nod_mem hm; omega⟩, ?_⟩))))))
        rintro r ⟨d, e, rfl⟩
        cases e
        exact add_int rfl
      · rw [maxI_hgt, hgt_mk]

/-! ### the law's terms -/
def ltF (ws : List PyData) : PyData := match tF ws with
  | .tuple ts => .list ts
  | _ => .none
def postLt (ds : List PyData) (r : Rs) : Prop := ∃ ws, ds = [.list ws] ∧ r = .d (ltF ws)
def eff (x : List (List PyData)) (b : Bool) : List (List PyData) := if b = true then x ++ [[]] else x
structure Lw (x : List (List PyData)) (b : Bool) : Prop where
  ne : x ≠ []
  stk : Stk 0 x
  len : x.length + (if b = true then 1 else 0) ≤ 41
  hg : ∀ j q, x[j]? = some q → ∀ t ∈ q, hgt t + j ≤ 40
theorem Lw.gw {x : List (List PyData)} {b : Bool} (h : Lw x b) : Gw (eff x b) := by
  unfold eff
  cases b with
  | true => exact ⟨by simp, .inr ⟨x, rfl, h.ne, h.stk⟩⟩
  | false => exact ⟨h.ne, .inl h.stk⟩
theorem rows_tm : ∀ {x : List (List PyData)} {k : Nat}, Stk k x → ∀ q ∈ x, ∀ t ∈ q, TmW t
  | p :: x, k, h, q, hq, t, ht => by
    rcases List.mem_cons.mp hq with rfl | hq
    · cases k with
      | zero => exact h.1 t ht
      | succ k =>
        obtain ⟨m, ts, rfl, hm, h2⟩ := h.1
        rcases List.mem_cons.mp ht with rfl | ht
        · exact hm.tm
        · exact h2 t ht
    · exact rows_tm h.2 q hq t ht
theorem maxI_gt : ∀ (ns : List Int), maxI 0 ns > 30 ↔ ∃ n ∈ ns, n > 30
  | [] => by simp [maxI]
  | n :: ns => by
    show ns.foldl max n > 30 ↔ _
    have key : ∀ (ms : List Int) (a : Int), ms.foldl max a > 30 ↔ a > 30 ∨ ∃ m ∈ ms, m > 30 := fun ms => by
      induction ms with
      | nil => intro a; simp
      | cons m ms ih =>
        intro a
        rw [List.foldl_cons, ih]
        have : max a m > 30 ↔ a > 30 ∨ m > 30 := by omega
        rw [this]
        simp [or_assoc]
    rw [key]
    simp
theorem ok_terms (T : Top K mg) : FnOk P w K mg base CX0 46 T.x_terms.f T.x_terms.fd P_terms (spF K preTi postLt) := by
  have nd := sc_terms.nd
  have G_l_is_name := ok_l_is_name (P := P) (w := w) (base := base) T
  have G_far : FnOk P w K mg base CX0 45 T.x_far.f T.x_far.fd P_far (spF K (preFar 44) postDeep) := ok_far T 44
  refine fn_ok T.x_terms.F sc_terms (fun ds h => ?_) (fun cdv A outer s H E hr => ⟨_, (pss_cons (ps_par (i := 1) (j := 2) (by rfl) nd rfl rfl (by decide) rfl rfl (pa_cons (pe_lst (pa_cons (pe_lst pa_nil) pa_nil)) (pa_cons pe_bl pa_nil)) (by rfl))
    (pss_cons (ps_for PassesOwn.never rfl (il_K (K := K) rfl (pv 0)) (pg_name (i := 3) nd rfl (by first | exact Or.inl rfl | exact Or.inr rfl))
      (pss_one (ps_if (PW.pt (pw_and (pt_val (pv 2)) (pw_and1 (pt_val (pe_call G_l_is_name (hr.mono (by first | decide | omega)) (by rfl) T.x_l_is_name.m T.x_l_is_name.F.kp T.x_l_is_name.b .nil pass0 (pa_cons (pv 3) pa_nil)))))) (pss_cons (ps_expr (ap_K (K := K) rfl (pv 1) (pe_lst (pa_cons (pv 3) pa_nil))))
    (pss_one (ps_set (i := 2) nd rfl (by first | exact Or.inl rfl | exact Or.inr rfl) pe_bl))) (pss_one (ps_if (PW.pt (pw_or (pt_val (pv 2)) (pw_or1 (pt_cmpR op_gt (pe_callB (len_K (K := K) rfl) (by rfl) T.b_len (by decide +kernel) (pa_cons (pv 1) pa_nil)) pe_int (nomark _))))) (pss_one (ps_ret pe_non)) (pss_one (ps_if (pt_cmpR (eq_K (K := K) rfl (hu64 hr)) (pv 3) pe_str (nomark _)) (pss_one (ps_set (i := 2) nd rfl (by first | exact Or.inl rfl | exact Or.inr rfl) pe_bl)) (pss_one (ps_if (PW.pt (pw_and (pt_cmpR (eq_K (K := K) rfl (hu64 hr)) (pv 3) pe_str (nomark _)) (pw_and1 (pt_cmpR op_gt (pe_callB (len_K (K := K) rfl) (by rfl) T.b_len (by decide +kernel) (pa_cons (pv 1) pa_nil)) pe_int (nomark _))))) (pss_cons (ps_set (i := 4) nd rfl (by first | exact Or.inl rfl | exact Or.inr rfl) (pe_callTy (tof_K (K := K) rfl) (by rfl) T.b_tuple (by decide +kernel) (pa_cons (pop_K (K := K) rfl (pv 1)) pa_nil)))
    (pss_one (ps_expr (ap_K (K := K) rfl (pe_ix (ix_K (K := K) rfl) (pv 1) (pe_un un_neg pe_int) (fun _ _ => rfl)) (pv 4))))) (pss_one (ps_if (pt_val (pe_call G_l_is_name (hr.mono (by first | decide | omega)) (by rfl) T.x_l_is_name.m T.x_l_is_name.F.kp T.x_l_is_name.b .nil pass0 (pa_cons (pv 3) pa_nil))) (pss_one (ps_expr (ap_K (K := K) rfl (pe_ix (ix_K (K := K) rfl) (pv 1) (pe_un un_neg pe_int) (fun _ _ => rfl)) (pv 3)))) (pss_one (ps_ret pe_non)))))))))))))
    (pss_cons (ps_if (PW.pt (pw_or (pt_val (pv 2)) (pw_or (pt_cmpR op_gt (pe_callB (len_K (K := K) rfl) (by rfl) T.b_len (by decide +kernel) (pa_cons (pv 1) pa_nil)) pe_int (nomark _)) (pw_or1 (pt_cmpR op_gt (pe_callBK (maxDf_K (K := K) rfl (hu64 hr) rfl) (by rfl) T.b_max (by decide +kernel) (pa_cons (pe_lc (own := [("_law_term", 5)]) (by rfl) nd (il_K (K := K) rfl (pe_ix (ix_K (K := K) rfl) (pv 1) pe_int (fun _ _ => rfl))) (blkOk_by (by with_unfolding_all rfl)) (fun _ _ _ _ _ => (pg_name (i := 5) nd rfl (by first | exact Or.inl rfl | exact Or.inr rfl))) (fun _ _ _ _ _ => pts_nil) (fun _ _ _ _ _ => (pe_call G_far (hr.mono (by first | decide | omega)) (by rfl) T.x_far.m T.x_far.F.kp T.x_far.b .nil pass0 (pa_cons (pv 5) pa_nil)))) pa_nil) (pk_cons pe_int pk_nil)) pe_int (nomark _)))))) (pss_one (ps_ret pe_non)) pss_nil)
    (pss_one (ps_ret (pe_ix (ix_K (K := K) rfl) (pv 1) pe_int (fun _ _ => rfl))))))), fun W0 ds hp => ?_⟩)
  · obtain ⟨_, rfl, _⟩ := h
    rfl
  obtain ⟨ws, rfl, hw, hz⟩ := hp
  have htl : Tx 30 lpS := Tx.of (by decide +kernel)
  have htr : Tx 30 rpS := Tx.of (by decide +kernel)
  simp only [cx_K, cx_K2, startG, List.map, List.length, List.replicate, List.append, List.cons_append, List.nil_append]
  have nm : ∀ {W0 : Wd} {Γ : Gm} {s : Str} {Q : PyData → Prop}, Γ[3]? = some (.d (.str s)) → isTw (.str s) → Q (.bool (isName s)) → wpE K W0 (tCall (spF K preS postN) [] E0 (tCons (tVar 3) tNil)) Γ Q := by
    intro W0 Γ s Q h1 h2 q
    refine wpE_call (wpA_cons (wpE_var h1 (wpA_nil ⟨⟨s, rfl, not_tw h2⟩, ?_⟩)))
    rintro r ⟨x, e, rfl⟩
    cases e
    exact q
  refine go_rowsP (d0 := .bool false) (fun _ => .bl _) (Nat.le_of_ble_eq_true rfl) (by decide) (by decide) (noOwn_of (by simp [Sl.own])) (wpI_list (wpE_var rfl ⟨_, rfl, fun i Γ' xss => ∃ (b : Bool) (x3 x4 x5 : Sl), Γ' = [.d (.list ws), .no, .d (.bool b), x3, x4, x5] ∧ Lw xss b ∧ runW (eff xss b) (ws.drop i) = runW [[]] ws ∧ sumN xss ≤ i, ⟨false, _, _, _, rfl, ⟨by simp, ⟨fun t h => (nomatch h), trivial⟩, by show 1 + 0 ≤ 41; decide, fun j q hj t ht => ?_⟩, rfl, by simp [sumN, nodL]⟩, ?_, ?_⟩))
  · cases j with
    | zero => cases hj; cases ht
    | succ j => simp at hj
  · rintro i d Γ' xss hd ⟨b, x3, x4, x5, rfl, hL, hR, hS⟩
    have hi : i < ws.length := (List.getElem?_eq_some_iff.mp hd).1
    have hwd : ∀ e ∈ ws.drop (i + 1), isTw e := fun e he => hw e (List.mem_of_mem_drop he)
    rw [drop_cons hd] at hR
    have htw := hw d (List.mem_of_getElem? hd)
    have hG := hL.gw
    obtain ⟨s, rfl, hs⟩ := htw
    have htw := hw (.str s) (List.mem_of_getElem? hd)
    have none_ : stepW (eff xss b) (.str s) = none → tF ws = .none := fun e => by
      rw [runW, e] at hR
      unfold tF
      rw [← hR]
    have bad : ∀ {Γ : Gm} {A : AE2}, tF ws = .none → (A.rt = postLt [.list ws]) → go2 K W0 (tRet (tC .non)) Γ 1 xss A := fun h hA => go2_ret (wpE_non (by rw [hA]; exact ⟨ws, rfl, by unfold ltF; rw [h]⟩))
    have hlen := hL.len
    cases b with
    | true =>
      have hl40 : xss.length ≤ 40 := by
        have : xss.length + 1 ≤ 41 := hlen
        omega
      have hR : runW (xss ++ [[]]) (.str s :: ws.drop (i + 1)) = runW [[]] ws := hR
      by_cases hn : isName s = true
      · refine go2_if (wpT_and (wpT_B (wpE_var rfl ⟨true, rfl, fun _ => wpT_B (nm rfl htw ⟨isName s, rfl, fun _ => ?_, fun z => ?_⟩), (fun z => nomatch (show true = false from z))⟩)))
        · rw [runW, step_name hn] at hR
          refine go2_seq (go2_appNewN (wpN_lst (wpA_cons (wpE_var rfl (wpA_nil ⟨Nat.le_of_ble_eq_true rfl, by omega, ?_⟩)))))
          refine go2_asgB (by decide) (wpE_bl ⟨false, rfl, false, _, _, _, rfl, ⟨by simp, ?_, ?_, fun j q hj t ht => ?_⟩, hR, ?_⟩)
          · rw [Stk.app]
            refine ⟨hL.stk, ?_⟩
            cases hx : xss with
            | nil => exact absurd hx hL.ne
            | cons a l => exact ⟨_, [], rfl, ⟨s, rfl, hn, hs⟩, fun _ z => nomatch z⟩
          · show (xss ++ [[PyData.str s]]).length + 0 ≤ 41
            rw [List.length_append, List.length_singleton]
            omega
          · by_cases hj2 : j < xss.length
            · rw [List.getElem?_append_left hj2] at hj
              exact hL.hg j q hj t ht
            · have hj3 : j = xss.length := by
                have := (List.getElem?_eq_some_iff.mp hj).1
                rw [List.length_append, List.length_singleton] at this
                omega
              subst hj3
              rw [List.getElem?_append_right (Nat.le_refl _), Nat.sub_self] at hj
              cases hj
              rw [List.mem_singleton.mp ht]
              simp only [hgt]
              omega
          · rw [sumN_app]
            have : sumN [[PyData.str s]] = 1 := by simp [sumN, nodL, nod]
            omega
        · rw [hn] at z
          cases z
      · have hn' : isName s = false := by simpa using hn
        refine go2_if (wpT_and (wpT_B (wpE_var rfl ⟨true, rfl, fun _ => wpT_B (nm rfl htw ⟨isName s, rfl, fun z => ?_, fun _ => ?_⟩), (fun z => nomatch (show true = false from z))⟩)))
        · rw [hn'] at z
          cases z
        have hb : beg (xss ++ [[]]) = true := beg_new hL.ne
        have hno : tF ws = .none := none_ (step_bad hn' (fun z => by rw [show eff xss true = xss ++ [[]] from rfl, hb] at z; exact absurd z.2 (by decide)) fun z => by rw [show eff xss true = xss ++ [[]] from rfl, hb] at z; exact absurd z.2.2 (by decide))
        exact go2_if (wpT_or (wpT_B (wpE_var rfl ⟨true, rfl, fun _ => ⟨fun _ => bad hno rfl, (fun z => nomatch (show true = false from z))⟩, (fun z => nomatch (show true = false from z))⟩)))
    | false =>
      have hl41 : xss.length ≤ 41 := by
        have : xss.length + 0 ≤ 41 := hlen
        omega
      have hR : runW xss (.str s :: ws.drop (i + 1)) = runW [[]] ws := hR
      have hbeg : beg xss = false := Stk.beg hL.ne hL.stk
      refine go2_if (wpT_and (wpT_B (wpE_var rfl ⟨false, rfl, (fun z => nomatch (show false = true from z)), fun _ => ⟨(fun z => nomatch (show false = true from z)), fun _ => ?_⟩⟩)))
      refine go2_if (wpT_or (wpT_B (wpE_var rfl ⟨false, rfl, (fun z => nomatch (show false = true from z)), fun _ => wpT_test (wpE_op (wpE_CB (wpA_cons (wpE_var rfl (wpA_nil (opC_lenL (wpE_int (opR_I0B ⟨_, rfl, fun e => ?_, fun e => ?_⟩))))))))⟩)))
      · have := of_decide_eq_true e
        rw [List.length_map] at this
        have hdn : tF ws = .none := deep_none (fun e he => by
          rcases List.mem_cons.mp he with rfl | he
          · exact htw
          · exact hwd e he) hG (by show 33 ≤ xss.length; omega) hR
        exact bad hdn rfl
      have hl40 : xss.length ≤ 40 := by
        have := of_decide_eq_false e
        rw [List.length_map] at this
        omega
      by_cases h1 : s = lpS
      · subst h1
        refine go2_if (wpT_test (wpE_op (wpE_var rfl (wpE_str (eq_strC true hs.sh htl.sh (by rw [eqv_str]; exact decide_eq_true rfl) ⟨_, rfl, fun _ => ?_, (fun z => nomatch (show true = false from z))⟩)))))
        rw [runW, step_lp hbeg] at hR
        exact go2_asgB (by decide) (wpE_bl ⟨true, rfl, true, _, _, _, rfl, ⟨hL.ne, hL.stk, by show xss.length + 1 ≤ 41; omega, hL.hg⟩, hR, by omega⟩)
      refine go2_if (wpT_test (wpE_op (wpE_var rfl (wpE_str (eq_strC false hs.sh htl.sh (by rw [eqv_str]; exact decide_eq_false h1) ⟨_, rfl, (fun z => nomatch (show false = true from z)), fun _ => ?_⟩)))))
      refine go2_if (wpT_imp (P := fun b => b = (decide (s = rpS) && decide (1 < xss.length))) ?_ fun b hb => ⟨fun e => ?_, fun e => ?_⟩)
      · refine wpT_and (wpT_test (wpE_op (wpE_var rfl (wpE_str (eq_strC (decide (s = rpS)) hs.sh htr.sh (eqv_str _ _) ⟨_, rfl, fun h => ?_, fun h => by rw [h]; rfl⟩)))))
        rw [h, Bool.true_and]
        refine wpT_test (wpE_op (wpE_CB (wpA_cons (wpE_var rfl (wpA_nil (opC_lenL (wpE_int (opR_I0B ⟨_, rfl, ?_⟩))))))))
        rw [Bool.eq_iff_iff, decide_eq_true_eq, decide_eq_true_eq, List.length_map]
        omega
      · rw [hb] at e
        simp only [Bool.and_eq_true, decide_eq_true_eq] at e
        obtain ⟨rfl, hgt1⟩ := e
        obtain ⟨ps, q, rfl⟩ := last_split (l := xss) (fun z => hL.ne (List.length_eq_zero_iff.mp z))
        obtain ⟨ps, p', rfl⟩ := last_split (l := ps) (fun z => by rw [List.length_append, List.length_singleton] at hgt1; omega)
        have hst := hL.stk
        rw [Stk.app, Stk.app] at hst
        have hq : Rwk (ps.length + 1) q := by
          have := hst.2
          rw [List.length_append, List.length_singleton, Nat.zero_add] at this
          exact this
        have hqn : q ≠ [] := by
          obtain ⟨m, ts, rfl, _⟩ := hq
          simp
        rw [runW, step_rp hqn] at hR
        have hpl : p'.length ≤ i := by
          have := sumN_mem (x := ps ++ [p'] ++ [q]) (q := p') (by simp)
          have := nodL_len p'
          omega
        refine go2_seq (go2_pop (by decide) (go2_appLast (wpE_var rfl ⟨by omega, false, _, _, _, rfl, ⟨by simp, ?_, ?_, fun j r hj t ht => ?_⟩, hR, ?_⟩)))
        · rw [Stk.app]
          exact ⟨hst.1.1, hst.1.2.snoc hq.tup⟩
        · show (ps ++ [p' ++ [PyData.tuple q]]).length + 0 ≤ 41
          rw [List.length_append, List.length_append, List.length_singleton, List.length_singleton] at hl40
          rw [List.length_append, List.length_singleton]
          omega
        · have hjl := (List.getElem?_eq_some_iff.mp hj).1
          rw [List.length_append, List.length_singleton] at hjl
          rw [List.length_append, List.length_append, List.length_singleton, List.length_singleton] at hl40
          by_cases hj2 : j < ps.length
          · rw [List.getElem?_append_left hj2] at hj
            exact hL.hg j r (by rw [List.getElem?_append_left (by rw [List.length_append]; omega), List.getElem?_append_left hj2]; exact hj) t ht
          · have hj3 : j = ps.length := by omega
            subst hj3
            rw [List.getElem?_append_right (Nat.le_refl _), Nat.sub_self] at hj
            cases hj
            rcases List.mem_append.mp ht with ht | ht
            · exact hL.hg ps.length p' (by simp) t ht
            · rw [List.mem_singleton.mp ht]
              have hin : ∀ u ∈ q, hgt u + (ps.length + 1) ≤ 40 := hL.hg (ps.length + 1) q (by simp)
              have hb : ∀ u ∈ q.tail, hgt u ≤ 39 - ps.length := fun u hu => by
                have := hin u (List.mem_of_mem_tail hu)
                omega
              have e1 : hgt (.tuple q) = hgtL q.tail := by
                cases q with
                | nil => exact absurd rfl hqn
                | cons a l => rw [hgt_mk]; rfl
              have := hgtL_le hb
              omega
        · rw [sumN_app, sumN_app] at hS
          rw [sumN_app]
          have e1 : sumN [p' ++ [.tuple q]] = sumN [p'] + (1 + sumN [q]) := by simp [sumN, nodL_app, nodL, nod]
          omega
      · have h2 : ¬ (s = rpS ∧ 1 < xss.length) := fun ⟨z1, z2⟩ => by
          rw [hb, decide_eq_true z1, decide_eq_true z2] at e
          cases e
        refine go2_if (wpT_B (nm rfl htw ⟨isName s, rfl, fun hn => by
          obtain ⟨ps, q, rfl⟩ := last_split (l := xss) (fun z => hL.ne (List.length_eq_zero_iff.mp z))
          rw [runW, step_name hn] at hR
          have hql : q.length ≤ i := by
            have := sumN_mem (x := ps ++ [q]) (q := q) (by simp)
            have := nodL_len q
            omega
          refine go2_appLast (wpE_var rfl ⟨by omega, false, _, _, _, rfl, ⟨by simp, ?_, ?_, fun j r hj t ht => ?_⟩, hR, ?_⟩)
          · have := hL.stk
            rw [Stk.app] at this ⊢
            exact ⟨this.1, this.2.snoc (.nm hn hs)⟩
          · show (ps ++ [q ++ [PyData.str s]]).length + 0 ≤ 41
            rw [List.length_append, List.length_singleton] at hl40 ⊢
            omega
          · have hjl := (List.getElem?_eq_some_iff.mp hj).1
            rw [List.length_append, List.length_singleton] at hjl hl40
            by_cases hj2 : j < ps.length
            · rw [List.getElem?_append_left hj2] at hj
              exact hL.hg j r (by rw [List.getElem?_append_left hj2]; exact hj) t ht
            · have hj3 : j = ps.length := by omega
              subst hj3
              rw [List.getElem?_append_right (Nat.le_refl _), Nat.sub_self] at hj
              cases hj
              rcases List.mem_append.mp ht with ht | ht
              · exact hL.hg ps.length q (by simp) t ht
              · rw [List.mem_singleton.mp ht]
                simp only [hgt]
                omega
          · rw [sumN_app] at hS ⊢
            have e1 : sumN [q ++ [.str s]] = sumN [q] + 1 := by simp [sumN, nodL_app, nodL, nod]
            omega, fun hn => bad (none_ (step_bad hn (fun z => h1 z.1) fun z => h2 ⟨z.1, z.2.1⟩)) rfl⟩))
  · rintro Γ' yss ⟨b, x3, x4, x5, rfl, hL, hR, hS⟩
    rw [List.drop_length] at hR
    have hR' : runW [[]] ws = some (eff yss b) := hR.symm
    have bad : ∀ {Γ : Gm} {A : AE}, tF ws = .none → (A.rt = postLt [.list ws]) → go K W0 (tRet (tC .non)) Γ A := fun h hA => go_ret (wpE_non (by rw [hA]; exact ⟨ws, rfl, by unfold ltF; rw [h]⟩))
    cases b with
    | true =>
      have hno : tF ws = .none := by
        unfold tF
        rw [hR']
        show (match some (yss ++ [[]]) with | some [ts] => _ | _ => PyData.none) = _
        cases yss with
        | nil => exact absurd rfl hL.ne
        | cons a l =>
          cases l with
          | nil => rfl
          | cons c l => rfl
      exact go_seq (go_if (wpT_or (wpT_B (wpE_var rfl ⟨true, rfl, fun _ => ⟨fun _ => bad hno rfl, (fun z => nomatch (show true = false from z))⟩, (fun z => nomatch (show true = false from z))⟩))))
    | false =>
      have hR' : runW [[]] ws = some yss := hR'
      refine go_seq (go_if (wpT_or (wpT_B (wpE_var rfl ⟨false, rfl, (fun z => nomatch (show false = true from z)), fun _ => wpT_or (wpT_test (wpE_op (wpE_CB (wpA_cons (wpE_var rfl (wpA_nil (opC_lenL (wpE_int (opR_I0B ⟨_, rfl, fun e => ⟨fun _ => ?_, (fun z => nomatch (show true = false from z))⟩, fun e => ?_⟩)))))))))⟩))))
      · have h1 := of_decide_eq_true e
        rw [List.length_map] at h1
        have hno : tF ws = .none := by
          unfold tF
          rw [hR']
          match yss, h1 with
          | _ :: _ :: _, _ => rfl
        exact bad hno rfl
      have h1 := of_decide_eq_false e
      rw [List.length_map] at h1
      obtain ⟨ts, rfl⟩ : ∃ ts, yss = [ts] := by
        match yss, h1, hL.ne with
        | [ts], _, _ => exact ⟨ts, rfl⟩
        | _ :: _ :: _, h, _ => simp at h; omega
      have htT : ∀ t ∈ ts, TmW t := rows_tm hL.stk ts (by simp)
      have hts : nodL ts ≤ ws.length := by
        have := sumN_mem (x := [ts]) (q := ts) (by simp)
        omega
      have hnl := nodL_len ts
      have htF : tF ws = if ts.all (fun t => decide (hgt t ≤ 30)) = true then .tuple ts else .none := by
        unfold tF
        rw [hR']
      refine wpT_test (wpE_op (wpE_maxDf (wpL_of_N (wpN_map (fun t => .int (hgt t : Nat)) (wpIc_of (wpI_list (wpE_op (wpE_var rfl (wpE_int (opR_ixL (d := .list ts) rfl ⟨ts, rfl, by omega, fun d hd => ?_, ts.map fun t => ((hgt t : Nat) : Int), by rw [List.map_map]; rfl, wpE_int (opR_I0B ⟨_, rfl, fun e => ?_, fun e => ?_⟩)⟩))))))))))
      · refine wpG_name (by decide) (wpE_call (wpA_cons (wpE_var rfl (wpA_nil ⟨⟨d, rfl, htT d hd, by have := hL.hg 0 ts rfl d hd; omega, by have := nod_mem hd; omega⟩, ?_⟩))))
        rintro r ⟨d', e, rfl⟩
        cases e
        rfl
      · have h2 := (maxI_gt _).mp (of_decide_eq_true e)
        obtain ⟨n, hn, hn2⟩ := h2
        obtain ⟨t, ht, rfl⟩ := List.mem_map.mp hn
        refine bad ?_ rfl
        rw [htF, if_neg]
        intro z
        have := of_decide_eq_true (List.all_eq_true.mp z t ht)
        omega
      · have h2 : ¬ maxI 0 (ts.map fun t => ((hgt t : Nat) : Int)) > 30 := of_decide_eq_false e
        have hall : ts.all (fun t => decide (hgt t ≤ 30)) = true := List.all_eq_true.mpr fun t ht => decide_eq_true (by
          by_cases z : hgt t ≤ 30
          · exact z
          · exact absurd ((maxI_gt _).mpr ⟨_, List.mem_map.mpr ⟨t, ht, rfl⟩, by omega⟩) h2)
        rw [if_pos hall] at htF
        refine go_next (go_ret (wpE_op (wpE_var rfl (wpE_int (opR_ixL (d := .list ts) rfl ⟨ws, rfl, ?_⟩)))))
        unfold ltF
        rw [htF]

/-! ### the law's atoms and claims -/
theorem ok_l_parted (T : Top K mg) : FnOk P w K mg base CX0 1 T.x_l_parted.f T.x_l_parted.fd P_l_parted (spF K prePt postPt) := by
  have nd := sc_l_parted.nd
  refine fn_ok T.x_l_parted.F sc_l_parted (fun ds h => ?_) (fun cdv A outer s H E hr => ⟨_, (pss_cons (ps_set (i := 2) nd rfl (by first | exact Or.inl rfl | exact Or.inr rfl) (pe_lst (pa_cons (pe_lst pa_nil) pa_nil)))
    (pss_cons (ps_for PassesOwn.never rfl (il_K (K := K) rfl (pv 0)) (pg_name (i := 3) nd rfl (by first | exact Or.inl rfl | exact Or.inr rfl))
      (pss_one (ps_if (pt_cmpR (eq_K (K := K) rfl (hu64 hr)) (pv 3) (pv 1) (nomark _)) (pss_one (ps_expr (ap_K (K := K) rfl (pv 2) (pe_lst pa_nil)))) (pss_one (ps_expr (ap_K (K := K) rfl (pe_ix (ix_K (K := K) rfl) (pv 2) (pe_un un_neg pe_int) (fun _ _ => rfl)) (pv 3)))))))
    (pss_one (ps_ret (pv 2))))), fun W0 ds hp => ?_⟩)
  · obtain ⟨_, _, rfl, _⟩ := h
    rfl
  obtain ⟨ws, m, rfl, hm, hw, hz⟩ := hp
  simp only [cx_K, cx_K2, startG, List.map, List.length, List.replicate, List.append, List.cons_append, List.nil_append]
  refine go_rows (Nat.le_of_ble_eq_true rfl) (by decide) (noOwn_of (by simp [Sl.own])) (wpI_list (wpE_var rfl ⟨_, rfl, fun i Γ' xss => ∃ (x3 : Sl) (ps : List (List PyData)) (q : List PyData), Γ' = [.d (.list ws), .d (.str m), .no, x3] ∧ xss = ps ++ [q] ∧ ps ++ [q ++ (prt m (ws.drop i)).1] ++ (prt m (ws.drop i)).2 = rowsP m ws ∧ ps.length ≤ i ∧ q.length ≤ i, ⟨_, [], [], rfl, rfl, rfl, Nat.le_refl _, Nat.le_refl _⟩, ?_, ?_⟩))
  · rintro i d Γ' xss hd ⟨x3, ps, q, rfl, rfl, hE, hl, hq⟩
    have hi : i < ws.length := (List.getElem?_eq_some_iff.mp hd).1
    rw [drop_cons hd] at hE
    obtain ⟨x, rfl, hx⟩ := hw d (List.mem_of_getElem? hd)
    by_cases hxm : x = m
    · subst hxm
      have e1 : isM x (.str x) = true := decide_eq_true rfl
      have e2 : prt x (.str x :: ws.drop (i + 1)) = ([], (prt x (ws.drop (i + 1))).1 :: (prt x (ws.drop (i + 1))).2) := by rw [prt, if_pos e1]
      rw [e2] at hE
      refine go2_if (wpT_test (wpE_op (wpE_var rfl (wpE_var rfl (eq_str hx ⟨true, rfl, fun _ => ?_, (fun hb => by cases hb)⟩)))))
      refine go2_appNew (by rw [List.length_append, List.length_singleton]; omega) ⟨_, ps ++ [q], [], rfl, rfl, ?_, by simp; omega, Nat.zero_le _⟩
      rw [← hE]
      simp
    · have e1 : isM m (.str x) = false := decide_eq_false hxm
      have e2 : prt m (.str x :: ws.drop (i + 1)) = (.str x :: (prt m (ws.drop (i + 1))).1, (prt m (ws.drop (i + 1))).2) := by rw [prt, if_neg (by rw [e1]; decide)]
      rw [e2] at hE
      refine go2_if (wpT_test (wpE_op (wpE_var rfl (wpE_var rfl (eq_strC false hx.sh hm.sh (by simp [PyData.eqv, hxm]) ⟨false, rfl, (fun hb => by cases hb), fun _ => ?_⟩)))))
      refine go2_appLast (wpE_var rfl ⟨by omega, _, ps, q ++ [.str x], rfl, rfl, ?_, by omega, by rw [List.length_append, List.length_singleton]; omega⟩)
      rw [← hE]
      simp
  · rintro Γ' xss ⟨x3, ps, q, rfl, rfl, hE, hl, hq⟩
    rw [List.drop_length] at hE
    refine go_ret (wpE_var rfl ⟨ws, m, rfl, ?_⟩)
    have : ps ++ [q] = rowsP m ws := by
      rw [← hE]
      simp [prt]
    rw [this]

theorem atF_tup {ws ts : List PyData} (h : atF ws = .tuple ts) : ∃ s us, ts = [.str s, .tuple us] ∧ ∃ vs, ws = .str s :: vs ∧ isName s = true ∧ tF vs = .tuple us := by
  unfold atF at h
  split at h
  · cases h
  · rename_i w vs
    split at h
    · cases h
    · rename_i hc
      split at h
      · rename_i us hu
        cases h
        cases w with
        | str s =>
          refine ⟨s, us, rfl, vs, rfl, ?_, hu⟩
          simp only [nameD, Bool.or_eq_true, not_or, Bool.not_eq_true', Bool.not_eq_false] at hc
          simpa using hc.2
        | _ => simp [nameD] at hc
      · cases h
theorem ok_atom (T : Top K mg) : FnOk P w K mg base CX0 47 T.x_atom.f T.x_atom.fd P_atom (spF K preAt postAt) := by
  have nd := sc_atom.nd
  have G_l_is_name := ok_l_is_name (P := P) (w := w) (base := base) T
  have G_terms := ok_terms (P := P) (w := w) (base := base) T
  refine fn_ok T.x_atom.F sc_atom (fun ds h => ?_) (fun cdv A outer s H E hr => ⟨_, (pss_cons (ps_set (i := 1) nd rfl (by first | exact Or.inl rfl | exact Or.inr rfl) (pe_call G_terms (hr.mono (by first | decide | omega)) (by rfl) T.x_terms.m T.x_terms.F.kp T.x_terms.b .nil pass0 (pa_cons (pe_slice (sl_K (K := K) rfl) (pv 0) (po_some pe_int) po_none) pa_nil)))
    (pss_cons (ps_if (PW.pt (pw_or (pt_cmpR op_lt (pe_callB (len_K (K := K) rfl) (by rfl) T.b_len (by decide +kernel) (pa_cons (pv 0) pa_nil)) pe_int (nomark _)) (pw_or (pt_not (pt_val (pe_call G_l_is_name (hr.mono (by first | decide | omega)) (by rfl) T.x_l_is_name.m T.x_l_is_name.F.kp T.x_l_is_name.b .nil pass0 (pa_cons (pe_ix (ix_K (K := K) rfl) (pv 0) pe_int (fun _ _ => rfl)) pa_nil)))) (pw_or1 (pt_cmpR op_isN (pv 1) pe_non (nomark _)))))) (pss_one (ps_ret pe_non)) pss_nil)
    (pss_one (ps_ret (pe_tup (pa_cons (pe_ix (ix_K (K := K) rfl) (pv 0) pe_int (fun _ _ => rfl)) (pa_cons (pe_callTy (tof_K (K := K) rfl) (by rfl) T.b_tuple (by decide +kernel) (pa_cons (pv 1) pa_nil)) pa_nil))))))), fun W0 ds hp => ?_⟩)
  · obtain ⟨_, rfl, _⟩ := h
    rfl
  obtain ⟨ws, rfl, hw, hz⟩ := hp
  simp only [cx_K, cx_K2, startG, List.map, List.length, List.replicate, List.append, List.cons_append, List.nil_append]
  refine go_seq (go_asg (wpE_call (wpA_cons (wpE_of_N (wpN_slL (wpL_of_E (wpE_var rfl ⟨_, rfl, wpO_some (wpE_int ⟨1, rfl, wpO_no ?_⟩)⟩)))))))
  have e1 : cutD ws (some 1) none = ws.drop 1 := cut_from (n := 1)
  rw [e1]
  refine wpA_nil ⟨⟨ws.drop 1, rfl, fun d hd => hw d (List.mem_of_mem_drop hd), by rw [List.length_drop]; omega⟩, ?_⟩
  rintro r ⟨us, ex, rfl⟩
  cases ex
  simp only [Rs.data]
  refine go_seq (go_if (wpT_or (wpT_imp (P := fun b => b = decide (ws.length < 2)) ?_ fun b hb => ⟨fun e => ⟨fun _ => ?_, (fun z => by cases z)⟩, fun e => ?_⟩)))
  · refine wpT_test (wpE_op (wpE_CB (wpA_cons (wpE_var rfl (wpA_nil (opC_lenL (wpE_int (opR_I0B ⟨_, rfl, ?_⟩))))))))
    rw [Bool.eq_iff_iff, decide_eq_true_eq, decide_eq_true_eq]
    omega
  · have h : ws.length < 2 := of_decide_eq_true (hb.symm.trans e)
    refine go_ret (wpE_non ⟨ws, rfl, ?_⟩)
    have : atF ws = .none := by
      match ws, h with
      | [], _ => rfl
      | [a], _ => rfl
    rw [this]
  have h : ¬ ws.length < 2 := of_decide_eq_false (hb.symm.trans e)
  obtain ⟨w0, us, rfl, hus⟩ : ∃ w0 us, ws = w0 :: us ∧ us.isEmpty = false := by
    match ws, h with
    | a :: b :: c, _ => exact ⟨a, b :: c, rfl, rfl⟩
    | [a], h => simp at h
    | [], h => simp at h
  obtain ⟨s, rfl, hs⟩ := hw w0 List.mem_cons_self
  have hpost : ∀ r, r = Rs.d (match isName s, tF us with | true, .tuple ts => .tuple [.str s, .tuple ts] | _, _ => .none) → postAt [.list (.str s :: us)] r := fun r hr => ⟨_, rfl, by
    rw [hr]
    show _ = Rs.d (if us.isEmpty || !isName s then .none else match tF us with | .tuple ts => .tuple [.str s, .tuple ts] | _ => .none)
    rw [hus]
    cases isName s with
    | false => rfl
    | true => rcases tF_cases us with q | ⟨ts, q⟩ <;> (rw [q]; rfl)⟩
  refine wpT_or (wpT_not (wpT_B (wpE_call (wpA_cons (wpE_op (wpE_var rfl (wpE_int (opR_ixL (d := .str s) (atI_nat (j := 0) rfl) (wpA_nil ⟨⟨s, rfl, hs⟩, ?_⟩)))))))))
  rintro r ⟨x, ex, rfl⟩
  cases ex
  refine ⟨isName s, rfl, fun en => ⟨fun _ => ?_, (fun z => nomatch (show true = false from z))⟩, fun en => ?_⟩
  · refine go_ret (wpE_non (hpost _ ?_))
    cases q : isName s with
    | true => rw [q] at en; cases en
    | false => rfl
  have hn : isName s = true := by
    cases q : isName s with
    | true => rfl
    | false => rw [q] at en; cases en
  rw [hn] at hpost
  have e3 : List.drop 1 (PyData.str s :: us) = us := rfl
  rcases tF_cases us with q | ⟨ts, q⟩
  · have e2 : ltF (List.drop 1 (PyData.str s :: us)) = .none := by
      rw [e3]
      unfold ltF
      rw [q]
    rw [e2]
    refine wpT_test (wpE_op (wpE_var rfl (wpE_non (opR_isN ⟨_, rfl, fun _ => ?_, (fun z => nomatch (show true = false from z))⟩))))
    refine go_ret (wpE_non (hpost _ ?_))
    rw [q]
  · have e2 : ltF (List.drop 1 (PyData.str s :: us)) = .list ts := by
      rw [e3]
      unfold ltF
      rw [q]
    rw [e2]
    refine wpT_test (wpE_op (wpE_var rfl (wpE_non (opR_isN ⟨_, rfl, (fun z => nomatch (show false = true from z)), fun _ => go_next ?_⟩))))
    refine go_ret (wpE_tup (wpA_cons (wpE_op (wpE_var rfl (wpE_int (opR_ixL (d := .str s) (atI_nat (j := 0) rfl) (wpA_cons (wpE_tof (wpL_of_E (wpE_var rfl ⟨ts, rfl, wpA_nil ⟨Nat.le_of_ble_eq_true rfl, hpost _ ?_⟩⟩))))))))))
    rw [q]
/-! what is laid -/
theorem canL_mem {ts : List PyData} : PyData.canLayAll0 ts = true ↔ ∀ t ∈ ts, t.canLay0 = true := by
  induction ts with
  | nil => simp [PyData.canLayAll0]
  | cons a l ih => simp [PyData.canLayAll0, ih]
theorem dep_mem {ts : List PyData} {n : Nat} : PyData.depthAll ts ≤ n ↔ ∀ t ∈ ts, t.depth ≤ n := by
  induction ts with
  | nil => simp [PyData.depthAll]
  | cons a l ih =>
    rw [PyData.depthAll, Nat.max_le, ih]
    simp
theorem TmW.lay : ∀ {d : PyData}, TmW d → d.canLay0 = true ∧ d.depth ≤ hgt d + 1
  | _, .nm h1 h2 => ⟨h2.ok, Nat.zero_le _⟩
  | _, .mk (m := m) (ts := ts) h1 h2 ht => by
    refine ⟨?_, ?_⟩
    · show PyData.canLayAll0 (.str m :: ts) = true
      rw [canL_mem]
      intro t hm
      rcases List.mem_cons.mp hm with rfl | hm
      · exact h2.ok
      · exact (ht t hm).lay.1
    · show PyData.depthAll (.str m :: ts) + 1 ≤ _
      rw [hgt_mk]
      have : PyData.depthAll (.str m :: ts) ≤ hgtL ts := by
        rw [dep_mem]
        intro t hm
        rcases List.mem_cons.mp hm with rfl | hm
        · exact Nat.zero_le _
        · have := (ht t hm).lay.2
          have := hgt_mem hm
          omega
      omega
theorem tF_tm {ws ts : List PyData} (hw : ∀ d ∈ ws, isTw d) (h : tF ws = .tuple ts) : (∀ t ∈ ts, TmW t ∧ hgt t ≤ 30) := by
  unfold tF at h
  split at h
  · rename_i us hu
    split at h
    · rename_i hall
      cases h
      have hg := Gw.run hw gw0 hu
      intro t ht
      refine ⟨?_, of_decide_eq_true (List.all_eq_true.mp hall t ht)⟩
      rcases hg.2 with hg | ⟨ps, h1, h2, h3⟩
      · exact hg.1 t ht
      · cases ps with
        | nil => exact absurd rfl h2
        | cons a l =>
          have := congrArg List.length h1
          simp at this
    · cases h
  · cases h
theorem atF_casesL (ws : List PyData) : tfT (atF ws) := by
  unfold atF
  split
  · exact .inl rfl
  · split
    · exact .inl rfl
    · split
      · exact .inr ⟨_, rfl⟩
      · exact .inl rfl
theorem atF_lay {ws : List PyData} (hw : ∀ d ∈ ws, isTw d) : (atF ws).canLay0 = true ∧ (atF ws).depth ≤ 40 := by
  rcases atF_casesL ws with q | ⟨ts, q⟩
  · rw [q]
    exact ⟨rfl, Nat.zero_le _⟩
  · rw [q]
    obtain ⟨s, us, rfl, vs, rfl, hn, hu⟩ := atF_tup q
    have hs := not_tw (hw _ List.mem_cons_self)
    have hu := tF_tm (fun d hd => hw d (List.mem_cons_of_mem _ hd)) hu
    refine ⟨?_, ?_⟩
    · show PyData.canLayAll0 [.str s, .tuple us] = true
      rw [canL_mem]
      intro t hm
      simp only [List.mem_cons, List.mem_nil_iff, or_false] at hm
      rcases hm with rfl | rfl
      · exact hs.ok
      · show PyData.canLayAll0 us = true
        rw [canL_mem]
        exact fun t ht => (hu t ht).1.lay.1
    · show PyData.depthAll [.str s, .tuple us] + 1 ≤ 40
      have : PyData.depthAll [.str s, .tuple us] ≤ 39 := by
        rw [dep_mem]
        intro t hm
        simp only [List.mem_cons, List.mem_nil_iff, or_false] at hm
        rcases hm with rfl | rfl
        · exact Nat.zero_le _
        · show PyData.depthAll us + 1 ≤ 39
          have : PyData.depthAll us ≤ 38 := by
            rw [dep_mem]
            intro t ht
            have := (hu t ht).1.lay.2
            have := (hu t ht).2
            omega
          omega
      omega

/-! ### the law's claims, what is due -/
theorem rowsP_tw {m : Str} {ws : List PyData} (hw : ∀ d ∈ ws, isTw d) (hz : ws.length ≤ 7000000) : ∀ r ∈ rowsP m ws, (∀ d ∈ r, isTw d) ∧ r.length ≤ 7000000 := fun r hr => by
  obtain ⟨h1, h2⟩ := (rowsP_in m ws).1 r hr
  exact ⟨fun d hd => hw d (h2 d hd), by omega⟩
def atR : PyData → PyData
  | .list ws => .list ((rowsP cmS ws).map atF)
  | _ => .none
theorem noneL {xs : List PyData} (h : ∀ x ∈ xs, tfT x) : (xs.any fun z => PyData.eqv z .none) = xs.any noneD := by
  rw [Bool.eq_iff_iff, List.any_eq_true, List.any_eq_true]
  have key : ∀ x, tfT x → (PyData.eqv x .none = true ↔ noneD x = true) := fun x hx => by
    rcases hx with rfl | ⟨ts, rfl⟩
    · exact ⟨fun _ => rfl, fun _ => by simp [PyData.eqv]⟩
    · constructor
      · intro z
        simp [PyData.eqv] at z
      · intro z
        cases z
  constructor
  · rintro ⟨x, hx, z⟩
    exact ⟨x, hx, (key x (h x hx)).mp z⟩
  · rintro ⟨x, hx, z⟩
    exact ⟨x, hx, (key x (h x hx)).mpr z⟩
theorem shL {xs : List PyData} (h : ∀ x ∈ xs, x.canLay0 = true ∧ x.depth ≤ 40) : SeqAt.shaped (.list xs) = true := shaped_list 40 (by decide) h
def preTxt (ds : List PyData) : Prop := ∃ x, ds = [.str x] ∧ Tx 6000000 x
def postCl (ds : List PyData) (r : Rs) : Prop := ∃ x, ds = [.str x] ∧ r = .d (clF (wsT x))
theorem ok_claim (T : Top K mg) : FnOk P w K mg base CX0 48 T.x_claim.f T.x_claim.fd P_claim (spF K preTxt postCl) := by
  have nd := sc_claim.nd
  have G_l_parted := ok_l_parted (P := P) (w := w) (base := base) T
  have G_atom := ok_atom (P := P) (w := w) (base := base) T
  refine fn_ok T.x_claim.F sc_claim (fun ds h => ?_) (fun cdv A outer s H E hr => ⟨_, (pss_cons (ps_set (i := 1) nd rfl (by first | exact Or.inl rfl | exact Or.inr rfl) (pe_call G_l_parted (hr.mono (by first | decide | omega)) (by rfl) T.x_l_parted.m T.x_l_parted.F.kp T.x_l_parted.b .nil pass0 (pa_cons (split_K (pv 0) pe_str) (pa_cons pe_str pa_nil))))
    (pss_cons (ps_if (pt_cmpR (ne_K (K := K) rfl (hu64 hr)) (pe_callB (len_K (K := K) rfl) (by rfl) T.b_len (by decide +kernel) (pa_cons (pv 1) pa_nil)) pe_int (nomark _)) (pss_one (ps_ret pe_non)) pss_nil)
    (pss_cons (ps_setLc (i := 2) (own := [("_law_side", 3)]) (by rfl) nd rfl rfl (sw_true rfl rfl rfl (by decide +kernel)) (il_K (K := K) rfl (pv 1)) (blkOk_by (by with_unfolding_all rfl)) (fun _ _ _ _ _ => (pg_name (i := 3) nd rfl (by first | exact Or.inl rfl | exact Or.inr rfl))) (fun _ _ _ _ _ => pts_nil) (fun _ _ _ _ _ => (pe_lc (own := [("_law_words", 4)]) (by rfl) nd (il_K (K := K) rfl (pe_call G_l_parted (hr.mono (by first | decide | omega)) (by rfl) T.x_l_parted.m T.x_l_parted.F.kp T.x_l_parted.b .nil pass0 (pa_cons (pv 3) (pa_cons pe_str pa_nil)))) (blkOk_by (by with_unfolding_all rfl)) (fun _ _ _ _ _ => (pg_name (i := 4) nd rfl (by first | exact Or.inl rfl | exact Or.inr rfl))) (fun _ _ _ _ _ => pts_nil) (fun _ _ _ _ _ => (pe_call G_atom (hr.mono (by first | decide | omega)) (by rfl) T.x_atom.m T.x_atom.F.kp T.x_atom.b .nil pass0 (pa_cons (pv 4) pa_nil))))))
    (pss_cons (ps_if (pt_cmpR (eq_K (K := K) rfl (hu64 hr)) (pe_ix (ix_K (K := K) rfl) (pv 1) pe_int (fun _ _ => rfl)) (pe_lst pa_nil) (nomark _)) (pss_one (ps_asg (pe_lst pa_nil) (pg_sub (pv 2) pe_int set_list))) pss_nil)
    (pss_cons (ps_if (pt_cmpR (inD_K (K := K) rfl (hu65 hr)) pe_non (pe_op (catR_K (K := K) rfl) (pe_ix (ix_K (K := K) rfl) (pv 2) pe_int (fun _ _ => rfl)) (pe_ix (ix_K (K := K) rfl) (pv 2) pe_int (fun _ _ => rfl))) (by rfl)) (pss_one (ps_ret pe_non)) pss_nil)
    (pss_one (ps_ret (pe_tup (pa_cons (pe_callTy (tof_K (K := K) rfl) (by rfl) T.b_tuple (by decide +kernel) (pa_cons (pe_ix (ix_K (K := K) rfl) (pv 2) pe_int (fun _ _ => rfl)) pa_nil)) (pa_cons (pe_callTy (tof_K (K := K) rfl) (by rfl) T.b_tuple (by decide +kernel) (pa_cons (pe_ix (ix_K (K := K) rfl) (pv 2) pe_int (fun _ _ => rfl)) pa_nil)) pa_nil)))))))))), fun W0 ds hp => ?_⟩)
  · obtain ⟨_, rfl, _⟩ := h
    rfl
  obtain ⟨x, rfl, hx⟩ := hp
  obtain ⟨hw, hl, hne⟩ := wsT_ok hx
  have hcm : Tx 30 cmS := Tx.of (by decide +kernel)
  simp only [cx_K, cx_K2, startG, List.map, List.length, List.replicate, List.append, List.cons_append, List.nil_append]
  refine go_seq (go_asg (wpE_call (wpA_cons (wpE_of_N (wpN_words rfl hx (wpA_cons (wpE_str (wpA_nil ⟨⟨_, arS, rfl, Tx.of (by decide +kernel), hw, by omega⟩, ?_⟩))))))))
  generalize hws : wsT x = ws at hw hl hne
  rintro r ⟨ws', m, e, rfl⟩
  cases e
  have hrt := rowsP_tw (m := arS) hw (by omega)
  simp only [Rs.data]
  have hpost : ∀ r, r = Rs.d (clF ws) → postCl [.str x] r := fun r hr => ⟨x, rfl, by rw [hr, hws]⟩
  refine go_seq (go_if (wpT_imp (P := fun b => b = !decide ((rowsP arS ws).length = 2)) ?_ fun b hb => ⟨fun e => ?_, fun e => ?_⟩))
  · refine wpT_test (wpE_op (wpE_CB (wpA_cons (wpE_var rfl (wpA_nil (opC_lenL (wpE_int (ne_int ⟨_, rfl, ?_⟩))))))))
    have elr : (rowsP (Str.ofString "=>") ws).length = (rowsP arS ws).length := rfl
    congr 1
    rw [Bool.eq_iff_iff, decide_eq_true_eq, decide_eq_true_eq, List.length_map]
    omega
  · have h : ¬ (rowsP arS ws).length = 2 := by
      rw [hb] at e
      simpa using e
    refine go_ret (wpE_non (hpost _ ?_))
    have : clF ws = .none := by
      unfold clF
      split
      · rename_i q
        rw [q] at h
        exact absurd rfl h
      · rfl
    rw [this]
  have h : (rowsP arS ws).length = 2 := by
    rw [hb] at e
    simpa using e
  obtain ⟨a, b', hab⟩ : ∃ a b, rowsP arS ws = [a, b] := by
    match q : rowsP arS ws, h with
    | [a, b], _ => exact ⟨a, b, rfl⟩
  have hcl : clF ws = allF [if a.isEmpty then .tuple [] else asF (rowsP cmS a), asF (rowsP cmS b')] := by
    unfold clF
    rw [hab]
  rw [hab] at hrt
  obtain ⟨ha, hal⟩ := hrt a (by simp)
  obtain ⟨hb', hbl⟩ := hrt b' (by simp)
  have hrow : (rowsD (rowsP arS ws)) = .list [.list a, .list b'] := by rw [hab]; rfl
  rw [show rowsD (rowsP (Str.ofString "=>") ws) = .list [.list a, .list b'] from hrow]
  refine go_next (go_seq (go_asgN (wpN_map atR (wpIc_of (wpI_list (wpE_var rfl ⟨_, rfl, by show 2 < 10000000; decide, fun d hd => ?_, ?_⟩))))))
  · have : ∃ us, d = .list us ∧ (∀ e ∈ us, isTw e) ∧ us.length ≤ 7000000 := by
      simp only [List.mem_cons, List.mem_nil_iff, or_false] at hd
      rcases hd with rfl | rfl
      · exact ⟨a, rfl, ha, hal⟩
      · exact ⟨b', rfl, hb', hbl⟩
    obtain ⟨us, rfl, hu, hul⟩ := this
    refine wpG_name (by decide) (wpE_of_N (wpN_map (fun d => match d with | .list vs => atF vs | _ => .none) (wpIc_of (wpI_list (wpE_call (wpA_cons (wpE_var rfl (wpA_cons (wpE_str (wpA_nil ⟨⟨us, cmS, rfl, hcm, hu, hul⟩, ?_⟩))))))))))
    rintro r ⟨ws', m, e, rfl⟩
    cases e
    have hin := (rowsP_in cmS us).2
    refine ⟨_, rfl, by rw [List.length_map]; show (rowsP cmS us).length < _; omega, fun d hd => ?_, ?_⟩
    · obtain ⟨vs, hvs, rfl⟩ := List.mem_map.mp hd
      obtain ⟨h1, h2⟩ := rowsP_tw (m := cmS) hu hul vs hvs
      refine wpG_name (by decide) (wpE_call (wpA_cons (wpE_var rfl (wpA_nil ⟨⟨vs, rfl, h1, h2⟩, ?_⟩))))
      rintro r ⟨ws', e, rfl⟩
      cases e
      rfl
    · show PyData.list _ = .list ((rowsP cmS us).map atF)
      rw [List.map_map]
      rfl
  have mapE : [PyData.list a, .list b'].map atR = [.list ((rowsP cmS a).map atF), .list ((rowsP cmS b').map atF)] := rfl
  rw [mapE]
  have hrl : ∀ us : List PyData, us.length ≤ 7000000 → ((rowsP cmS us).map atF).length ≤ 7000001 := fun us h => by
    rw [List.length_map]
    have := (rowsP_in cmS us).2
    omega
  have hA := hrl a hal
  have hB := hrl b' hbl
  have lay : ∀ us : List PyData, (∀ d ∈ us, isTw d) → us.length ≤ 7000000 → ∀ d ∈ (rowsP cmS us).map atF, (d.canLay0 = true ∧ d.depth ≤ 40) ∧ tfT d := fun us h1 h2 d hd => by
    obtain ⟨vs, hvs, rfl⟩ := List.mem_map.mp hd
    exact ⟨atF_lay (rowsP_tw (m := cmS) h1 h2 vs hvs).1, atF_casesL vs⟩
  have cmE : (rowsP (Str.ofString ",") a) = rowsP cmS a := rfl
  refine go_cut (M := fun Γ' => ∃ (A : List PyData) (x3 x4 : Sl), Γ' = [.d (.str x), .d (.list [.list a, .list b']), .l [.list A, .list ((rowsP cmS b').map atF)], x3, x4] ∧ A.length ≤ 7000001 ∧ (∀ d ∈ A, (d.canLay0 = true ∧ d.depth ≤ 40) ∧ tfT d) ∧ allF A = if a.isEmpty then .tuple [] else asF (rowsP cmS a)) ?_ ?_
  · refine go_if (wpT_test (wpE_op (wpE_op (wpE_var rfl (wpE_int (opR_ixL (d := .list a) (atI_nat (j := 0) rfl) (wpE_of_N (wpN_lst (wpA_nil ⟨Nat.zero_le _, opR_eqNil (fun d hd => ?_) ⟨_, rfl, fun e => ?_, fun e => ?_⟩⟩)))))))))
    · obtain ⟨s, rfl, hs⟩ := ha d hd
      exact ⟨hs.ok, Nat.zero_le _⟩
    · refine go_setL0 rfl (Nat.succ_pos _) (wpE_of_N (wpN_lst (wpA_nil ⟨Nat.zero_le _, [], _, _, rfl, Nat.zero_le _, (fun d hd => nomatch hd), ?_⟩)))
      rw [if_pos e]
      rfl
    · refine go_next ⟨(rowsP cmS a).map atF, _, _, rfl, hA, lay a ha hal, ?_⟩
      rw [e, if_neg (by decide)]
      rfl
  rintro Γ' ⟨A, x3, x4, rfl, hAl, hAy, hAe⟩
  have hBy := lay b' hb' hbl
  have hall : ∀ d ∈ A ++ (rowsP cmS b').map atF, (d.canLay0 = true ∧ d.depth ≤ 40) ∧ tfT d := fun d hd => by
    rcases List.mem_append.mp hd with hd | hd
    · exact hAy d hd
    · exact hBy d hd
  rw [← hAe] at hcl
  have hcl2 : clF ws = if (A ++ (rowsP cmS b').map atF).any noneD = true then .none else .tuple [.tuple A, .tuple ((rowsP cmS b').map atF)] := by
    rw [hcl]
    show allF [allF A, allF ((rowsP cmS b').map atF)] = _
    rw [List.any_append]
    unfold allF
    cases A.any noneD <;> cases ((rowsP cmS b').map atF).any noneD <;> rfl
  refine go_seq (go_if (wpT_test (wpE_op (wpE_non (wpE_of_N (wpN_catR (wpL_of_E (wpE_opL (wpL_var rfl (wpE_int (opLR_ix (d := .list A) (atI_nat (j := 0) rfl) ⟨_, rfl, wpL_of_E (wpE_opL (wpL_var rfl (wpE_int (opLR_ix (d := .list ((rowsP cmS b').map atF)) (atI_nat (j := 1) rfl) ⟨_, rfl, by rw [sizeLine_eq]; omega, opR_inD rfl (shL fun d hd => (hall d hd).1) ⟨_, rfl, fun e => ?_, fun e => ?_⟩⟩))))⟩)))))))))))
  · rw [noneL fun d hd => (hall d hd).2] at e
    refine go_ret (wpE_non (hpost _ ?_))
    rw [hcl2, if_pos e]
  · rw [noneL fun d hd => (hall d hd).2] at e
    refine go_next (go_ret (wpE_tup (wpA_cons (wpE_tof (wpL_of_E (wpE_opL (wpL_var rfl (wpE_int (opLR_ix (d := .list A) (atI_nat (j := 0) rfl) ⟨_, rfl, wpA_cons (wpE_tof (wpL_of_E (wpE_opL (wpL_var rfl (wpE_int (opLR_ix (d := .list ((rowsP cmS b').map atF)) (atI_nat (j := 1) rfl) ⟨_, rfl, wpA_nil ⟨Nat.le_of_ble_eq_true rfl, hpost _ ?_⟩⟩))))))⟩)))))))))
    rw [hcl2, if_neg (by rw [e]; decide)]
def postDt (ds : List PyData) (r : Rs) : Prop := ∃ x, ds = [.str x] ∧ r = .d (tmO (wsT x))
theorem ok_due_term (T : Top K mg) : FnOk P w K mg base CX0 49 T.x_due_term.f T.x_due_term.fd P_due_term (spF K preTxt postDt) := by
  have nd := sc_due_term.nd
  have G_terms := ok_terms (P := P) (w := w) (base := base) T
  refine fn_ok T.x_due_term.F sc_due_term (fun ds h => ?_) (fun cdv A outer s H E hr => ⟨_, (pss_cons (ps_set (i := 1) nd rfl (by first | exact Or.inl rfl | exact Or.inr rfl) (pe_call G_terms (hr.mono (by first | decide | omega)) (by rfl) T.x_terms.m T.x_terms.F.kp T.x_terms.b .nil pass0 (pa_cons (split_K (pv 0) pe_str) pa_nil)))
    (pss_cons (ps_if (PW.pt (pw_or (pt_cmpR op_isN (pv 1) pe_non (nomark _)) (pw_or1 (pt_cmpR (ne_K (K := K) rfl (hu64 hr)) (pe_callB (len_K (K := K) rfl) (by rfl) T.b_len (by decide +kernel) (pa_cons (pv 1) pa_nil)) pe_int (nomark _))))) (pss_one (ps_ret (pe_tup (pa_cons pe_str (pa_cons pe_int pa_nil))))) pss_nil)
    (pss_one (ps_ret (pe_ix (ix_K (K := K) rfl) (pv 1) pe_int (fun _ _ => rfl)))))), fun W0 ds hp => ?_⟩)
  · obtain ⟨_, rfl, _⟩ := h
    rfl
  obtain ⟨x, rfl, hx⟩ := hp
  obtain ⟨hw, hl, hne⟩ := wsT_ok hx
  simp only [cx_K, cx_K2, startG, List.map, List.length, List.replicate, List.append, List.cons_append, List.nil_append]
  refine go_seq (go_asg (wpE_call (wpA_cons (wpE_of_N (wpN_words rfl hx (wpA_nil ⟨⟨_, rfl, hw, by omega⟩, ?_⟩))))))
  generalize hws : wsT x = ws at hw hl hne
  rintro r ⟨ws', e, rfl⟩
  cases e
  simp only [Rs.data]
  have hpost : ∀ r, r = Rs.d (tmO ws) → postDt [.str x] r := fun r hr => ⟨x, rfl, by rw [hr, hws]⟩
  rcases tF_cases ws with q | ⟨ts, q⟩
  · have e2 : ltF ws = .none := by unfold ltF; rw [q]
    have e3 : tmO ws = badD 0 := by unfold tmO; rw [q]
    rw [e2]
    refine go_seq (go_if (wpT_or (wpT_test (wpE_op (wpE_var rfl (wpE_non (opR_isN ⟨_, rfl, fun _ => ⟨fun _ => ?_, (fun z => nomatch (show true = false from z))⟩, (fun z => nomatch (show true = false from z))⟩)))))))
    exact go_ret (wpE_tup (wpA_cons (wpE_str (wpA_cons (wpE_int (wpA_nil ⟨Nat.le_of_ble_eq_true rfl, hpost _ (by rw [e3]; rfl)⟩))))))
  · have e2 : ltF ws = .list ts := by unfold ltF; rw [q]
    rw [e2]
    refine go_seq (go_if (wpT_or (wpT_test (wpE_op (wpE_var rfl (wpE_non (opR_isN ⟨_, rfl, (fun z => nomatch (show false = true from z)), fun _ => ?_⟩)))))))
    refine wpT_test (wpE_op (wpE_CB (wpA_cons (wpE_var rfl (wpA_nil (opC_lenL (wpE_int (ne_int ⟨_, rfl, fun z => ?_, fun z => go_next ?_⟩))))))))
    · have hl1 : ts.length ≠ 1 := fun h => by
        rw [h] at z
        simp at z
      have e3 : tmO ws = badD 0 := by
        unfold tmO
        rw [q]
        match ts, hl1 with
        | [], _ => rfl
        | _ :: _ :: _, _ => rfl
      exact go_ret (wpE_tup (wpA_cons (wpE_str (wpA_cons (wpE_int (wpA_nil ⟨Nat.le_of_ble_eq_true rfl, hpost _ (by rw [e3]; rfl)⟩))))))
    · have hl1 : ts.length = 1 := by
        have := of_decide_eq_true (show decide _ = true from by simpa using z)
        omega
      obtain ⟨t, rfl⟩ := List.length_eq_one_iff.mp hl1
      refine go_ret (wpE_op (wpE_var rfl (wpE_int (opR_ixL (d := t) (atI_nat (j := 0) rfl) (hpost _ ?_)))))
      unfold tmO
      rw [q]
def postDc (ds : List PyData) (r : Rs) : Prop := ∃ x, ds = [.str x] ∧ r = .d (clO (wsT x))
theorem ok_due_claim (T : Top K mg) : FnOk P w K mg base CX0 49 T.x_due_claim.f T.x_due_claim.fd P_due_claim (spF K preTxt postDc) := by
  have nd := sc_due_claim.nd
  have G_claim := ok_claim (P := P) (w := w) (base := base) T
  refine fn_ok T.x_due_claim.F sc_due_claim (fun ds h => ?_) (fun cdv A outer s H E hr => ⟨_, (pss_cons (ps_set (i := 1) nd rfl (by first | exact Or.inl rfl | exact Or.inr rfl) (pe_call G_claim (hr.mono (by first | decide | omega)) (by rfl) T.x_claim.m T.x_claim.F.kp T.x_claim.b .nil pass0 (pa_cons (pv 0) pa_nil)))
    (pss_one (ps_ret (pe_ix (ix_K (K := K) rfl) (pe_lst (pa_cons (pv 1) (pa_cons (pe_tup (pa_cons pe_str (pa_cons pe_int pa_nil))) pa_nil))) (pe_callTy call_int1 (by rfl) T.b_int (by decide +kernel) (pa_cons (pe_cmpR op_isN (pv 1) pe_non (nomark _)) pa_nil)) (fun _ _ => rfl))))), fun W0 ds hp => ?_⟩)
  · obtain ⟨_, rfl, _⟩ := h
    rfl
  obtain ⟨x, rfl, hx⟩ := hp
  simp only [cx_K, cx_K2, startG, List.map, List.length, List.replicate, List.append, List.cons_append, List.nil_append]
  refine go_seq (go_asg (wpE_call (wpA_cons (wpE_var rfl (wpA_nil ⟨⟨x, rfl, hx⟩, ?_⟩)))))
  rintro r ⟨x', e, rfl⟩
  cases e
  simp only [Rs.data]
  refine go_ret (wpE_op (wpE_of_N (wpN_lst (wpA_cons (wpE_var rfl (wpA_cons (wpE_tup (wpA_cons (wpE_str (wpA_cons (wpE_int (wpA_nil ⟨Nat.le_of_ble_eq_true rfl, wpA_nil ⟨Nat.le_of_ble_eq_true rfl, ?_⟩⟩))))))))))))
  refine wpE_CB (wpA_cons (wpE_op (wpE_var rfl (wpE_non (opR_isN (wpA_nil (opC_intB ?_)))))))
  rcases clF_cases (wsT x) with q | ⟨ts, q⟩
  · refine opR_ixL (d := badD 0) (by rw [q]; rfl) ⟨x, rfl, ?_⟩
    unfold clO
    rw [q]
  · refine opR_ixL (d := clF (wsT x)) (by rw [q]; rfl) ⟨x, rfl, ?_⟩
    unfold clO
    rw [q]

/-! ### drawn terms and claims, their words -/
theorem flat_lenF {f : PyData → List PyData} {k : Nat} : ∀ {xs : List PyData}, (∀ x ∈ xs, (f x).length ≤ k) → (xs.flatMap f).length ≤ xs.length * k
  | [], _ => by simp
  | x :: xs, h => by
    have := flat_lenF (f := f) (k := k) (xs := xs) fun y hy => h y (List.mem_cons_of_mem _ hy)
    have := h x List.mem_cons_self
    rw [List.flatMap_cons, List.length_append, List.length_cons, Nat.succ_mul]
    omega
def isSw (d : PyData) : Prop := ∃ x, d = .str x ∧ Tx 8 x
theorem isWd.sw {d : PyData} (h : isWd d) : isSw d := by
  rcases h with rfl | rfl | ⟨x, rfl, hx⟩
  · exact ⟨_, rfl, Tx.of (by decide +kernel)⟩
  · exact ⟨_, rfl, Tx.of (by decide +kernel)⟩
  · exact ⟨x, rfl, hx.2.1, hx.tx.2⟩
def IsAt (a : PyData) : Prop := ∃ s ts, a = .tuple [.str s, .tuple ts] ∧ GoodN s ∧ 1 ≤ ts.length ∧ ts.length ≤ 3 ∧ ∀ t ∈ ts, Tm 6 t
/-- an atom's words -/
def awD : PyData → List PyData
  | .tuple [s, .tuple ts] => s :: twAll ts
  | _ => []
def awsD : List PyData → List PyData
  | [] => []
  | a :: as => awD a ++ as.flatMap fun b => .str cmS :: awD b
theorem twAll_size {n : Nat} : ∀ {ts : List PyData}, (∀ t ∈ ts, Tm n t) → (twAll ts).length ≤ ts.length * (3 * 3 ^ n)
  | [], _ => by rw [twAll_nil]; exact Nat.zero_le _
  | t :: ts, h => by
    have h1 := tw_size n t (h t List.mem_cons_self)
    have h2 := twAll_size (n := n) (ts := ts) fun u hu => h u (List.mem_cons_of_mem _ hu)
    rw [twAll_cons, List.length_append, List.length_cons, Nat.succ_mul]
    omega
theorem IsAt.words {a : PyData} (h : IsAt a) : 1 ≤ (awD a).length ∧ (awD a).length ≤ 6562 ∧ ∀ d ∈ awD a, isWd d := by
  obtain ⟨s, ts, rfl, hs, h1, h2, h3⟩ := h
  have := twAll_size h3
  have e : (3 : Nat) * 3 ^ 6 = 2187 := by decide
  rw [e] at this
  refine ⟨by simp [awD], by simp only [awD, List.length_cons]; omega, fun d hd => ?_⟩
  simp only [awD, List.mem_cons] at hd
  rcases hd with rfl | hd
  · exact .inr (.inr ⟨s, rfl, hs⟩)
  · exact twAll_wd 6 ts h3 d hd
theorem awsD_snoc (as : List PyData) (a : PyData) : awsD (as ++ [a]) = if as = [] then awD a else awsD as ++ .str cmS :: awD a := by
  cases as with
  | nil => simp [awsD]
  | cons b bs => simp [awsD]
theorem awsD_size : ∀ {as : List PyData}, (∀ a ∈ as, IsAt a) → (awsD as).length ≤ as.length * 6563
  | [], _ => Nat.le_refl _
  | a :: as, h => by
    have h1 := (h a List.mem_cons_self).words.2.1
    have h2 := flat_lenF (f := fun b => .str cmS :: awD b) (k := 6563) (xs := as) fun b hb => by
      have := (h b (List.mem_cons_of_mem _ hb)).words.2.1
      rw [List.length_cons]
      omega
    show (awD a ++ _).length ≤ _
    rw [List.length_append, List.length_cons, Nat.succ_mul]
    omega
theorem awsD_sw {as : List PyData} (h : ∀ a ∈ as, IsAt a) : ∀ d ∈ awsD as, isSw d := by
  cases as with
  | nil => exact fun d hd => nomatch hd
  | cons a as =>
    intro d hd
    rcases List.mem_append.mp hd with hd | hd
    · exact ((h a List.mem_cons_self).words.2.2 d hd).sw
    · obtain ⟨b, hb, hd⟩ := List.mem_flatMap.mp hd
      rcases List.mem_cons.mp hd with rfl | hd
      · exact ⟨_, rfl, Tx.of (by decide +kernel)⟩
      · exact ((h b (List.mem_cons_of_mem _ hb)).words.2.2 d hd).sw
def preA1 (ds : List PyData) : Prop := ∃ a, ds = [a] ∧ IsAt a
def postAw (ds : List PyData) (r : Rs) : Prop := ∃ a, ds = [a] ∧ r = .l (awD a)
def IsCl (L R : List PyData) : Prop := L.length ≤ 5 ∧ (∀ a ∈ L, IsAt a) ∧ 1 ≤ R.length ∧ R.length ≤ 4 ∧ ∀ a ∈ R, IsAt a
def clD (L R : List PyData) : PyData := .tuple [.tuple L, .tuple R]
def cwD (L R : List PyData) : List PyData := awsD L ++ .str arS :: awsD R
theorem IsCl.sw {L R : List PyData} (h : IsCl L R) : (∀ d ∈ cwD L R, isSw d) ∧ (cwD L R).length ≤ 65000 := by
  obtain ⟨h1, h2, h3, h4, h5⟩ := h
  have s1 := awsD_size h2
  have s2 := awsD_size h5
  refine ⟨fun d hd => ?_, by unfold cwD; rw [List.length_append, List.length_cons]; omega⟩
  rcases List.mem_append.mp hd with hd | hd
  · exact awsD_sw h2 d hd
  · rcases List.mem_cons.mp hd with rfl | hd
    · exact ⟨_, rfl, Tx.of (by decide +kernel)⟩
    · exact awsD_sw h5 d hd
def preTm (n : Nat) (ds : List PyData) : Prop := ∃ d, ds = [d] ∧ Tm n d
def postTw (ds : List PyData) (r : Rs) : Prop := ∃ d, ds = [d] ∧ r = .l (twD d)
theorem ok_term_words (T : Top K mg) : ∀ n, n ≤ 10 → FnOk P w K mg base CX0 (n + 1) T.x_term_words.f T.x_term_words.fd P_term_words (spF K (preTm n) postTw)
  | 0, _ => fn_none fun ds h => by
    obtain ⟨d, _, h⟩ := h
    exact h
  | n + 1, hn => by
    have nd := sc_term_words.nd
    have G_term_words := ok_term_words T n (by omega)
    refine fn_ok T.x_term_words.F sc_term_words (fun ds h => ?_) (fun cdv A outer s H E hr => ⟨_, (pss_cons (ps_if (pt_val (pe_callB (isi_K (K := K) rfl) (by rfl) T.b_isinstance (by decide +kernel) (pa_cons (pv 0) (pa_cons (pe_bltn (v := .ty "str") (by rfl) T.b_str (by decide +kernel) rfl) pa_nil)))) (pss_one (ps_ret (pe_lst (pa_cons (pv 0) pa_nil)))) pss_nil)
    (pss_cons (ps_set (i := 1) nd rfl (by first | exact Or.inl rfl | exact Or.inr rfl) (pe_lst (pa_cons pe_str (pa_cons (pe_ix (ix_K (K := K) rfl) (pv 0) pe_int (fun _ _ => rfl)) pa_nil))))
    (pss_cons (ps_for PassesOwn.never rfl (it_K (K := K) rfl (pe_slice (sl_K (K := K) rfl) (pv 0) (po_some pe_int) po_none)) (pg_name (i := 2) nd rfl (by first | exact Or.inl rfl | exact Or.inr rfl))
      (pss_one (ps_expr (ex2_K (K := K) rfl (pv 1) (pe_call G_term_words (hr.mono (by first | decide | omega)) (by rfl) T.x_term_words.m T.x_term_words.F.kp T.x_term_words.b .nil pass0 (pa_cons (pv 2) pa_nil))))))
    (pss_one (ps_ret (pe_op (add_K (K := K) rfl) (pv 1) (pe_lst (pa_cons pe_str pa_nil)))))))), fun W0 ds hp => ?_⟩)
    · obtain ⟨d, rfl, _⟩ := h
      rfl
    obtain ⟨d, rfl, hT⟩ := hp
    have hbig := tw_size 10 d (hT.le hn)
    have h10 : (3 : Nat) * 3 ^ 10 = 177147 := by decide
    rw [h10] at hbig
    simp only [cx_K, cx_K2, startG, List.map, List.length, List.replicate, List.append, List.cons_append, List.nil_append]
    rcases hT with ⟨x, rfl, hx⟩ | ⟨m, ts, rfl, hm, h2, h3⟩
    · repeat' (walk_at "g")
      exact ⟨_, rfl, by rw [twD_str]⟩
    · have e2 := twD_tup (.str m) ts
      rw [e2] at hbig
      simp only [List.length_cons, List.length_append, List.length_nil] at hbig
      refine go_seq (go_if (wpT_imp (P := fun b => b = false) ?_ fun b hb => ⟨fun hb2 => ?_, fun _ => ?_⟩))
      · repeat' (walk_at "g")
      · rw [hb] at hb2
        cases hb2
      refine go_next (go_seq (go_asgN (wpN_lst (wpA_cons (wpE_str (wpA_cons (wpE_op (wpE_var rfl (wpE_int (opR_ixT (d := .str m) (atI_nat (j := 0) rfl) (wpA_nil ⟨Nat.le_of_ble_eq_true rfl, ?_⟩)))))))))))
      refine go_seq (go_for [2] (wpI_tup (wpE_tail rfl ⟨ts, rfl, fun i Γ' => ∃ x2, Γ' = [.d (.tuple (.str m :: ts)), .l (.str lpS :: .str m :: twAll (ts.take i)), x2], ⟨.no, by rw [List.take_zero, twAll_nil]; rfl⟩, ?_, ?_⟩)))
      · rintro i t Γ' hd ⟨x2, rfl⟩
        have hle : (twAll (ts.take i)).length ≤ (twAll ts).length := by
          conv => rhs; rw [← List.take_append_drop i ts]
          rw [twAll_append, List.length_append]
          omega
        have htl : (twD t).length ≤ (twAll ts).length := by
          have := List.mem_of_getElem? hd
          obtain ⟨p, q, e⟩ := List.append_of_mem this
          rw [e, twAll_append, twAll_cons, List.length_append, List.length_append]
          omega
        refine wpG_name (by decide) (go_extN rfl (wpN_call (wpA_cons (wpE_var rfl (wpA_nil ⟨⟨t, rfl, h3 t (List.mem_of_getElem? hd)⟩, ?_⟩)))))
        rintro r ⟨d', e, rfl⟩
        cases e
        refine ⟨_, rfl, by simp only [List.length_cons]; omega, .d t, ?_⟩
        rw [take_succ hd, twAll_append, twAll_cons, twAll_nil, List.append_nil]
        rfl
      · rintro Γ' ⟨x2, rfl⟩
        rw [List.take_length]
        refine go_retL (wpN_addVL rfl (wpN_lst (wpA_cons (wpE_str (wpA_nil ⟨Nat.le_of_ble_eq_true rfl, by simp only [List.length_cons, List.length_nil]; rw [sizeLine_eq]; omega, _, rfl, ?_⟩)))))
        rw [e2]
        rfl
theorem ok_atom_words (T : Top K mg) : FnOk P w K mg base CX0 12 T.x_atom_words.f T.x_atom_words.fd P_atom_words (spF K preA1 postAw) := by
  have nd := sc_atom_words.nd
  have G_term_words := ok_term_words (P := P) (w := w) (base := base) T 10 (Nat.le_refl _)
  refine fn_ok T.x_atom_words.F sc_atom_words (fun ds h => ?_) (fun cdv A outer s H E hr => ⟨_, (pss_cons (ps_set (i := 1) nd rfl (by first | exact Or.inl rfl | exact Or.inr rfl) (pe_lst (pa_cons (pe_ix (ix_K (K := K) rfl) (pv 0) pe_int (fun _ _ => rfl)) pa_nil)))
    (pss_cons (ps_for PassesOwn.never rfl (it_K (K := K) rfl (pe_ix (ix_K (K := K) rfl) (pv 0) pe_int (fun _ _ => rfl))) (pg_name (i := 2) nd rfl (by first | exact Or.inl rfl | exact Or.inr rfl))
      (pss_one (ps_expr (ex2_K (K := K) rfl (pv 1) (pe_call G_term_words (hr.mono (by first | decide | omega)) (by rfl) T.x_term_words.m T.x_term_words.F.kp T.x_term_words.b .nil pass0 (pa_cons (pv 2) pa_nil))))))
    (pss_one (ps_ret (pv 1))))), fun W0 ds hp => ?_⟩)
  · obtain ⟨d, rfl, _⟩ := h
    rfl
  obtain ⟨a, rfl, hA⟩ := hp
  have hw := hA.words
  obtain ⟨s, ts, rfl, hs, h1, h2, h3⟩ := hA
  have hsz := twAll_size h3
  have e6 : (3 : Nat) * 3 ^ 6 = 2187 := by decide
  rw [e6] at hsz
  simp only [cx_K, cx_K2, startG, List.map, List.length, List.replicate, List.append, List.cons_append, List.nil_append]
  refine go_seq (go_asgN (wpN_lst (wpA_cons (wpE_op (wpE_var rfl (wpE_int (opR_ixT (d := .str s) (atI_nat (j := 0) rfl) (wpA_nil ⟨Nat.le_of_ble_eq_true rfl, ?_⟩))))))))
  refine go_seq (go_for [2] (wpI_tup (wpE_op (wpE_var rfl (wpE_int (opR_ixT (d := .tuple ts) (atI_nat (j := 1) rfl) ⟨ts, rfl, fun i Γ' => ∃ x2, Γ' = [.d (.tuple [.str s, .tuple ts]), .l (.str s :: twAll (ts.take i)), x2], ⟨.no, by rw [List.take_zero, twAll_nil]; rfl⟩, ?_, ?_⟩))))))
  · rintro i t Γ' hd ⟨x2, rfl⟩
    have hle : (twAll (ts.take i)).length ≤ (twAll ts).length := by
      conv => rhs; rw [← List.take_append_drop i ts]
      rw [twAll_append, List.length_append]
      omega
    have htl : (twD t).length ≤ (twAll ts).length := by
      have := List.mem_of_getElem? hd
      obtain ⟨p, q, e⟩ := List.append_of_mem this
      rw [e, twAll_append, twAll_cons, List.length_append, List.length_append]
      omega
    refine wpG_name (by decide) (go_extN rfl (wpN_call (wpA_cons (wpE_var rfl (wpA_nil ⟨⟨t, rfl, (h3 t (List.mem_of_getElem? hd)).le (by decide)⟩, ?_⟩)))))
    rintro r ⟨d', e, rfl⟩
    cases e
    refine ⟨_, rfl, by simp only [List.length_cons]; omega, .d t, ?_⟩
    rw [take_succ hd, twAll_append, twAll_cons, twAll_nil, List.append_nil]
    rfl
  · rintro Γ' ⟨x2, rfl⟩
    rw [List.take_length]
    exact go_retV rfl ⟨_, rfl, rfl⟩
theorem cut_last (xs : List PyData) (d : PyData) : cutD (xs ++ [d]) none (some (-1)) = xs := by
  unfold cutD
  have e1 : HT.sIx (xs ++ [d]).length 0 none = 0 := rfl
  have e2 : HT.sIx (xs ++ [d]).length (xs ++ [d]).length (some (-1)) = xs.length := by
    have hl : (xs ++ [d]).length = xs.length + 1 := by simp
    rw [hl]
    show (HT.sIx _ _ (some (-1))) = _
    unfold HT.sIx
    simp
    all_goals (try omega)
  rw [e1, e2]
  simp
def preCw (ds : List PyData) : Prop := ∃ L R, ds = [clD L R] ∧ IsCl L R
def postCw (ds : List PyData) (r : Rs) : Prop := ∃ L R, ds = [clD L R] ∧ r = .l (cwD L R)
theorem ok_claim_words (T : Top K mg) : FnOk P w K mg base CX0 13 T.x_claim_words.f T.x_claim_words.fd P_claim_words (spF K preCw postCw) := by
  have nd := sc_claim_words.nd
  have G_atom_words := ok_atom_words (P := P) (w := w) (base := base) T
  refine fn_ok T.x_claim_words.F sc_claim_words (fun ds h => ?_) (fun cdv A outer s H E hr => ⟨_, (pss_cons (ps_set (i := 1) nd rfl (by first | exact Or.inl rfl | exact Or.inr rfl) (pe_lst pa_nil))
    (pss_cons (ps_for PassesOwn.never rfl (it_K (K := K) rfl (pv 0)) (pg_name (i := 2) nd rfl (by first | exact Or.inl rfl | exact Or.inr rfl))
      (pss_cons (ps_for PassesOwn.never rfl (enumT_K (K := K) rfl (by rfl) T.b_enumerate (pa_cons (pv 2) pa_nil)) (gt_K (K := K) (n := 2) rfl (by rfl) (pgs_cons (pg_name (i := 3) nd rfl (by first | exact Or.inl rfl | exact Or.inr rfl)) (pgs_cons (pg_name (i := 4) nd rfl (by first | exact Or.inl rfl | exact Or.inr rfl)) pgs_nil)))
      (pss_one (ps_expr (ex2_K (K := K) rfl (pv 1) (pe_op (add_K (K := K) rfl) (pe_op op_rep (pe_lst (pa_cons pe_str pa_nil)) (pe_callTy call_int1 (by rfl) T.b_int (by decide +kernel) (pa_cons (pe_cmpR op_gt (pv 3) pe_int (nomark _)) pa_nil))) (pe_call G_atom_words (hr.mono (by first | decide | omega)) (by rfl) T.x_atom_words.m T.x_atom_words.F.kp T.x_atom_words.b .nil pass0 (pa_cons (pv 4) pa_nil)))))))
    (pss_one (ps_expr (ap_K (K := K) rfl (pv 1) pe_str)))))
    (pss_one (ps_ret (pe_slice (sl_K (K := K) rfl) (pv 1) po_none (po_some (pe_un un_neg pe_int))))))), fun W0 ds hp => ?_⟩)
  · obtain ⟨_, _, rfl, _⟩ := h
    rfl
  obtain ⟨L, R, rfl, hC⟩ := hp
  have hside : ∀ d ∈ [PyData.tuple L, PyData.tuple R], ∃ as, d = .tuple as ∧ as.length ≤ 5 ∧ ∀ a ∈ as, IsAt a := fun d hd => by
    rcases List.mem_cons.mp hd with rfl | hd
    · exact ⟨L, rfl, hC.1, hC.2.1⟩
    · rw [List.mem_singleton.mp hd]
      exact ⟨R, rfl, by have := hC.2.2.2.1; omega, hC.2.2.2.2⟩
  simp only [cx_K, cx_K2, startG, List.map, List.length, List.replicate, List.append, List.cons_append, List.nil_append]
  unfold clD
  refine go_seq (go_asgN (wpN_lst (wpA_nil ⟨Nat.zero_le _, ?_⟩)))
  let F : PyData → List PyData := fun d => match d with | .tuple as => awsD as ++ [.str arS] | _ => []
  refine go_seq (go_for [2] (wpI_tup (wpE_var rfl ⟨_, rfl, fun i Γ' => ∃ (fs : List PyData) (x2 x3 x4 : Sl), Γ' = [.d (.tuple [.tuple L, .tuple R]), .l fs, x2, x3, x4] ∧ fs = ([PyData.tuple L, PyData.tuple R].take i).flatMap F ∧ fs.length ≤ i * 40000, ⟨[], .no, .no, .no, rfl, rfl, Nat.le_refl _⟩, ?_, ?_⟩)))
  · rintro i d Γ' hd ⟨fs, x2, x3, x4, rfl, hfs, hlen⟩
    have hi : i < 2 := (List.getElem?_eq_some_iff.mp hd).1
    obtain ⟨as, rfl, hal, hA⟩ := hside d (List.mem_of_getElem? hd)
    have htake := take_succ hd
    refine wpG_name (by decide) ?_
    refine go_seq (go_for [3, 4] (wpI_enumT (wpE_var rfl ⟨as, rfl, fun j Γ' => ∃ (x3 x4 : Sl), Γ' = [.d (.tuple [.tuple L, .tuple R]), .l (fs ++ awsD (as.take j)), .d (.tuple as), x3, x4], ⟨x3, x4, by rw [List.take_zero]; show _ = [_, Sl.l (fs ++ []), _, _, _]; rw [List.append_nil]; rfl⟩, ?_, ?_⟩)))
    · rintro j d Γ' hd2 ⟨x3, x4, rfl⟩
      obtain ⟨a, ha, rfl⟩ : ∃ a, as[j]? = some a ∧ d = .tuple [.int (j : Nat), a] := by
        have hj : j < as.length := by
          have := (List.getElem?_eq_some_iff.mp hd2).1
          rw [enD_len] at this
          exact this
        refine ⟨as[j], List.getElem?_eq_getElem hj, ?_⟩
        unfold enD at hd2
        rw [List.getElem?_map, List.getElem?_range hj] at hd2
        have := (Option.some.inj hd2).symm
        rw [this]
        show PyData.tuple [PyData.int (j : Nat), as.getD j .none] = _
        rw [List.getD_eq_getElem?_getD, List.getElem?_eq_getElem hj]
        rfl
      have hj : j < as.length := (List.getElem?_eq_some_iff.mp ha).1
      have hAa := hA a (List.mem_of_getElem? ha)
      have hw := hAa.words
      have hsz := awsD_size (as := as.take j) fun b hb => hA b (List.mem_of_mem_take hb)
      rw [List.length_take, Nat.min_eq_left (by omega)] at hsz
      have hsn := awsD_snoc (as.take j) a
      rw [← take_succ ha] at hsn
      refine wpG_tup rfl (wpGs_cons (wpG_name (by decide) (wpGs_cons (wpG_name (by decide) (wpGs_nil ?_)))))
      refine go_extN rfl (wpN_addL (wpN_rep (wpN_lst (wpA_cons (wpE_str (wpA_nil ⟨Nat.le_of_ble_eq_true rfl, wpE.imp (P := fun y => y = .int (if 0 < j then 1 else 0)) ?_ fun y hy => ⟨_, hy, ?_, ?_, Nat.le_of_ble_eq_true rfl, ?_⟩⟩))))))
      · repeat' (walk_at "g")
        by_cases h0 : 0 < j
        · rw [if_pos h0, if_pos (decide_eq_true (by omega))]
        · rw [if_neg h0, if_neg (by rw [decide_eq_false (by omega)]; decide)]
      · split <;> decide
      · split <;> decide
      refine wpN_call (wpA_cons (wpE_var rfl (wpA_nil ⟨⟨a, rfl, hAa⟩, ?_⟩)))
      rintro r ⟨a', e, rfl⟩
      cases e
      by_cases h0 : 0 < j
      · rw [if_pos h0]
        have hne : as.take j ≠ [] := fun z => by
          have := congrArg List.length z
          rw [List.length_take, List.length_nil] at this
          omega
        rw [if_neg hne] at hsn
        refine ⟨_, rfl, by rw [sizeLine_eq]; simp; omega, by simp; omega, .int (j : Nat) |> Sl.d, .d a, ?_⟩
        rw [hsn]
        simp
      · rw [if_neg h0]
        have hj0 : j = 0 := by omega
        subst hj0
        rw [List.take_zero, if_pos rfl] at hsn
        refine ⟨_, rfl, by rw [sizeLine_eq]; simp; omega, by simp [awsD]; omega, .int ((0 : Nat) : Int) |> Sl.d, .d a, ?_⟩
        rw [hsn, List.take_zero]
        simp [awsD]
    · rintro Γ' ⟨x3, x4, rfl⟩
      rw [enD_len, List.take_length]
      have hsz := awsD_size hA
      refine go_append rfl (wpE_str ⟨by rw [List.length_append]; omega, fs ++ awsD as ++ [.str arS], .d (.tuple as), x3, x4, rfl, ?_, by rw [List.length_append, List.length_append, List.length_singleton]; omega⟩)
      rw [htake, List.flatMap_append, ← hfs, List.append_assoc]
      simp [F]
  · rintro Γ' ⟨fs, x2, x3, x4, rfl, hfs, hlen⟩
    have e : fs = cwD L R ++ [.str arS] := by
      rw [hfs]
      simp [F, cwD]
    subst e
    refine go_retL (wpN_slL (wpL_var rfl (wpO_no (wpO_some (wpE_un (wpE_int (opU_neg ⟨-1, rfl, ?_⟩)))))))
    rw [cut_last]
    exact ⟨L, R, rfl, rfl⟩

/-! ### the drawers -/
def Az (x : Str) : Prop := 1 ≤ x.length ∧ x.length ≤ 8 ∧ ∀ c ∈ tl x, 97 ≤ c ∧ c ≤ 122
def azB (x : Str) : Bool := decide (1 ≤ x.length) && decide (x.length ≤ 8) && (tl x).all fun c => decide (97 ≤ c) && decide (c ≤ 122)
theorem Az.of {x : Str} (h : azB x = true) : Az x := by
  unfold azB at h
  simp only [Bool.and_eq_true, decide_eq_true_eq, List.all_eq_true] at h
  exact ⟨h.1.1, h.1.2, fun c hc => h.2 c hc⟩
theorem Az.tx {x : Str} (h : Az x) : Tx 30 x := ⟨by have := h.2.1; omega, fun c hc => by have := h.2.2 c hc; omega⟩
theorem Az.good {x : Str} (h : Az x) (n : x ∉ words3) : GoodN x := ⟨h.1, h.2.1, h.2.2, n⟩
theorem tt_good : GoodN (Str.ofString "tt") := (Az.of (by decide +kernel)).good (by decide +kernel)
def preB (ds : List PyData) : Prop := ds = [boxD]
def postNm (_ : List PyData) (r : Rs) : Prop := ∃ x, r = .d (.str x) ∧ GoodN x
theorem ok_wide_name (T : Top K mg) : FnOk P w K mg base CX0 2 T.x_wide_name.f T.x_wide_name.fd P_wide_name (spF K preB postNm) := by
  have nd := sc_wide_name.nd
  have G_take := ok_take (P := P) (w := w) (base := base) T
  refine fn_ok T.x_wide_name.F sc_wide_name (fun ds h => ?_) (fun cdv A outer s H E hr => ⟨_, (pss_cons (ps_set (i := 1) nd rfl (by first | exact Or.inl rfl | exact Or.inr rfl) pe_str)
    (pss_cons (ps_set (i := 2) nd rfl (by first | exact Or.inl rfl | exact Or.inr rfl) (pe_lst (pa_cons pe_str (pa_cons pe_str (pa_cons pe_str (pa_cons pe_str (pa_cons pe_str (pa_cons pe_str (pa_cons pe_str (pa_cons pe_str (pa_cons pe_str (pa_cons pe_str (pa_cons pe_str (pa_cons pe_str pa_nil))))))))))))))
    (pss_cons (ps_set (i := 3) nd rfl (by first | exact Or.inl rfl | exact Or.inr rfl) (jn_K (K := K) rfl pe_str (pe_lc (own := [("_law_k", 4)]) (by rfl) nd (pi_range1 (by rfl) T.b_range (pa_cons (pe_op (add_K (K := K) rfl) pe_int (pe_call G_take (hr.mono (by first | decide | omega)) (by rfl) T.x_take.m T.x_take.F.kp T.x_take.b .nil pass0 (pa_cons (pv 0) (pa_cons pe_int pa_nil)))) pa_nil)) (blkOk_by (by with_unfolding_all rfl)) (fun _ _ _ _ _ => (pg_name (i := 4) nd rfl (by first | exact Or.inl rfl | exact Or.inr rfl))) (fun _ _ _ _ _ => pts_nil) (fun _ _ _ _ _ => (pe_ix (ix_K (K := K) rfl) (pv 1) (pe_call G_take (hr.mono (by first | decide | omega)) (by rfl) T.x_take.m T.x_take.F.kp T.x_take.b .nil pass0 (pa_cons (pv 0) (pa_cons pe_int pa_nil))) (fun _ _ => rfl))))))
    (pss_cons (ps_if (pt_cmpR (eq_K (K := K) rfl (hu64 hr)) (pe_call G_take (hr.mono (by first | decide | omega)) (by rfl) T.x_take.m T.x_take.F.kp T.x_take.b .nil pass0 (pa_cons (pv 0) (pa_cons pe_int pa_nil))) pe_int (nomark _)) (pss_one (ps_set (i := 3) nd rfl (by first | exact Or.inl rfl | exact Or.inr rfl) (pe_ix (ix_K (K := K) rfl) (pv 2) (pe_call G_take (hr.mono (by first | decide | omega)) (by rfl) T.x_take.m T.x_take.F.kp T.x_take.b .nil pass0 (pa_cons (pv 0) (pa_cons pe_int pa_nil))) (fun _ _ => rfl)))) pss_nil)
    (pss_one (ps_ret (pe_ix (ix_K (K := K) rfl) (pe_lst (pa_cons (pv 3) (pa_cons pe_str pa_nil))) (pe_callTy call_int1 (by rfl) T.b_int (by decide +kernel) (pa_cons (pe_cmpR (in_K (K := K) rfl) (pv 3) (pe_tup (pa_cons pe_str (pa_cons pe_str (pa_cons pe_str pa_nil)))) (by rfl)) pa_nil)) (fun _ _ => rfl)))))))), fun W0 ds hp => ?_⟩)
  · cases h
    rfl
  cases hp
  simp only [cx_K, cx_K2, startG, List.map, List.length, List.replicate, List.append, List.cons_append, List.nil_append]
  refine go_seq (go_asg (wpE_str ?_))
  have hwords : ∀ d ∈ [PyData.str (Str.ofString "maker"), .str (Str.ofString "saying"), .str (Str.ofString "rule"), .str (Str.ofString "by"), .str (Str.ofString "same"), .str (Str.ofString "cases"), .str (Str.ofString "use"), .str (Str.ofString "fill"), .str (Str.ofString "put"), .str (Str.ofString "with"), .str (Str.ofString "rights"), .str (Str.ofString "again")], ∃ x, d = .str x ∧ Az x := by
    intro d hd
    simp only [List.mem_cons, List.mem_nil_iff, or_false] at hd
    rcases hd with rfl | rfl | rfl | rfl | rfl | rfl | rfl | rfl | rfl | rfl | rfl | rfl
    all_goals exact ⟨_, rfl, Az.of (by decide +kernel)⟩
  refine go_seq ?_
  repeat' (walk_at "g")
  refine wpE_joinC (fun c => 97 ≤ c ∧ c ≤ 122) 8 (by decide) ?_
  refine wpL_of_N (wpN_rel (fun y => ∃ c, y = .str ⟨#[c]⟩ ∧ 97 ≤ c ∧ c ≤ 122) (wpIc_of (wpI_rng1 ?_)))
  repeat' (walk_at "g")
  rename_i x hx0 hx1
  refine ⟨by omega, by omega, by rw [rngD_len]; omega, fun d hd => ?_, fun ys hl hy => ?_⟩
  · refine wpG_name (by decide) ?_
    repeat' (walk_at "g")
    exact opR_ixSany (by decide) (by assumption) (by assumption) fun c hc => ⟨c, rfl, letters_az c hc⟩
  rw [rngD_len] at hl
  refine ⟨by omega, hy, fun cs hcl hca => ?_⟩
  have haz : Az ⟨cs.toArray⟩ := by
    have hsl : (⟨cs.toArray⟩ : Str).length = cs.length := List.size_toArray
    have htl : tl ⟨cs.toArray⟩ = cs := List.toList_toArray
    exact ⟨by rw [hsl]; omega, by rw [hsl]; omega, by rw [htl]; exact hca⟩
  generalize (⟨cs.toArray⟩ : Str) = name at haz
  have fin : ∀ (z : Str) (b : Bool), Az z → b = decide (z ∈ (["if", "to", "lefts"] : List Str)) → opR K (rIx K) (.list [.str z, .str (Str.ofString "tt")]) (.int (if b = true then 1 else 0)) fun d => postNm [boxD] (.d d) := by
    intro z b hz hb
    cases b with
    | true => exact opR_ixL (d := .str (Str.ofString "tt")) (atI_nat (j := 1) rfl) ⟨_, rfl, tt_good⟩
    | false => exact opR_ixL (d := .str z) (atI_nat (j := 0) rfl) ⟨_, rfl, hz.good (of_decide_eq_false hb.symm)⟩
  repeat' (walk_at "g")
  · refine opLR_ixany (by assumption) (by simpa using (by assumption)) fun d hd => ?_
    obtain ⟨y, rfl, hy2⟩ := hwords d hd
    repeat' (walk_at "g")
    refine opR_inT (xs := ["if", "to", "lefts"]) ?_
    repeat' (walk_at "g")
    exact fin _ _ hy2 rfl
  · refine opR_inT (xs := ["if", "to", "lefts"]) ?_
    repeat' (walk_at "g")
    exact fin _ _ haz rfl
def NmD (d : PyData) : Prop := ∃ x, d = .str x ∧ GoodN x
def Nms (ys : List PyData) : Prop := ys ≠ [] ∧ ys.length ≤ 100 ∧ ∀ y ∈ ys, NmD y
def postNms (_ : List PyData) (r : Rs) : Prop := ∃ ys, r = .l ys ∧ Nms ys
theorem putD_keys {ds : List (PyData × PyData)} {k d : PyData} : ((putD ds k d).map (·.1) = ds.map (·.1) ∧ ds ≠ []) ∨ (putD ds k d).map (·.1) = ds.map (·.1) ++ [k] := by
  unfold putD
  split
  · rename_i h
    refine .inl ⟨?_, fun z => by rw [z] at h; simp at h⟩
    rw [List.map_map]
    refine List.map_congr_left fun p _ => ?_
    simp only [Function.comp]
    split <;> rfl
  · exact .inr (by rw [List.map_append]; rfl)
theorem ok_wide_names (T : Top K mg) : FnOk P w K mg base CX0 3 T.x_wide_names.f T.x_wide_names.fd P_wide_names (spF K preB postNms) := by
  have nd := sc_wide_names.nd
  have G_take := ok_take (P := P) (w := w) (base := base) T
  have G_wide_name := ok_wide_name (P := P) (w := w) (base := base) T
  refine fn_ok T.x_wide_names.F sc_wide_names (fun ds h => ?_) (fun cdv A outer s H E hr => ⟨_, (pss_cons (ps_set (i := 1) nd rfl (by first | exact Or.inl rfl | exact Or.inr rfl) pe_dnewK)
    (pss_cons (ps_for PassesOwn.never rfl (pi_range1 (by rfl) T.b_range (pa_cons (pe_op (add_K (K := K) rfl) pe_int (pe_call G_take (hr.mono (by first | decide | omega)) (by rfl) T.x_take.m T.x_take.F.kp T.x_take.b .nil pass0 (pa_cons (pv 0) (pa_cons pe_int pa_nil)))) pa_nil)) (pg_name (i := 2) nd rfl (by first | exact Or.inl rfl | exact Or.inr rfl))
      (pss_one (ps_dput (hu1 hr) (pv 1) (pe_call G_wide_name (hr.mono (by first | decide | omega)) (by rfl) T.x_wide_name.m T.x_wide_name.F.kp T.x_wide_name.b .nil pass0 (pa_cons (pv 0) pa_nil)) pe_bl (by rfl))))
    (pss_one (ps_ret (pe_callTy (call_listD (by rfl)) (by rfl) T.b_list (by decide +kernel) (pa_cons (pv 1) pa_nil)))))), fun W0 ds hp => ?_⟩)
  · cases h
    rfl
  cases hp
  simp only [cx_K, cx_K2, startG, List.map, List.length, List.replicate, List.append, List.cons_append, List.nil_append]
  refine go_seq (go_dnew ?_)
  refine go_seq (go_for [2] (wpI_rng1 ?_))
  repeat' (walk_at "g")
  rename_i x hx0 hx1
  refine ⟨by omega, by omega, fun i Γ' => ∃ (ks : List (PyData × PyData)) (x2 : Sl), Γ' = [.d boxD, .k ks, x2] ∧ (0 < i → ks ≠ []) ∧ ks.length ≤ i ∧ ∀ y ∈ ks.map (·.1), NmD y, ⟨[], .no, rfl, fun h => absurd h (Nat.lt_irrefl 0), Nat.le_refl _, fun y hy => nomatch hy⟩, ?_, ?_⟩
  · rintro i d Γ' hd ⟨ks, x2, rfl, hne, hl, hk⟩
    obtain ⟨hi, rfl⟩ := rngD_get hd
    refine wpG_name (by decide) (go_dput rfl (wpE_bl (wpE_call (wpA_cons (wpE_var rfl (wpA_nil ⟨rfl, ?_⟩))))))
    rintro r ⟨z, rfl, hz⟩
    refine ⟨.inr z, rfl, by omega, _, .d (.int (0 + (i : Int))), rfl, fun _ => ?_, ?_, ?_⟩
    · rcases putD_keys (ds := ks) (k := .str z) (d := .bool true) with ⟨e, h⟩ | e
      · intro n
        have := congrArg List.length e
        show False
        have e2 : (putD ks (.str z) (.bool true)) = [] := n
        rw [e2] at this
        cases ks with
        | nil => exact h rfl
        | cons a b => simp at this
      · intro n
        have e2 : (putD ks (.str z) (.bool true)) = [] := n
        rw [e2] at e
        simp at e
    · have hh : ((putD ks (.str z) (.bool true)).map (·.1)).length ≤ ks.length + 1 := by
        rcases putD_keys (ds := ks) (k := .str z) (d := .bool true) with ⟨e, h⟩ | e
        · rw [e, List.length_map]
          omega
        · rw [e, List.length_append, List.length_map, List.length_singleton]
          exact Nat.le_refl _
      rw [List.length_map] at hh
      exact Nat.le_trans hh (by omega)
    · intro y hy
      rcases putD_keys (ds := ks) (k := .str z) (d := .bool true) with ⟨e, h⟩ | e
      · have hy2 : y ∈ (putD ks (.str z) (.bool true)).map (·.1) := hy
        rw [e] at hy2
        exact hk y hy2
      · have hy2 : y ∈ (putD ks (.str z) (.bool true)).map (·.1) := hy
        rw [e] at hy2
        rcases List.mem_append.mp hy2 with hy2 | hy2
        · exact hk y hy2
        · rw [List.mem_singleton.mp hy2]
          exact ⟨z, rfl, hz⟩
  · rintro Γ' ⟨ks, x2, rfl, hne, hl, hk⟩
    rw [rngD_len] at hne hl
    refine go_retL (wpN_listK rfl ⟨_, rfl, fun n => hne (by omega) (List.map_eq_nil_iff.mp n), by rw [List.length_map]; omega, hk⟩)
/-! terms -/
def preWt (n : Nat) (ds : List PyData) : Prop := ∃ (ys : List PyData) (room down : Int), ds = [boxD, .list ys, .int room, .int down] ∧ Nms ys ∧ 1 ≤ room ∧ room ≤ 40 ∧ 0 ≤ down ∧ down + 1 = n
def postWt (n : Nat) (_ : List PyData) (r : Rs) : Prop := ∃ d, r = .d d ∧ Tm n d
theorem ok_wide_term (T : Top K mg) : ∀ n, FnOk P w K mg base CX0 (n + 3) T.x_wide_term.f T.x_wide_term.fd P_wide_term (spF K (preWt n) (postWt n))
  | 0 => fn_none fun ds h => by
    obtain ⟨_, _, _, _, _, _, _, h1, h2⟩ := h
    omega
  | n + 1 => by
    have nd := sc_wide_term.nd
    have G_take := ok_take (P := P) (w := w) (base := base) T
    have G_wide_name := ok_wide_name (P := P) (w := w) (base := base) T
    have G_wide_term := ok_wide_term T n
    refine fn_ok T.x_wide_term.F sc_wide_term (fun ds h => ?_) (fun cdv A outer s H E hr => ⟨_, (pss_cons (ps_if (PW.pt (pw_or (pt_cmpR op_lt (pv 2) pe_int (nomark _)) (pw_or (pt_cmpR op_lt (pv 3) pe_int (nomark _)) (pw_or1 (pt_cmpR (eq_K (K := K) rfl (hu64 hr)) (pe_call G_take (hr.mono (by first | decide | omega)) (by rfl) T.x_take.m T.x_take.F.kp T.x_take.b .nil pass0 (pa_cons (pv 0) (pa_cons pe_int pa_nil))) pe_int (nomark _)))))) (pss_one (ps_ret (pe_ix (ix_K (K := K) rfl) (pv 1) (pe_call G_take (hr.mono (by first | decide | omega)) (by rfl) T.x_take.m T.x_take.F.kp T.x_take.b .nil pass0 (pa_cons (pv 0) (pa_cons (pe_callB (len_K (K := K) rfl) (by rfl) T.b_len (by decide +kernel) (pa_cons (pv 1) pa_nil)) pa_nil))) (fun _ _ => rfl)))) pss_nil)
    (pss_cons (ps_par (i := 4) (j := 5) (by rfl) nd rfl rfl (by decide) rfl rfl (pa_cons (pe_op op_sub (pv 2) pe_int) (pa_cons (pe_lst pa_nil) pa_nil)) (by rfl))
    (pss_cons (ps_for PassesOwn.never rfl (pi_range1 (by rfl) T.b_range (pa_cons (pe_call G_take (hr.mono (by first | decide | omega)) (by rfl) T.x_take.m T.x_take.F.kp T.x_take.b .nil pass0 (pa_cons (pv 0) (pa_cons pe_int pa_nil))) pa_nil)) (pg_name (i := 6) nd rfl (by first | exact Or.inl rfl | exact Or.inr rfl))
      (pss_one (ps_if (pt_cmpR op_gt (pv 4) pe_int (nomark _)) (pss_cons (ps_set (i := 7) nd rfl (by first | exact Or.inl rfl | exact Or.inr rfl) (pe_op (add_K (K := K) rfl) pe_int (pe_call G_take (hr.mono (by first | decide | omega)) (by rfl) T.x_take.m T.x_take.F.kp T.x_take.b .nil pass0 (pa_cons (pv 0) (pa_cons (pv 4) pa_nil)))))
    (pss_cons (ps_expr (ap_K (K := K) rfl (pv 5) (pe_call G_wide_term (hr.mono (by first | decide | omega)) (by rfl) T.x_wide_term.m T.x_wide_term.F.kp T.x_wide_term.b .nil pass0 (pa_cons (pv 0) (pa_cons (pv 1) (pa_cons (pv 7) (pa_cons (pe_op op_sub (pv 3) pe_int) pa_nil)))))))
    (pss_one (ps_set (i := 4) nd rfl (by first | exact Or.inl rfl | exact Or.inr rfl) (pe_op op_sub (pv 4) (pv 7)))))) pss_nil)))
    (pss_one (ps_ret (pe_op (add_K (K := K) rfl) (pe_tup (pa_cons (pe_call G_wide_name (hr.mono (by first | decide | omega)) (by rfl) T.x_wide_name.m T.x_wide_name.F.kp T.x_wide_name.b .nil pass0 (pa_cons (pv 0) pa_nil)) pa_nil)) (pe_callTy (tof_K (K := K) rfl) (by rfl) T.b_tuple (by decide +kernel) (pa_cons (pv 5) pa_nil)))))))), fun W0 ds hp => ?_⟩)
    · obtain ⟨_, _, _, rfl, _⟩ := h
      rfl
    obtain ⟨ys, room, down, rfl, ⟨hy0, hy1, hy2⟩, hr1, hr2, hd0, hdn⟩ := hp
    simp only [cx_K, cx_K2, startG, List.map, List.length, List.replicate, List.append, List.cons_append, List.nil_append]
    have hyl : 0 < ys.length := List.length_pos_iff.mpr hy0
    repeat' (walk_at "g")
    iterate 3 exact opR_ixLany (by assumption) (by assumption) fun d hd => ⟨d, rfl, .inl (hy2 d hd)⟩
    have hdown : 1 ≤ down := by
      simp only [decide_eq_false_iff_not] at *
      omega
    refine go_for [6] (wpI_rng1 ?_)
    repeat' (walk_at "g")
    rename_i k hk0 hk1
    refine ⟨by omega, by omega, fun i Γ' => ∃ (left : Int) (ws : List PyData) (x6 x7 : Sl), Γ' = [.d boxD, .d (.list ys), .d (.int room), .d (.int down), .d (.int left), .l ws, x6, x7] ∧ ws.length ≤ i ∧ (∀ t ∈ ws, Tm n t) ∧ 0 ≤ left ∧ left ≤ 39, ⟨room - 1, [], _, _, rfl, Nat.le_refl _, fun _ h => (nomatch h), by omega, by omega⟩, ?_, ?_⟩
    · rintro i d Γ' hd ⟨left, ws, x6, x7, rfl, hl, hw, h0, h1⟩
      obtain ⟨hi, rfl⟩ := rngD_get hd
      refine wpG_name (by decide) ?_
      repeat' (walk_at "g")
      · rename_i x hx0 hx1
        refine ⟨⟨ys, 1 + x, down - 1, rfl, ⟨hy0, hy1, hy2⟩, by omega, by omega, by omega, by omega⟩, ?_⟩
        rintro r ⟨u, rfl, hu⟩
        refine ⟨by omega, ?_⟩
        repeat' (walk_at "g")
        refine ⟨left - (1 + x), ws ++ [u], _, _, rfl, by rw [List.length_append, List.length_singleton]; omega, fun t ht => ?_, by omega, by omega⟩
        rcases List.mem_append.mp ht with ht | ht
        · exact hw t ht
        · rw [List.mem_singleton.mp ht]
          exact hu
      · exact ⟨left, ws, _, _, rfl, by omega, hw, h0, h1⟩
    · rintro Γ' ⟨left, ws, x6, x7, rfl, hl, hw, h0, h1⟩
      rw [rngD_len] at hl
      repeat' (walk_at "g")
      refine ⟨rfl, ?_⟩
      rintro r ⟨m, rfl, hm⟩
      refine wpA_nil ⟨Nat.le_of_ble_eq_true rfl, ?_⟩
      simp only [Rs.data]
      repeat' (walk_at "g")
      · exact fun h => by cases h
      · simp only [List.length_cons, List.length_nil]
        omega
      · exact ⟨_, rfl, .inr ⟨m, ws, rfl, hm, by omega, hw⟩⟩
def upTo9 (n : Nat) : Prop := n ≤ 9
def preWtU (ds : List PyData) : Prop := ∃ n, upTo9 n ∧ preWt n ds
def postWtU (ds : List PyData) (r : Rs) : Prop := ∃ n, upTo9 n ∧ preWt n ds ∧ postWt n ds r
theorem fn_any {I : Type} {k : Nat} {f : Addr} {fd : FuncData} {ps : List Str} (c : I → Prop) (pre : I → List PyData → Prop) (post : I → List PyData → Rs → Prop) (i0 : I) (c0 : c i0) (F : ∀ i, c i → FnOk P w K mg base CX0 k f fd ps (spF K (pre i) (post i))) :
    FnOk P w K mg base CX0 k f fd ps (spF K (fun ds => ∃ i, c i ∧ pre i ds) (fun ds r => ∃ i, c i ∧ pre i ds ∧ post i ds r)) := by
  have one : ∀ vs H Q E, spF K (fun ds => ∃ i, c i ∧ pre i ds) (fun ds r => ∃ i, c i ∧ pre i ds ∧ post i ds r) vs H Q E → ∃ i, c i ∧ spF K (pre i) (post i) vs H Q E := by
    rintro vs H Q E ⟨W, ds, h1, h2, h3, ⟨i, ci, pi⟩, h5⟩
    exact ⟨i, ci, W, ds, h1, h2, h3, pi, fun v W' r le rs q => h5 v W' r le rs ⟨i, ci, pi, q⟩⟩
  refine ⟨fun vs H Q E s => ?_, fun A outer s H args us vs Q E hr he hb hv hs => ?_⟩
  · obtain ⟨i, ci, q⟩ := one vs H Q E s
    exact (F i ci).len vs H Q E q
  · obtain ⟨i, ci, q⟩ := one vs H Q E hs
    exact (F i ci).run A outer s H args us vs Q E hr he hb hv q
theorem ok_wide_termU (T : Top K mg) : FnOk P w K mg base CX0 14 T.x_wide_term.f T.x_wide_term.fd P_wide_term (spF K preWtU postWtU) :=
  fn_any upTo9 preWt postWt 0 (Nat.zero_le _) fun n hn => (ok_wide_term T n).mono (by have : n ≤ 9 := hn; omega)
def preTsD (ds : List PyData) : Prop := ∃ ys : List PyData, ds = [boxD, .list ys, .int 3] ∧ Nms ys
def postTsD (_ : List PyData) (r : Rs) : Prop := ∃ ts, r = .d (.tuple ts) ∧ 1 ≤ ts.length ∧ ts.length ≤ 3 ∧ ∀ t ∈ ts, Tm 6 t
theorem ok_wide_terms (T : Top K mg) : FnOk P w K mg base CX0 15 T.x_wide_terms.f T.x_wide_terms.fd P_wide_terms (spF K preTsD postTsD) := by
  have nd := sc_wide_terms.nd
  have G_take := ok_take (P := P) (w := w) (base := base) T
  have G_wide_term := ok_wide_termU (P := P) (w := w) (base := base) T
  refine fn_ok T.x_wide_terms.F sc_wide_terms (fun ds h => ?_) (fun cdv A outer s H E hr => ⟨_, (pss_one (ps_ret (pe_callTy (tof_K (K := K) rfl) (by rfl) T.b_tuple (by decide +kernel) (pa_cons (pe_lc (own := [("_law_k", 3)]) (by rfl) nd (pi_range1 (by rfl) T.b_range (pa_cons (pe_op (add_K (K := K) rfl) pe_int (pe_call G_take (hr.mono (by first | decide | omega)) (by rfl) T.x_take.m T.x_take.F.kp T.x_take.b .nil pass0 (pa_cons (pv 0) (pa_cons (pv 2) pa_nil)))) pa_nil)) (blkOk_by (by with_unfolding_all rfl)) (fun _ _ _ _ _ => (pg_name (i := 3) nd rfl (by first | exact Or.inl rfl | exact Or.inr rfl))) (fun _ _ _ _ _ => pts_nil) (fun _ _ _ _ _ => (pe_call G_wide_term (hr.mono (by first | decide | omega)) (by rfl) T.x_wide_term.m T.x_wide_term.F.kp T.x_wide_term.b .nil pass0 (pa_cons (pv 0) (pa_cons (pv 1) (pa_cons (pe_op (add_K (K := K) rfl) pe_int (pe_call G_take (hr.mono (by first | decide | omega)) (by rfl) T.x_take.m T.x_take.F.kp T.x_take.b .nil pass0 (pa_cons (pv 0) (pa_cons pe_int pa_nil)))) (pa_cons pe_int pa_nil))))))) pa_nil)))), fun W0 ds hp => ?_⟩)
  · obtain ⟨_, rfl, _⟩ := h
    rfl
  obtain ⟨ys, rfl, hY⟩ := hp
  simp only [cx_K, cx_K2, startG, List.map, List.length, List.replicate, List.append, List.cons_append, List.nil_append]
  refine go_ret (wpE_tof (wpL_of_N (wpN_rel (fun d => Tm 6 d) (wpIc_of (wpI_rng1 ?_)))))
  repeat' (walk_at "g")
  rename_i x hx0 hx1
  refine ⟨by omega, by omega, by rw [rngD_len]; omega, fun d hd => ?_, fun ts hl hy => ?_⟩
  · refine wpG_name (by decide) ?_
    repeat' (walk_at "g")
    rename_i z hz0 hz1
    refine ⟨⟨5, show 5 ≤ 9 by decide, ys, 1 + z, 4, rfl, hY, by omega, by omega, by decide, rfl⟩, ?_⟩
    rintro r ⟨n, hn, ⟨ys', room, down, e, _, _, _, _, hdn⟩, d, rfl, hT⟩
    simp only [List.cons.injEq, PyData.int.injEq, true_and, and_true] at e
    exact hT.le (by omega)
  · rw [rngD_len] at hl
    exact ⟨_, rfl, by omega, by omega, hy⟩
def preNB (ds : List PyData) : Prop := ∃ ys : List PyData, ds = [boxD, .list ys] ∧ Nms ys
def postAtD (_ : List PyData) (r : Rs) : Prop := ∃ a, r = .d a ∧ IsAt a
theorem ok_wide_atom (T : Top K mg) : FnOk P w K mg base CX0 16 T.x_wide_atom.f T.x_wide_atom.fd P_wide_atom (spF K preNB postAtD) := by
  have nd := sc_wide_atom.nd
  have G_wide_name := ok_wide_name (P := P) (w := w) (base := base) T
  have G_wide_terms := ok_wide_terms (P := P) (w := w) (base := base) T
  refine fn_ok T.x_wide_atom.F sc_wide_atom (fun ds h => ?_) (fun cdv A outer s H E hr => ⟨_, (pss_one (ps_ret (pe_tup (pa_cons (pe_call G_wide_name (hr.mono (by first | decide | omega)) (by rfl) T.x_wide_name.m T.x_wide_name.F.kp T.x_wide_name.b .nil pass0 (pa_cons (pv 0) pa_nil)) (pa_cons (pe_call G_wide_terms (hr.mono (by first | decide | omega)) (by rfl) T.x_wide_terms.m T.x_wide_terms.F.kp T.x_wide_terms.b .nil pass0 (pa_cons (pv 0) (pa_cons (pv 1) (pa_cons pe_int pa_nil)))) pa_nil))))), fun W0 ds hp => ?_⟩)
  · obtain ⟨_, rfl, _⟩ := h
    rfl
  obtain ⟨ys, rfl, hY⟩ := hp
  simp only [cx_K, cx_K2, startG, List.map, List.length, List.replicate, List.append, List.cons_append, List.nil_append]
  refine go_ret (wpE_tup (wpA_cons (wpE_call (wpA_cons (wpE_var rfl (wpA_nil ⟨rfl, ?_⟩))))))
  rintro r ⟨s, rfl, hs⟩
  refine wpA_cons (wpE_call (wpA_cons (wpE_var rfl (wpA_cons (wpE_var rfl (wpA_cons (wpE_int (wpA_nil ⟨⟨ys, rfl, hY⟩, ?_⟩))))))))
  rintro r ⟨ts, rfl, h1, h2, h3⟩
  exact wpA_nil ⟨Nat.le_of_ble_eq_true rfl, _, rfl, s, ts, rfl, hs, h1, h2, h3⟩
def postClD (_ : List PyData) (r : Rs) : Prop := ∃ L R, r = .d (clD L R) ∧ IsCl L R
theorem ok_wide_claim (T : Top K mg) : FnOk P w K mg base CX0 17 T.x_wide_claim.f T.x_wide_claim.fd P_wide_claim (spF K preNB postClD) := by
  have nd := sc_wide_claim.nd
  have G_take := ok_take (P := P) (w := w) (base := base) T
  have G_wide_atom := ok_wide_atom (P := P) (w := w) (base := base) T
  refine fn_ok T.x_wide_claim.F sc_wide_claim (fun ds h => ?_) (fun cdv A outer s H E hr => ⟨_, (pss_cons (ps_setLc (i := 2) (own := [("_law_k", 3)]) (by rfl) nd rfl rfl (sw_true rfl rfl rfl (by decide +kernel)) (pi_range1 (by rfl) T.b_range (pa_cons (pe_call G_take (hr.mono (by first | decide | omega)) (by rfl) T.x_take.m T.x_take.F.kp T.x_take.b .nil pass0 (pa_cons (pv 0) (pa_cons pe_int pa_nil))) pa_nil)) (blkOk_by (by with_unfolding_all rfl)) (fun _ _ _ _ _ => (pg_name (i := 3) nd rfl (by first | exact Or.inl rfl | exact Or.inr rfl))) (fun _ _ _ _ _ => pts_nil) (fun _ _ _ _ _ => (pe_call G_wide_atom (hr.mono (by first | decide | omega)) (by rfl) T.x_wide_atom.m T.x_wide_atom.F.kp T.x_wide_atom.b .nil pass0 (pa_cons (pv 0) (pa_cons (pv 1) pa_nil)))))
    (pss_one (ps_ret (pe_tup (pa_cons (pe_callTy (tof_K (K := K) rfl) (by rfl) T.b_tuple (by decide +kernel) (pa_cons (pv 2) pa_nil)) (pa_cons (pe_callTy (tof_K (K := K) rfl) (by rfl) T.b_tuple (by decide +kernel) (pa_cons (pe_lc (own := [("_law_k", 3)]) (by rfl) nd (pi_range1 (by rfl) T.b_range (pa_cons (pe_op (add_K (K := K) rfl) pe_int (pe_call G_take (hr.mono (by first | decide | omega)) (by rfl) T.x_take.m T.x_take.F.kp T.x_take.b .nil pass0 (pa_cons (pv 0) (pa_cons pe_int pa_nil)))) pa_nil)) (blkOk_by (by with_unfolding_all rfl)) (fun _ _ _ _ _ => (pg_name (i := 3) nd rfl (by first | exact Or.inl rfl | exact Or.inr rfl))) (fun _ _ _ _ _ => pts_nil) (fun _ _ _ _ _ => (pe_call G_wide_atom (hr.mono (by first | decide | omega)) (by rfl) T.x_wide_atom.m T.x_wide_atom.F.kp T.x_wide_atom.b .nil pass0 (pa_cons (pv 0) (pa_cons (pv 1) pa_nil))))) pa_nil)) pa_nil)))))), fun W0 ds hp => ?_⟩)
  · obtain ⟨_, rfl, _⟩ := h
    rfl
  obtain ⟨ys, rfl, hY⟩ := hp
  simp only [cx_K, cx_K2, startG, List.map, List.length, List.replicate, List.append, List.cons_append, List.nil_append]
  have atom : ∀ {Γ : Gm} {Q : PyData → Prop}, Γ[0]? = some (.d boxD) → Γ[1]? = some (.d (.list ys)) → (∀ a, IsAt a → Q a) → wpE K W0 (tCall (spF K preNB postAtD) [] E0 (tCons (tVar 0) (tCons (tVar 1) tNil))) Γ Q := by
    intro Γ Q g0 g1 q
    refine wpE_call (wpA_cons (wpE_var g0 (wpA_cons (wpE_var g1 (wpA_nil ⟨⟨ys, rfl, hY⟩, ?_⟩)))))
    rintro r ⟨a, rfl, hA⟩
    exact q a hA
  refine go_seq (go_asgN (wpN_rel IsAt (wpIc_of (wpI_rng1 ?_))))
  repeat' (walk_at "g")
  rename_i x hx0 hx1
  refine ⟨by omega, by omega, by rw [rngD_len]; omega, fun d hd => ?_, fun L hl hL => ?_⟩
  · exact wpG_name (by decide) (atom rfl rfl fun a h => h)
  rw [rngD_len] at hl
  refine go_ret (wpE_tup (wpA_cons (wpE_tof (wpL_var rfl (wpA_cons (wpE_tof (wpL_of_N (wpN_rel IsAt (wpIc_of (wpI_rng1 ?_))))))))))
  repeat' (walk_at "g")
  rename_i z hz0 hz1
  refine ⟨by omega, by omega, by rw [rngD_len]; omega, fun d hd => ?_, fun R hr2 hR => ?_⟩
  · exact wpG_name (by decide) (atom rfl rfl fun a h => h)
  rw [rngD_len] at hr2
  exact wpA_nil ⟨Nat.le_of_ble_eq_true rfl, L, R, rfl, by omega, hL, by omega, by omega, hR⟩

/-! ### what terms are read -/
theorem step_keep {x y : List (List PyData)} {w : PyData} (hT : ∀ q ∈ x, trmL q = true) (h : stepW x w = some y) : (∀ q ∈ y, trmL q = true) ∧ sumN y ≤ sumN x + 1 := by
  cases w with
  | str s =>
    rcases List.eq_nil_or_concat x with rfl | ⟨ps, q, rfl⟩
    · simp only [stepW] at h
      split at h
      · cases h
        exact ⟨fun q hq => by rw [List.mem_singleton.mp hq]; simp [trmL, trm], by simp [sumN, nodL, nod]⟩
      · split at h
        · cases h
          exact ⟨fun q hq => by rw [List.mem_singleton.mp hq]; simp [trmL], by simp [sumN, nodL]⟩
        · split at h
          · rename_i z
            simp at z
          · cases h
    · rw [List.concat_eq_append] at h hT ⊢
      have hqm : q ∈ ps ++ [q] := by simp
      by_cases hn : isName s = true
      · rw [step_name hn] at h
        cases h
        refine ⟨fun p hp => ?_, ?_⟩
        · rcases List.mem_append.mp hp with hp | hp
          · exact hT p (by simp [hp])
          · rw [List.mem_singleton.mp hp, trmL_app, hT q hqm]
            simp [trmL, trm]
        · rw [sumN_app, sumN_app]
          have e1 : sumN [q ++ [.str s]] = sumN [q] + 1 := by simp [sumN, nodL_app, nodL, nod]
          omega
      · have hn' : isName s = false := by simpa using hn
        by_cases h2 : s = lpS ∧ beg (ps ++ [q]) = false
        · obtain ⟨rfl, hb⟩ := h2
          rw [step_lp hb] at h
          cases h
          refine ⟨fun p hp => ?_, ?_⟩
          · rcases List.mem_append.mp hp with hp | hp
            · exact hT p hp
            · rw [List.mem_singleton.mp hp]
              simp [trmL]
          · rw [sumN_app]
            have e1 : sumN [[]] = 0 := by simp [sumN, nodL]
            omega
        · by_cases h3 : s = rpS ∧ 1 < (ps ++ [q]).length ∧ beg (ps ++ [q]) = false
          · obtain ⟨rfl, hl, hb⟩ := h3
            obtain ⟨ps, p', rfl⟩ := last_split (l := ps) (fun z => by rw [List.length_append, List.length_singleton] at hl; omega)
            have hqn : q ≠ [] := fun z => by
              rw [beg_last, z] at hb
              simp at hb
            rw [step_rp hqn] at h
            cases h
            refine ⟨fun p hp => ?_, ?_⟩
            · rcases List.mem_append.mp hp with hp | hp
              · exact hT p (by simp [hp])
              · rw [List.mem_singleton.mp hp, trmL_app, hT p' (by simp)]
                have := hT q hqm
                cases q with
                | nil => exact absurd rfl hqn
                | cons a b => simp [trmL, trm] at this ⊢; exact this
            · rw [sumN_app, sumN_app, sumN_app]
              have e1 : sumN [p' ++ [.tuple q]] = sumN [p'] + (1 + sumN [q]) := by simp [sumN, nodL_app, nodL, nod]
              omega
          · rw [step_bad hn' h2 h3] at h
            cases h
  | _ => simp [stepW] at h
theorem run_keep : ∀ {ws : List PyData} {x y : List (List PyData)}, (∀ q ∈ x, trmL q = true) → runW x ws = some y → (∀ q ∈ y, trmL q = true) ∧ sumN y ≤ sumN x + ws.length
  | [], x, y, hT, h => by
    cases h
    exact ⟨hT, by simp⟩
  | w :: ws, x, y, hT, h => by
    rw [runW] at h
    split at h
    · rename_i z hz
      obtain ⟨h1, h2⟩ := step_keep hT hz
      obtain ⟨h3, h4⟩ := run_keep h1 h
      exact ⟨h3, by rw [List.length_cons]; omega⟩
    · cases h
theorem tF_tup {ws ts : List PyData} (h : tF ws = .tuple ts) : trmL ts = true ∧ ts.length ≤ ws.length := by
  unfold tF at h
  split at h
  · rename_i us hu
    split at h
    · cases h
      obtain ⟨h1, h2⟩ := run_keep (x := [[]]) (by simp [trmL]) hu
      have e : sumN [[]] = 0 := by simp [sumN, nodL]
      have := sumN_mem (x := [ts]) (q := ts) (by simp)
      have := nodL_len ts
      exact ⟨h1 ts (by simp), by omega⟩
    · cases h
  · cases h
theorem line6 {n : Nat} (h : n ≤ 1000000) : n ≤ sizeLine := by
  have hs : sizeLine = 16777216 := sizeLine_eq
  omega
/-! ### expressions that are told by their text -/
section
variable {W0 : Wd} {Γ : Gm}
def Dx (K : PySem.W.Frag) (W0 : Wd) (Γ : Gm) (te : TE) (d : PyData) : Prop := wpE K W0 te Γ fun x => x = d
def Da (K : PySem.W.Frag) (W0 : Wd) (Γ : Gm) (t : TA) (ds : List PyData) : Prop := wpA K W0 t Γ fun xs => xs = ds
def Sx (K : PySem.W.Frag) (W0 : Wd) (Γ : Gm) (te : TE) (s : Str) : Prop := s.length ≤ 16777216 → wpE K W0 te Γ fun x => x = .str s
theorem Dx.use {te : TE} {d : PyData} {Q : PyData → Prop} (h : Dx K W0 Γ te d) (q : Q d) : wpE K W0 te Γ Q := wpE.imp h fun x e => by
  rw [e]
  exact q
theorem Sx_cat {ta tb : TE} {x y : Str} (h1 : Sx K W0 Γ ta x) (h2 : Sx K W0 Γ tb y) : Sx K W0 Γ (tOp (rADD K) ta tb) (x ++ y) := fun h => by
  rw [Str.length_append] at h
  refine wpE_op ((h1 (by omega)).imp fun u e => (h2 (by omega)).imp fun v e2 => ?_)
  rw [e, e2]
  exact add_str (by have : sizeLine = 16777216 := sizeLine_eq; omega) rfl
theorem Sx_lit {s : Str} : Sx K W0 Γ (tC (.str s)) s := fun _ => wpE_str rfl
theorem Sx_var {i : Nat} {s : Str} (h : Γ[i]? = some (.d (.str s))) : Sx K W0 Γ (tVar i) s := fun _ => wpE_var h rfl
theorem Sx_ix {i : Nat} {j : Int} {xs : List PyData} {s : Str} (h : Γ[i]? = some (.d (.list xs))) (h2 : atI xs j = some (.str s)) : Sx K W0 Γ (tOp (rIx K) (tVar i) (tC (.int j))) s := fun _ => wpE_op (wpE_var h (wpE_int (opR_ixL h2 rfl)))
theorem Dx_var {i : Nat} {d : PyData} (h : Γ[i]? = some (.d d)) : Dx K W0 Γ (tVar i) d := wpE_var h rfl
theorem Dx_int {i : Int} : Dx K W0 Γ (tC (.int i)) (.int i) := wpE_int rfl
theorem Dx_str {s : Str} : Dx K W0 Γ (tC (.str s)) (.str s) := wpE_str rfl
theorem Dx_rf {f : Addr} : Dx K W0 Γ (tC (.ref f)) (rfD f) := wpE_c (fun _ => .rf) rfl
theorem Dx_ix {i : Nat} {j : Int} {xs : List PyData} {d : PyData} (h : Γ[i]? = some (.d (.list xs))) (h2 : atI xs j = some d) : Dx K W0 Γ (tOp (rIx K) (tVar i) (tC (.int j))) d := wpE_op (wpE_var h (wpE_int (opR_ixL h2 rfl)))
theorem Da_nil : Da K W0 Γ tNil [] := wpA_nil rfl
theorem Da_cons {te : TE} {t : TA} {d : PyData} {ds : List PyData} (h1 : Dx K W0 Γ te d) (h2 : Da K W0 Γ t ds) : Da K W0 Γ (tCons te t) (d :: ds) := wpA_cons (Dx.use h1 (fun W σ S Q k => h2 W σ S Q fun vs W' xs e f p => k vs W' xs e f (by rw [p])))
theorem Dx_tup {t : TA} {ds : List PyData} (h : Da K W0 Γ t ds) (hl : ds.length ≤ 100) : Dx K W0 Γ (tTup t) (.tuple ds) := wpE_tup fun W σ S Q k => h W σ S Q fun vs W' xs e f p => k vs W' xs e f (by
  rw [p]
  exact ⟨line6 (by omega), rfl⟩)
theorem wpN_da {t : TA} {ds : List PyData} {P : List PyData → Prop} (h : Da K W0 Γ t ds) (hl : ds.length ≤ 100) (p : P ds) : wpN K W0 (tLst t) Γ P := wpN_lst fun W σ S Q k => h W σ S Q fun vs W' xs e f q => k vs W' xs e f (by
  rw [q]
  exact ⟨line6 (by omega), p⟩)
end
local macro_rules
  | `(tactic| walk_at "tup") => `(tactic| first | exact Dx_rf | exact Dx_int | exact Dx_str | refine Dx_tup ?_ ?_ | refine Da_cons ?_ ?_ | exact Da_nil | exact Dx_ix rfl rfl | exact Dx_var rfl | exact Nat.le_of_ble_eq_true rfl)

/-! ### rows with something otherwise -/
def jl (ws : List PyData) : Nat := (ws.map fun d => (strOf d).length + 1).sum
theorem jl_app (a b : List PyData) : jl (a ++ b) = jl a + jl b := by simp [jl]
theorem jl_cut (ws : List PyData) (n : Nat) : jl (ws.take n) ≤ jl ws ∧ jl (ws.drop n) ≤ jl ws := by
  have := jl_app (ws.take n) (ws.drop n)
  rw [List.take_append_drop] at this
  omega
theorem jl_two (ws : List PyData) {m n : Nat} (h : m ≤ n) : jl (ws.take m) + jl (ws.drop n) ≤ jl ws := by
  have h1 := jl_app (ws.take n) (ws.drop n)
  rw [List.take_append_drop] at h1
  have h2 : (ws.take n).take m = ws.take m := by rw [List.take_take, Nat.min_eq_left h]
  have := (jl_cut (ws.take n) m).1
  rw [h2] at this
  omega
theorem jl_mem {ws : List PyData} {d : PyData} (h : d ∈ ws) : (strOf d).length + 1 ≤ jl ws := by
  obtain ⟨a, b, rfl⟩ := List.append_of_mem h
  have : jl (d :: b) = (strOf d).length + 1 + jl b := by simp [jl]
  rw [jl_app, this]
  omega
theorem join_jl {y : Str} (hy : y.length = 1) : ∀ {ps : List Str}, ps ≠ [] → (Str.join y ps).length + 1 = (ps.map fun s => s.length + 1).sum
  | [x], _ => by simp [Str.join]
  | x :: z :: r, _ => by
    have ih := join_jl hy (ps := z :: r) (by simp)
    show (x ++ y ++ Str.join y (z :: r)).length + 1 = _
    rw [Str.length_append, Str.length_append, hy, List.map_cons, List.sum_cons]
    omega
theorem sp_len : (Str.ofString " ").length = 1 := by decide +kernel
theorem jl_wsT (x : Str) : jl (wsT x) = x.length + 1 := by
  have hne : Txt.split x (Str.ofString " ") ≠ [] := fun z => by
    have := PyProof.Rows.split_pos x (Str.ofString " ")
    rw [z] at this
    simp at this
  have e := join_jl sp_len hne
  rw [StrLaws.join_split] at e
  rw [e]
  unfold jl wsT
  rw [List.map_map]
  rfl
theorem joinL_mem {S : List Nat} {c : Nat} : ∀ {ps : List (List Nat)}, c ∈ TL.joinL S ps → c ∈ S ∨ ∃ p ∈ ps, c ∈ p
  | [], h => by cases h
  | [p], h => .inr ⟨p, List.mem_singleton.mpr rfl, h⟩
  | p :: q :: r, h => by
    have h' : c ∈ p ++ (S ++ TL.joinL S (q :: r)) := h
    rcases List.mem_append.mp h' with h | h
    · exact .inr ⟨p, List.mem_cons_self, h⟩
    · rcases List.mem_append.mp h with h | h
      · exact .inl h
      · exact (joinL_mem h).imp id fun ⟨z, hz, q⟩ => ⟨z, List.mem_cons_of_mem _ hz, q⟩
def vld (d : PyData) : Prop := ∃ x, d = .str x ∧ ∀ c ∈ tl x, c < 1114112
theorem vl_strs : ∀ {ws : List PyData}, (∀ d ∈ ws, vld d) → ws = (ws.map strOf).map PyData.str
  | [], _ => rfl
  | d :: ws, h => by
    obtain ⟨x, rfl, _⟩ := h d List.mem_cons_self
    rw [List.map_cons, List.map_cons, ← vl_strs fun e he => h e (List.mem_cons_of_mem _ he)]
    rfl
theorem sum_jl (ws : List PyData) : ((ws.map strOf).map (·.length)).sum + (ws.map strOf).length = jl ws := by
  induction ws with
  | nil => rfl
  | cons d ws ih =>
    have e : jl (d :: ws) = (strOf d).length + 1 + jl ws := by simp [jl]
    rw [List.map_cons, List.map_cons, List.sum_cons, List.length_cons, e, ← ih]
    omega
theorem isTw.vl {d : PyData} (h : isTw d) : vld d := by
  obtain ⟨x, rfl, h⟩ := h
  exact ⟨x, rfl, h.2⟩
section
variable {W0 : Wd} {Γ : Gm} {te : TE}
theorem w_joinJ {P : PyData → Prop} (h : wpL K W0 te Γ fun ws => (∀ d ∈ ws, vld d) ∧ jl ws ≤ 16000000 ∧ ∀ u, Tx (jl ws) u → P (.str u)) : wpE K W0 (tM1 (rJoin K) (tC (.str (Str.ofString " "))) te) Γ P := by
  refine wpE_join (wpE_str ⟨_, rfl, ?_⟩)
  intro W σ S Q k
  refine h W σ S Q fun v W' ds e l ⟨h1, h2, h3⟩ => k v W' ds e l ⟨ds.map strOf, vl_strs h1, ?_, h3 _ ⟨?_, fun c hc => ?_⟩⟩
  · have := sum_jl ds
    rw [sp_len]
    omega
  · have h4 := StrLaws.join_length_le (Str.ofString " ") (ds.map strOf)
    have := sum_jl ds
    rw [sp_len] at h4
    rw [TL.join_eq]
    omega
  · have hc2 : c ∈ TL.tl (Txt.join (Str.ofString " ") (ds.map strOf)) := hc
    rw [TL.join_eq, TL.tl_join] at hc2
    rcases joinL_mem hc2 with q | ⟨p, hp, q⟩
    · have e : TL.tl (Str.ofString " ") = [32] := by decide +kernel
      rw [e] at q
      rw [List.mem_singleton.mp q]
      decide
    · obtain ⟨s, hs, rfl⟩ := List.mem_map.mp hp
      obtain ⟨d, hd, rfl⟩ := List.mem_map.mp hs
      obtain ⟨x, rfl, hx⟩ := h1 d hd
      exact hx c q
theorem cut_to {xs : List PyData} {n : Nat} : cutD xs none (some (n : Int)) = xs.take n := by
  unfold cutD
  rw [HT.sIx_nat, HT.sIx_none, List.drop_zero, Nat.sub_zero]
  by_cases h : n ≤ xs.length
  · rw [Nat.min_eq_left h]
  · rw [Nat.min_eq_right (by omega), List.take_of_length_le (Nat.le_refl _), List.take_of_length_le (by omega)]
theorem w_slTo {i n : Nat} {ws : List PyData} {P : List PyData → Prop} (hi : Γ[i]? = some (.d (.list ws))) (h : wpE K W0 te Γ fun d => d = .int (n : Nat)) (p : P (ws.take n)) : wpN K W0 (tSl (rSL K) (tVar i) tNoPart (tPart te)) Γ P :=
  wpN_slL (wpL_of_E (wpE_var hi ⟨_, rfl, wpO_no (wpO_some (h.imp fun d e => ⟨_, e, by rw [cut_to]; exact p⟩))⟩))
theorem w_slFrom {i n : Nat} {ws : List PyData} {P : List PyData → Prop} (hi : Γ[i]? = some (.d (.list ws))) (h : wpE K W0 te Γ fun d => d = .int (n : Nat)) (p : P (ws.drop n)) : wpN K W0 (tSl (rSL K) (tVar i) (tPart te) tNoPart) Γ P :=
  wpN_slL (wpL_of_E (wpE_var hi ⟨_, rfl, wpO_some (h.imp fun d e => ⟨_, e, wpO_no (by rw [cut_from]; exact p)⟩)⟩))
theorem w_plus1 {i n : Nat} (hi : Γ[i]? = some (.d (.int (n : Nat)))) : wpE K W0 (tOp (rADD K) (tVar i) (tC (.int 1))) Γ fun d => d = .int ((n + 1 : Nat) : Int) :=
  wpE_op (wpE_var hi (wpE_int (add_int (by congr 1))))
end
def shW (d : PyData) : Bool := match d with
  | .str x => txB 9 x
  | _ => false
theorem shW_of {ds : List PyData} {d : PyData} (h : ds.all shW = true) (hd : d ∈ ds) : ∃ x, d = .str x ∧ Tx 9 x := by
  have := List.all_eq_true.mp h d hd
  unfold shW at this
  split at this
  · exact ⟨_, rfl, Tx.of this⟩
  · cases this
def preOw (ds : List PyData) : Prop := ∃ ws, ds = [boxD, .list ws] ∧ ws ≠ [] ∧ ws.length ≤ 7000000
def postOw (ds : List PyData) (r : Rs) : Prop := ∃ ws d, ds = [boxD, .list ws] ∧ r = .d d ∧ (d ∈ ws ∨ ∃ x, d = .str x ∧ Tx 9 x)
theorem ok_other_word (T : Top K mg) : FnOk P w K mg base CX0 2 T.x_other_word.f T.x_other_word.fd P_other_word (spF K preOw postOw) := by
  have nd := sc_other_word.nd
  have G_take := ok_take (P := P) (w := w) (base := base) T
  refine fn_ok T.x_other_word.F sc_other_word (fun ds h => ?_) (fun cdv A outer s H E hr => ⟨_, (pss_cons (ps_set (i := 2) nd rfl (by first | exact Or.inl rfl | exact Or.inr rfl) (pe_lst (pa_cons pe_str (pa_cons pe_str (pa_cons pe_str (pa_cons pe_str (pa_cons pe_str (pa_cons pe_str (pa_cons pe_str (pa_cons pe_str (pa_cons pe_str (pa_cons pe_str (pa_cons pe_str (pa_cons pe_str (pa_cons pe_str (pa_cons pe_str (pa_cons pe_str (pa_cons pe_str (pa_cons pe_str pa_nil)))))))))))))))))))
    (pss_cons (ps_set (i := 2) nd rfl (by first | exact Or.inl rfl | exact Or.inr rfl) (pe_op (add_K (K := K) rfl) (pv 2) (pe_lst (pa_cons pe_str (pa_cons pe_str (pa_cons pe_str (pa_cons pe_str (pa_cons pe_str (pa_cons pe_str (pa_cons pe_str (pa_cons pe_str (pa_cons pe_str (pa_cons pe_str (pa_cons pe_str (pa_cons pe_str (pa_cons pe_str pa_nil))))))))))))))))
    (pss_one (ps_ret (pe_ix (ix_K (K := K) rfl) (pe_op (add_K (K := K) rfl) (pv 2) (pe_lst (pa_cons (pe_ix (ix_K (K := K) rfl) (pv 1) (pe_call G_take (hr.mono (by first | decide | omega)) (by rfl) T.x_take.m T.x_take.F.kp T.x_take.b .nil pass0 (pa_cons (pv 0) (pa_cons (pe_callB (len_K (K := K) rfl) (by rfl) T.b_len (by decide +kernel) (pa_cons (pv 1) pa_nil)) pa_nil))) (fun _ _ => rfl)) pa_nil))) (pe_call G_take (hr.mono (by first | decide | omega)) (by rfl) T.x_take.m T.x_take.F.kp T.x_take.b .nil pass0 (pa_cons (pv 0) (pa_cons pe_int pa_nil))) (fun _ _ => rfl)))))), fun W0 ds hp => ?_⟩)
  · obtain ⟨_, rfl, _⟩ := h
    rfl
  obtain ⟨ws, rfl, hne, hl⟩ := hp
  have hpos : 0 < ws.length := List.length_pos_iff.mpr hne
  simp only [cx_K, cx_K2, startG, List.map, List.length, List.replicate, List.append, List.cons_append, List.nil_append]
  refine go_seq (go_asgN (wpN_da (ds := ["", "(", ")", ",", "=>", "if", "to", "lefts", "rights", "with", "-", "by", "0", "01", "+1", "-1", "1_0"].map fun s => .str (Str.ofString s)) (by repeat' (walk_at "tup")) (by show 17 ≤ 100; decide) ?_))
  refine go_seq (go_asgN (wpN_addVL rfl (wpN_da (ds := ["10000", "9999", "x", "abcdefghi", "A", "maker", "saying", "rule", "7", "again", "hyp", "x1", "="].map fun s => .str (Str.ofString s)) (by repeat' (walk_at "tup")) (by show 13 ≤ 100; decide) ⟨line6 (by show 17 + 13 ≤ 1000000; decide), ?_⟩)))
  have hall : ((["", "(", ")", ",", "=>", "if", "to", "lefts", "rights", "with", "-", "by", "0", "01", "+1", "-1", "1_0"].map fun s => PyData.str (Str.ofString s)) ++ (["10000", "9999", "x", "abcdefghi", "A", "maker", "saying", "rule", "7", "again", "hyp", "x1", "="].map fun s => PyData.str (Str.ofString s))).all shW = true := by decide +kernel
  have hlen : ((["", "(", ")", ",", "=>", "if", "to", "lefts", "rights", "with", "-", "by", "0", "01", "+1", "-1", "1_0"].map fun s => PyData.str (Str.ofString s)) ++ (["10000", "9999", "x", "abcdefghi", "A", "maker", "saying", "rule", "7", "again", "hyp", "x1", "="].map fun s => PyData.str (Str.ofString s))).length = 30 := rfl
  generalize (["", "(", ")", ",", "=>", "if", "to", "lefts", "rights", "with", "-", "by", "0", "01", "+1", "-1", "1_0"].map fun s => PyData.str (Str.ofString s)) ++ (["10000", "9999", "x", "abcdefghi", "A", "maker", "saying", "rule", "7", "again", "hyp", "x1", "="].map fun s => PyData.str (Str.ofString s)) = L at hall hlen ⊢
  refine go_ret (wpE_op (wpE_of_N (wpN_addVL rfl (wpN_lst (wpA_cons (wpE_op (wpE_var rfl (w_take' rfl (wpE_CB (wpA_cons (wpE_var rfl (wpA_nil (opC_lenL ⟨_, rfl, by omega, by omega, fun x hx0 hx1 => opR_ixLany hx0 hx1 fun d hd => wpA_nil ⟨Nat.le_of_ble_eq_true rfl, line6 (by show L.length + 1 ≤ 1000000; omega), ?_⟩⟩)))))))))))))
  refine w_take rfl (by decide) (by decide) fun y hy0 hy1 => opR_ixLany hy0 (by rw [List.length_append, hlen]; exact hy1) fun e he => ⟨ws, e, rfl, rfl, ?_⟩
  rcases List.mem_append.mp he with he | he
  · exact .inr (shW_of hall he)
  · rw [List.mem_singleton.mp he]
    exact .inl hd
def postSg (_ : List PyData) (r : Rs) : Prop := ∃ c, r = .d (.str ⟨#[c]⟩) ∧ c < 1114112
theorem ok_sign (T : Top K mg) : FnOk P w K mg base CX0 2 T.x_sign.f T.x_sign.fd P_sign (spF K preB postSg) := by
  have nd := sc_sign.nd
  have G_take := ok_take (P := P) (w := w) (base := base) T
  refine fn_ok T.x_sign.F sc_sign (fun ds h => ?_) (fun cdv A outer s H E hr => ⟨_, (pss_cons (ps_set (i := 1) nd rfl (by first | exact Or.inl rfl | exact Or.inr rfl) pe_str)
    (pss_cons (ps_if (pt_cmpR (eq_K (K := K) rfl (hu64 hr)) (pe_call G_take (hr.mono (by first | decide | omega)) (by rfl) T.x_take.m T.x_take.F.kp T.x_take.b .nil pass0 (pa_cons (pv 0) (pa_cons pe_int pa_nil))) pe_int (nomark _)) (pss_one (ps_ret (pe_ix (ix_K (K := K) rfl) pe_str (pe_call G_take (hr.mono (by first | decide | omega)) (by rfl) T.x_take.m T.x_take.F.kp T.x_take.b .nil pass0 (pa_cons (pv 0) (pa_cons pe_int pa_nil))) (fun _ _ => rfl)))) pss_nil)
    (pss_one (ps_ret (pe_ix (ix_K (K := K) rfl) (pv 1) (pe_call G_take (hr.mono (by first | decide | omega)) (by rfl) T.x_take.m T.x_take.F.kp T.x_take.b .nil pass0 (pa_cons (pv 0) (pa_cons (pe_callB (len_K (K := K) rfl) (by rfl) T.b_len (by decide +kernel) (pa_cons (pv 1) pa_nil)) pa_nil))) (fun _ _ => rfl)))))), fun W0 ds hp => ?_⟩)
  · rw [h]
    rfl
  obtain rfl := hp
  simp only [cx_K, cx_K2, startG, List.map, List.length, List.replicate, List.append, List.cons_append, List.nil_append]
  refine go_seq (go_asg (wpE_str ?_))
  refine go_seq (go_if (wpT_test (wpE_op (w_take rfl (by decide) (by decide) fun y hy0 hy1 => wpE_int (eq_int ⟨_, rfl, fun _ => ?_, fun _ => go_next ?_⟩)))))
  · refine go_ret (wpE_op (wpE_str (w_take rfl (by decide) (by decide) fun z hz0 hz1 => opR_ixSany (by decide +kernel) hz0 hz1 fun c hc => ⟨c, rfl, ?_⟩)))
    have : ∀ c ∈ (Str.ofString " (),0-\n").cps.toList, c < 1114112 := by decide +kernel
    exact this c hc
  · refine go_ret (wpE_op (wpE_var rfl (w_take' rfl (wpE_CB (wpA_cons (wpE_var rfl (wpA_nil (opC_lenS (by decide +kernel) ⟨_, rfl, by decide +kernel, by decide +kernel, fun z hz0 hz1 => opR_ixSany (by decide +kernel) hz0 hz1 fun c hc => ⟨c, rfl, ?_⟩⟩))))))))
    have : ∀ c ∈ (Str.ofString " !\"#$&'()*+,-./0123456789:;<=>?@ABCDEFGHIJKLMNOPQRSTUVWXYZ[\\]^_`abcdefghijklmnopqrstuvwxyz{|}~\n").cps.toList, c < 1114112 := by decide +kernel
    exact this c hc

/-! ### rows otherwise -/
theorem txu {n m : Nat} {u : Str} (h : Tx n u) (e : n ≤ m) : Tx m u := h.le e
def preRo (ds : List PyData) : Prop := ∃ x, ds = [boxD, .str x] ∧ Tx 2600000 x
def postRo (ds : List PyData) (r : Rs) : Prop := ∃ x y, ds = [boxD, .str x] ∧ r = .d (.str y) ∧ Tx (2 * x.length + 20) y
theorem ok_row_otherwise (T : Top K mg) : FnOk P w K mg base CX0 3 T.x_row_otherwise.f T.x_row_otherwise.fd P_row_otherwise (spF K preRo postRo) := by
  have nd := sc_row_otherwise.nd
  have G_take := ok_take (P := P) (w := w) (base := base) T
  have G_other_word := ok_other_word (P := P) (w := w) (base := base) T
  have G_sign := ok_sign (P := P) (w := w) (base := base) T
  refine fn_ok T.x_row_otherwise.F sc_row_otherwise (fun ds h => ?_) (fun cdv A outer s H E hr => ⟨_, (pss_cons (ps_set (i := 2) nd rfl (by first | exact Or.inl rfl | exact Or.inr rfl) (split_K (pv 1) pe_str))
    (pss_cons (ps_par (i := 3) (j := 4) (by rfl) nd rfl rfl (by decide) rfl rfl (pa_cons (pe_call G_take (hr.mono (by first | decide | omega)) (by rfl) T.x_take.m T.x_take.F.kp T.x_take.b .nil pass0 (pa_cons (pv 0) (pa_cons pe_int pa_nil))) (pa_cons (pe_call G_take (hr.mono (by first | decide | omega)) (by rfl) T.x_take.m T.x_take.F.kp T.x_take.b .nil pass0 (pa_cons (pv 0) (pa_cons (pe_callB (len_K (K := K) rfl) (by rfl) T.b_len (by decide +kernel) (pa_cons (pv 2) pa_nil)) pa_nil))) pa_nil)) (by rfl))
    (pss_cons (ps_set (i := 5) nd rfl (by first | exact Or.inl rfl | exact Or.inr rfl) (pe_call G_take (hr.mono (by first | decide | omega)) (by rfl) T.x_take.m T.x_take.F.kp T.x_take.b .nil pass0 (pa_cons (pv 0) (pa_cons (pe_op (add_K (K := K) rfl) (pe_callB (len_K (K := K) rfl) (by rfl) T.b_len (by decide +kernel) (pa_cons (pv 1) pa_nil)) pe_int) pa_nil))))
    (pss_cons (ps_set (i := 6) nd rfl (by first | exact Or.inl rfl | exact Or.inr rfl) (pe_call G_other_word (hr.mono (by first | decide | omega)) (by rfl) T.x_other_word.m T.x_other_word.F.kp T.x_other_word.b .nil pass0 (pa_cons (pv 0) (pa_cons (pv 2) pa_nil))))
    (pss_cons (ps_if (pt_cmpR (eq_K (K := K) rfl (hu64 hr)) (pv 3) pe_int (nomark _)) (pss_one (ps_ret (jn_K (K := K) rfl pe_str (pe_op (add_K (K := K) rfl) (pe_slice (sl_K (K := K) rfl) (pv 2) po_none (po_some (pv 4))) (pe_slice (sl_K (K := K) rfl) (pv 2) (po_some (pe_op (add_K (K := K) rfl) (pv 4) pe_int)) po_none))))) pss_nil)
    (pss_cons (ps_if (pt_cmpR (eq_K (K := K) rfl (hu64 hr)) (pv 3) pe_int (nomark _)) (pss_one (ps_ret (jn_K (K := K) rfl pe_str (pe_op (add_K (K := K) rfl) (pe_slice (sl_K (K := K) rfl) (pv 2) po_none (po_some (pe_op (add_K (K := K) rfl) (pv 4) pe_int))) (pe_slice (sl_K (K := K) rfl) (pv 2) (po_some (pv 4)) po_none))))) pss_nil)
    (pss_cons (ps_if (pt_cmpR (eq_K (K := K) rfl (hu64 hr)) (pv 3) pe_int (nomark _)) (pss_one (ps_ret (jn_K (K := K) rfl pe_str (pe_op (add_K (K := K) rfl) (pe_op (add_K (K := K) rfl) (pe_slice (sl_K (K := K) rfl) (pv 2) po_none (po_some (pv 4))) (pe_lst (pa_cons (pv 6) pa_nil))) (pe_slice (sl_K (K := K) rfl) (pv 2) (po_some (pv 4)) po_none))))) pss_nil)
    (pss_cons (ps_if (pt_cmpR op_lt (pv 3) pe_int (nomark _)) (pss_one (ps_ret (jn_K (K := K) rfl pe_str (pe_op (add_K (K := K) rfl) (pe_op (add_K (K := K) rfl) (pe_slice (sl_K (K := K) rfl) (pv 2) po_none (po_some (pv 4))) (pe_lst (pa_cons (pv 6) pa_nil))) (pe_slice (sl_K (K := K) rfl) (pv 2) (po_some (pe_op (add_K (K := K) rfl) (pv 4) pe_int)) po_none))))) pss_nil)
    (pss_cons (ps_if (pt_cmpR (eq_K (K := K) rfl (hu64 hr)) (pv 3) pe_int (nomark _)) (pss_one (ps_ret (pe_op (add_K (K := K) rfl) (pe_slice (sl_K (K := K) rfl) (pv 1) po_none (po_some (pv 5))) (pe_slice (sl_K (K := K) rfl) (pv 1) (po_some (pe_op (add_K (K := K) rfl) (pv 5) pe_int)) po_none)))) pss_nil)
    (pss_one (ps_ret (pe_op (add_K (K := K) rfl) (pe_op (add_K (K := K) rfl) (pe_slice (sl_K (K := K) rfl) (pv 1) po_none (po_some (pv 5))) (pe_call G_sign (hr.mono (by first | decide | omega)) (by rfl) T.x_sign.m T.x_sign.F.kp T.x_sign.b .nil pass0 (pa_cons (pv 0) pa_nil))) (pe_slice (sl_K (K := K) rfl) (pv 1) (po_some (pe_op (add_K (K := K) rfl) (pv 5) (pe_callTy call_int1 (by rfl) T.b_int (by decide +kernel) (pa_cons (pe_cmpR (eq_K (K := K) rfl (hu64 hr)) (pv 3) pe_int (nomark _)) pa_nil)))) po_none))))))))))))), fun W0 ds hp => ?_⟩)
  · obtain ⟨_, rfl, _⟩ := h
    rfl
  obtain ⟨x, rfl, hx⟩ := hp
  have hxl := hx.1
  have hx6 : Tx 6000000 x := hx.le (by decide)
  obtain ⟨hw, hl, hne⟩ := wsT_ok hx6
  have hjl := jl_wsT x
  have hz : x.length ≤ sizeLine := by rw [sizeLine_eq]; omega
  simp only [cx_K, cx_K2, startG, List.map, List.length, List.replicate, List.append, List.cons_append, List.nil_append]
  refine go_seq (go_asgN (wpN_words rfl hx6 ?_))
  generalize hws : wsT x = ws at hw hl hne hjl
  refine go_freeze (i := 2) rfl ?_
  have hpos : 0 < ws.length := List.length_pos_iff.mpr hne
  refine go_seq (go_par (wpA_cons (w_take rfl (by decide) (by decide) fun f hf0 hf1 => wpA_cons (w_take' rfl (wpE_CB (wpA_cons (wpE_var rfl (wpA_nil (opC_lenL ⟨_, rfl, by omega, by omega, fun k hk0 hk1 => wpA_nil ⟨_, _, rfl, ?_⟩⟩)))))))))
  obtain ⟨k, rfl⟩ := Int.eq_ofNat_of_zero_le hk0
  refine go_seq (go_asg (w_take' rfl (wpE_op (wpE_CB (wpA_cons (wpE_var rfl (wpA_nil (opC_lenS hz (wpE_int (add_int ⟨_, rfl, by omega, by omega, fun a ha0 ha1 => ?_⟩))))))))))
  obtain ⟨a, rfl⟩ := Int.eq_ofNat_of_zero_le ha0
  refine go_seq (go_asg (wpE_call (wpA_cons (wpE_var rfl (wpA_cons (wpE_var rfl (wpA_nil ⟨⟨ws, rfl, hne, by omega⟩, ?_⟩)))))))
  rintro r ⟨ws', d, e, rfl, hd⟩
  cases e
  have hdv : vld d ∧ (strOf d).length + 1 ≤ x.length + 11 := by
    rcases hd with hd | ⟨y, rfl, hy⟩
    · exact ⟨(hw d hd).vl, by have := jl_mem hd; omega⟩
    · exact ⟨⟨y, rfl, hy.2⟩, by have := hy.1; show y.length + 1 ≤ _; omega⟩
  have hd1 : jl [d] = (strOf d).length + 1 := by simp [jl]
  have hvT : ∀ n, ∀ e ∈ ws.take n, vld e := fun n e he => (hw e (List.mem_of_mem_take he)).vl
  have hvD : ∀ n, ∀ e ∈ ws.drop n, vld e := fun n e he => (hw e (List.mem_of_mem_drop he)).vl
  have vap : ∀ {xs ys : List PyData}, (∀ e ∈ xs, vld e) → (∀ e ∈ ys, vld e) → ∀ e ∈ xs ++ ys, vld e := fun h1 h2 e he => by
    rcases List.mem_append.mp he with he | he
    · exact h1 e he
    · exact h2 e he
  have vone : ∀ e ∈ [d], vld e := fun e he => by
    rw [List.mem_singleton.mp he]
    exact hdv.1
  have fin : ∀ (zs : List PyData) (u : Str), Tx (jl zs) u → jl zs ≤ 2 * x.length + 20 → postRo [boxD, .str x] (.d (.str u)) := fun zs u hu h => ⟨x, u, rfl, rfl, hu.le h⟩
  have ll : ∀ n m, (ws.take n).length + (ws.drop m).length ≤ sizeLine := fun n m => by
    rw [List.length_take, List.length_drop, sizeLine_eq]
    omega
  have j1 := fun n => jl_cut ws n
  simp only [Rs.data]
  refine go_seq (go_if (wpT_test (wpE_op (wpE_var rfl (wpE_int (eq_int ⟨_, rfl, fun _ => ?_, fun _ => go_next ?_⟩))))))
  · refine go_ret (w_joinJ (wpL_of_N (wpN_addL (w_slTo rfl (wpE_var rfl rfl) (w_slFrom rfl (w_plus1 rfl) ⟨ll _ _, vap (hvT _) (hvD _), ?_, fun u hu => fin _ u hu ?_⟩)))))
    · have := jl_two ws (m := k) (n := k + 1) (by omega)
      rw [jl_app]
      omega
    · have := jl_two ws (m := k) (n := k + 1) (by omega)
      rw [jl_app]
      omega
  refine go_seq (go_if (wpT_test (wpE_op (wpE_var rfl (wpE_int (eq_int ⟨_, rfl, fun _ => ?_, fun _ => go_next ?_⟩))))))
  · refine go_ret (w_joinJ (wpL_of_N (wpN_addL (w_slTo rfl (w_plus1 rfl) (w_slFrom rfl (wpE_var rfl rfl) ⟨ll _ _, vap (hvT _) (hvD _), ?_, fun u hu => fin _ u hu ?_⟩)))))
    · have := (j1 (k + 1)).1
      have := (j1 k).2
      rw [jl_app]
      omega
    · have := (j1 (k + 1)).1
      have := (j1 k).2
      rw [jl_app]
      omega
  have l1 : ∀ n, (ws.take n).length + [d].length ≤ sizeLine := fun n => by
    rw [List.length_take, List.length_singleton, sizeLine_eq]
    omega
  have l2 : ∀ n m, (ws.take n ++ [d]).length + (ws.drop m).length ≤ sizeLine := fun n m => by
    rw [List.length_append, List.length_take, List.length_drop, List.length_singleton, sizeLine_eq]
    omega
  refine go_seq (go_if (wpT_test (wpE_op (wpE_var rfl (wpE_int (eq_int ⟨_, rfl, fun _ => ?_, fun _ => go_next ?_⟩))))))
  · refine go_ret (w_joinJ (wpL_of_N (wpN_addL (wpN_addL (w_slTo rfl (wpE_var rfl rfl) (wpN_lst (wpA_cons (wpE_var rfl (wpA_nil ⟨Nat.le_of_ble_eq_true rfl, l1 _, w_slFrom rfl (wpE_var rfl rfl) ⟨l2 _ _, vap (vap (hvT _) vone) (hvD _), ?_, fun u hu => fin _ u hu ?_⟩⟩)))))))))
    · have := jl_two ws (m := k) (n := k) (Nat.le_refl _)
      rw [jl_app, jl_app]
      omega
    · have := jl_two ws (m := k) (n := k) (Nat.le_refl _)
      rw [jl_app, jl_app]
      omega
  refine go_seq (go_if (wpT_test (wpE_op (wpE_var rfl (wpE_int (opR_I0B ⟨_, rfl, fun _ => ?_, fun _ => go_next ?_⟩))))))
  · refine go_ret (w_joinJ (wpL_of_N (wpN_addL (wpN_addL (w_slTo rfl (wpE_var rfl rfl) (wpN_lst (wpA_cons (wpE_var rfl (wpA_nil ⟨Nat.le_of_ble_eq_true rfl, l1 _, w_slFrom rfl (w_plus1 rfl) ⟨l2 _ _, vap (vap (hvT _) vone) (hvD _), ?_, fun u hu => fin _ u hu ?_⟩⟩)))))))))
    · have := jl_two ws (m := k) (n := k + 1) (by omega)
      rw [jl_app, jl_app]
      omega
    · have := jl_two ws (m := k) (n := k + 1) (by omega)
      rw [jl_app, jl_app]
      omega
  have c1 : ∀ lo hi, Tx x.length (cutS x lo hi) := fun lo hi => Tx.cut ⟨Nat.le_refl _, hx.2⟩ lo hi
  have fin2 : ∀ u, Tx (2 * x.length + 20) u → postRo [boxD, .str x] (.d (.str u)) := fun u hu => ⟨x, u, rfl, rfl, hu⟩
  refine go_seq (go_if (wpT_test (wpE_op (wpE_var rfl (wpE_int (eq_int ⟨_, rfl, fun _ => ?_, fun _ => go_next ?_⟩))))))
  · refine go_ret (wpE_op (wpE_slS (wpE_var rfl ⟨x, rfl, hz, wpO_no (wpO_some (wpE_var rfl ⟨_, rfl, wpE_slS (wpE_var rfl ⟨x, rfl, hz, wpO_some ((w_plus1 rfl).imp fun d e => ⟨_, e, wpO_no (add_str ?_ (fin2 _ ?_))⟩)⟩)⟩))⟩)))
    · have h1 := (c1 none (some (a : Int))).1
      have h2 := (c1 (some ((a + 1 : Nat) : Int)) none).1
      rw [sizeLine_eq]
      omega
    · exact ((c1 _ _).app (c1 _ _)).le (by omega)
  refine go_ret (wpE_op (wpE_op (wpE_slS (wpE_var rfl ⟨x, rfl, hz, wpO_no (wpO_some (wpE_var rfl ⟨_, rfl, wpE_call (wpA_cons (wpE_var rfl (wpA_nil ⟨rfl, ?_⟩)))⟩))⟩))))
  rintro r ⟨c, rfl, hc⟩
  have hc1 : Tx 1 ⟨#[c]⟩ := Tx.one hc
  refine add_str ?_ (wpE_slS (wpE_var rfl ⟨x, rfl, hz, wpO_some (wpE_op (wpE_var rfl (wpE_CB (wpA_cons (wpE_op (wpE_var rfl (wpE_int (eq_int (wpA_nil (opC_intB (add_int ⟨_, rfl, wpO_no (add_str ?_ (fin2 _ ?_))⟩)))))))))))⟩))
  · have h1 := (c1 none (some (a : Int))).1
    have h2 := hc1.1
    rw [sizeLine_eq]
    omega
  · have h1 := ((c1 none (some (a : Int))).app hc1).1
    have h2 := (c1 (some ((a : Int) + (if decide (f = 6) = true then 1 else 0))) none).1
    rw [sizeLine_eq]
    omega
  · exact (((c1 _ _).app hc1).app (c1 _ _)).le (by omega)

/-! ### alike -/
def Al : Nat → PyData → Prop
  | 0, _ => False
  | n + 1, d => (∃ x, d = .str x ∧ Tx 30 x) ∨ (∃ i, d = .int i) ∨ (∃ ts, d = .tuple ts ∧ ts.length ≤ 9000000 ∧ ∀ t ∈ ts, Al n t) ∨ ∃ ts, d = .list ts ∧ ts.length ≤ 9000000 ∧ ∀ t ∈ ts, Al n t
def preAl (n : Nat) (ds : List PyData) : Prop := ∃ d, ds = [d, d] ∧ Al n d
def postTrue (_ : List PyData) (r : Rs) : Prop := r = .d (.bool true)
theorem ok_alike (T : Top K mg) : ∀ n, FnOk P w K mg base CX0 (n + 3) T.x_alike.f T.x_alike.fd P_alike (spF K (preAl n) postTrue)
  | 0 => fn_none fun ds h => by
    obtain ⟨d, _, h⟩ := h
    exact h
  | n + 1 => by
    have nd := sc_alike.nd
    have G_alike := ok_alike T n
    refine fn_ok T.x_alike.F sc_alike (fun ds h => ?_) (fun cdv A outer s H E hr => ⟨_, (pss_cons (ps_if (pt_val (pe_callB (isiT_K (K := K) rfl) (by rfl) T.b_isinstance (by decide +kernel) (pa_cons (pv 1) (pa_cons (pe_tup (pa_cons (pe_bltn (v := .ty "tuple") (by rfl) T.b_tuple (by decide +kernel) rfl) (pa_cons (pe_bltn (v := .ty "list") (by rfl) T.b_list (by decide +kernel) rfl) pa_nil))) pa_nil)))) (pss_cons (ps_if (PW.pt (pw_or (pt_cmpR (ne_K (K := K) rfl (hu64 hr)) (pe_callB (isi_K (K := K) rfl) (by rfl) T.b_isinstance (by decide +kernel) (pa_cons (pv 0) (pa_cons (pe_bltn (v := .ty "tuple") (by rfl) T.b_tuple (by decide +kernel) rfl) pa_nil))) (pe_callB (isi_K (K := K) rfl) (by rfl) T.b_isinstance (by decide +kernel) (pa_cons (pv 1) (pa_cons (pe_bltn (v := .ty "tuple") (by rfl) T.b_tuple (by decide +kernel) rfl) pa_nil))) (nomark _)) (pw_or1 (pt_cmpR (ne_K (K := K) rfl (hu64 hr)) (pe_callB (isi_K (K := K) rfl) (by rfl) T.b_isinstance (by decide +kernel) (pa_cons (pv 0) (pa_cons (pe_bltn (v := .ty "list") (by rfl) T.b_list (by decide +kernel) rfl) pa_nil))) (pe_callB (isi_K (K := K) rfl) (by rfl) T.b_isinstance (by decide +kernel) (pa_cons (pv 1) (pa_cons (pe_bltn (v := .ty "list") (by rfl) T.b_list (by decide +kernel) rfl) pa_nil))) (nomark _))))) (pss_one (ps_ret pe_bl)) pss_nil)
    (pss_one (ps_ret (pe_and (pe_cmpR (eq_K (K := K) rfl (hu64 hr)) (pe_callB (len_K (K := K) rfl) (by rfl) T.b_len (by decide +kernel) (pa_cons (pv 0) pa_nil)) (pe_callB (len_K (K := K) rfl) (by rfl) T.b_len (by decide +kernel) (pa_cons (pv 1) pa_nil)) (nomark _)) (pe_one (pe_callB (all_K (K := K) rfl rfl) (by rfl) T.b_all (by decide +kernel) (pa_cons (pe_lc (own := [("_law_one", 2), ("_law_other", 3)]) (by rfl) nd (zip_K (K := K) rfl (by rfl) T.b_zip (pa_cons (pv 0) (pa_cons (pv 1) pa_nil))) (blkOk_by (by with_unfolding_all rfl)) (fun _ _ _ _ _ => (gt_K (K := K) (n := 2) rfl (by rfl) (pgs_cons (pg_name (i := 2) nd rfl (by first | exact Or.inl rfl | exact Or.inr rfl)) (pgs_cons (pg_name (i := 3) nd rfl (by first | exact Or.inl rfl | exact Or.inr rfl)) pgs_nil)))) (fun _ _ _ _ _ => pts_nil) (fun _ _ _ _ _ => (pe_call G_alike (hr.mono (by first | decide | omega)) (by rfl) T.x_alike.m T.x_alike.F.kp T.x_alike.b .nil pass0 (pa_cons (pv 2) (pa_cons (pv 3) pa_nil))))) pa_nil))))))) pss_nil)
    (pss_cons (ps_if (pt_val (pe_callB (isi_K (K := K) rfl) (by rfl) T.b_isinstance (by decide +kernel) (pa_cons (pv 1) (pa_cons (pe_bltn (v := .ty "dict") (by rfl) T.b_dict (by decide +kernel) rfl) pa_nil)))) pss_never pss_nil)
    (pss_cons (ps_if (PW.pt (pw_or (pt_cmpR (ne_K (K := K) rfl (hu64 hr)) (pe_callB (isi_K (K := K) rfl) (by rfl) T.b_isinstance (by decide +kernel) (pa_cons (pv 0) (pa_cons (pe_bltn (v := .ty "bool") (by rfl) T.b_bool (by decide +kernel) rfl) pa_nil))) (pe_callB (isi_K (K := K) rfl) (by rfl) T.b_isinstance (by decide +kernel) (pa_cons (pv 1) (pa_cons (pe_bltn (v := .ty "bool") (by rfl) T.b_bool (by decide +kernel) rfl) pa_nil))) (nomark _)) (pw_or1 (pt_cmpR (ne_K (K := K) rfl (hu64 hr)) (pe_callB (isi_K (K := K) rfl) (by rfl) T.b_isinstance (by decide +kernel) (pa_cons (pv 0) (pa_cons (pe_bltn (v := .ty "str") (by rfl) T.b_str (by decide +kernel) rfl) pa_nil))) (pe_callB (isi_K (K := K) rfl) (by rfl) T.b_isinstance (by decide +kernel) (pa_cons (pv 1) (pa_cons (pe_bltn (v := .ty "str") (by rfl) T.b_str (by decide +kernel) rfl) pa_nil))) (nomark _))))) (pss_one (ps_ret pe_bl)) pss_nil)
    (pss_one (ps_ret (pe_and (pe_not (pe_callB (isiT_K (K := K) rfl) (by rfl) T.b_isinstance (by decide +kernel) (pa_cons (pv 0) (pa_cons (pe_tup (pa_cons (pe_bltn (v := .ty "tuple") (by rfl) T.b_tuple (by decide +kernel) rfl) (pa_cons (pe_bltn (v := .ty "list") (by rfl) T.b_list (by decide +kernel) rfl) (pa_cons (pe_bltn (v := .ty "dict") (by rfl) T.b_dict (by decide +kernel) rfl) pa_nil)))) pa_nil)))) (pe_one (pe_cmpR (eq_K (K := K) rfl (hu64 hr)) (pv 0) (pv 1) (nomark _))))))))), fun W0 ds hp => ?_⟩)
    · obtain ⟨_, rfl, _⟩ := h
      rfl
    obtain ⟨d, rfl, hT⟩ := hp
    simp only [cx_K, cx_K2, startG, List.map, List.length, List.replicate, List.append, List.cons_append, List.nil_append]
    rcases hT with ⟨x, rfl, hx⟩ | ⟨i, rfl⟩ | ⟨ts, rfl, hl, h3⟩ | ⟨ts, rfl, hl, h3⟩
    · repeat' (first | (with_reducible refine eq_str hx ?_) | walk_at "g")
      exact rfl
    · repeat' (walk_at "g")
      show Rs.d (.bool (decide (i = i))) = _
      rw [decide_eq_true rfl]
    · repeat' (walk_at "g")
      · refine wpL_of_N (wpN_rel (fun y => y = .bool true) (wpIc_of (wpI_zip (wpE_var rfl (wpE_var rfl ⟨ts, ts, .inr ⟨rfl, rfl⟩, by rw [zipD_len]; omega, fun d hd => ?_, fun ys hy1 hy2 => ⟨_, allTrue hy2, by rw [all_rep]; rfl⟩⟩)))))
        obtain ⟨i, hi⟩ := List.mem_iff_getElem?.mp hd
        obtain ⟨x, y, hx, hy, rfl⟩ := zipD_get hi
        have e : x = y := Option.some.inj (hx.symm.trans hy)
        subst e
        refine wpG_tup rfl (wpGs_cons (wpG_name (by decide) (wpGs_cons (wpG_name (by decide) (wpGs_nil ?_)))))
        repeat' (walk_at "g")
        refine ⟨⟨x, rfl, h3 x (List.mem_of_getElem? hx)⟩, ?_⟩
        rintro r rfl
        rfl
      · rename_i hb
        simp at hb
    · repeat' (walk_at "g")
      · refine wpL_of_N (wpN_rel (fun y => y = .bool true) (wpIc_of (wpI_zip (wpE_var rfl (wpE_var rfl ⟨ts, ts, .inl ⟨rfl, rfl⟩, by rw [zipD_len]; omega, fun d hd => ?_, fun ys hy1 hy2 => ⟨_, allTrue hy2, by rw [all_rep]; rfl⟩⟩)))))
        obtain ⟨i, hi⟩ := List.mem_iff_getElem?.mp hd
        obtain ⟨x, y, hx, hy, rfl⟩ := zipD_get hi
        have e : x = y := Option.some.inj (hx.symm.trans hy)
        subst e
        refine wpG_tup rfl (wpGs_cons (wpG_name (by decide) (wpGs_cons (wpG_name (by decide) (wpGs_nil ?_)))))
        repeat' (walk_at "g")
        refine ⟨⟨x, rfl, h3 x (List.mem_of_getElem? hx)⟩, ?_⟩
        rintro r rfl
        rfl
      · rename_i hb
        simp at hb

theorem Al.up : ∀ {n : Nat} {d : PyData}, Al n d → Al (n + 1) d
  | n + 1, d, h => by
    rcases h with h | h | ⟨ts, rfl, hl, h⟩ | ⟨ts, rfl, hl, h⟩
    · exact .inl h
    · exact .inr (.inl h)
    · exact .inr (.inr (.inl ⟨ts, rfl, hl, fun t ht => (h t ht).up⟩))
    · exact .inr (.inr (.inr ⟨ts, rfl, hl, fun t ht => (h t ht).up⟩))
theorem Al.le {n m : Nat} {d : PyData} (h : Al n d) (e : n ≤ m) : Al m d := by
  induction e with
  | refl => exact h
  | step _ ih => exact ih.up
/-! ### what is read is alike itself -/
theorem nm_short {s : Str} (h : isName s = true) (h2 : Tx 6000000 s) : Tx 30 s := by
  by_cases z : 1 ≤ s.length ∧ s.length ≤ 8
  · exact ⟨by omega, h2.2⟩
  · rw [isName_l z] at h
    cases h
theorem TmW.al : ∀ {d : PyData}, TmW d → nod d ≤ 9000000 → Al (hgt d + 2) d
  | _, .nm h1 h2, _ => .inl ⟨_, rfl, nm_short h1 h2⟩
  | _, .mk (m := m) (ts := ts) h1 h2 ht, hn => by
    have e : nod (.tuple (.str m :: ts)) = 1 + (1 + nodL ts) := by simp [nod, nodL]
    rw [e] at hn
    have := nodL_len ts
    rw [hgt_mk]
    refine .inr (.inr (.inl ⟨_, rfl, by rw [List.length_cons]; omega, fun t hm => ?_⟩))
    rcases List.mem_cons.mp hm with rfl | hm
    · exact .inl ⟨_, rfl, nm_short h1 h2⟩
    · have h3 := hgt_mem hm
      have h4 := nod_mem hm
      exact (TmW.al (ht t hm) (by omega)).le (by omega)
theorem tF_nod {ws ts : List PyData} (h : tF ws = .tuple ts) : nodL ts ≤ ws.length := by
  unfold tF at h
  split at h
  · rename_i us hu
    split at h
    · cases h
      obtain ⟨h1, h2⟩ := run_keep (x := [[]]) (by simp [trmL]) hu
      have e : sumN [[]] = 0 := by simp [sumN, nodL]
      have := sumN_mem (x := [ts]) (q := ts) (by simp)
      omega
    · cases h
  · cases h
theorem tF_al {ws ts : List PyData} (hw : ∀ d ∈ ws, isTw d) (hl : ws.length ≤ 7000000) (h : tF ws = .tuple ts) : ts.length ≤ 7000000 ∧ ∀ t ∈ ts, Al 32 t := by
  have h1 := tF_nod h
  have h2 := nodL_len ts
  refine ⟨by omega, fun t ht => ?_⟩
  obtain ⟨h3, h4⟩ := tF_tm hw h t ht
  have h5 := nod_mem ht
  exact (h3.al (by omega)).le (by omega)
theorem badD_al (k : Int) : Al 47 (badD k) := .inr (.inr (.inl ⟨_, rfl, Nat.le_of_ble_eq_true rfl, fun t ht => by
  simp only [List.mem_cons, List.mem_nil_iff, or_false] at ht
  rcases ht with rfl | rfl
  · exact .inl ⟨_, rfl, Tx.of (by decide +kernel)⟩
  · exact .inr (.inl ⟨_, rfl⟩)⟩))
theorem tmO_al {ws : List PyData} (hw : ∀ d ∈ ws, isTw d) (hl : ws.length ≤ 7000000) : Al 47 (tmO ws) := by
  unfold tmO
  split
  · rename_i t h
    exact ((tF_al hw hl h).2 t (by simp)).le (by decide)
  · exact badD_al 0
theorem atF_al {ws ts : List PyData} (hw : ∀ d ∈ ws, isTw d) (hl : ws.length ≤ 7000000) (h : atF ws = .tuple ts) : Al 34 (.tuple ts) := by
  obtain ⟨s, us, rfl, vs, rfl, hn, hu⟩ := atF_tup h
  have hs := not_tw (hw _ List.mem_cons_self)
  obtain ⟨h1, h2⟩ := tF_al (fun d hd => hw d (List.mem_cons_of_mem _ hd)) (by rw [List.length_cons] at hl; omega) hu
  refine .inr (.inr (.inl ⟨_, rfl, Nat.le_of_ble_eq_true rfl, fun t ht => ?_⟩))
  simp only [List.mem_cons, List.mem_nil_iff, or_false] at ht
  rcases ht with rfl | rfl
  · exact .inl ⟨_, rfl, nm_short hn hs⟩
  · exact .inr (.inr (.inl ⟨_, rfl, by omega, h2⟩))
theorem asF_al {rows : List (List PyData)} {xs : List PyData} (hr : ∀ r ∈ rows, (∀ d ∈ r, isTw d) ∧ r.length ≤ 7000000) (hl : rows.length ≤ 7000001) (h : asF rows = .tuple xs) : Al 35 (.tuple xs) := by
  unfold asF allF at h
  split at h
  · cases h
  · rename_i hno
    cases h
    refine .inr (.inr (.inl ⟨_, rfl, by rw [List.length_map]; omega, fun t ht => ?_⟩))
    obtain ⟨r, hrm, rfl⟩ := List.mem_map.mp ht
    rcases atF_casesL r with q | ⟨ts, q⟩
    · exact absurd (List.any_eq_true.mpr ⟨_, List.mem_map.mpr ⟨r, hrm, rfl⟩, by rw [q]; rfl⟩) hno
    · rw [q]
      exact atF_al (hr r hrm).1 (hr r hrm).2 q
theorem clO_al {ws : List PyData} (hw : ∀ d ∈ ws, isTw d) (hl : ws.length ≤ 7000000) : Al 47 (clO ws) := by
  unfold clO
  rcases clF_cases ws with q | ⟨ts, q⟩
  · rw [q]
    exact badD_al 0
  · rw [q]
    unfold clF at q
    split at q
    · rename_i a b hab
      have hrt := rowsP_tw (m := arS) hw hl
      rw [hab] at hrt
      obtain ⟨ha, hal⟩ := hrt a (by simp)
      obtain ⟨hb, hbl⟩ := hrt b (by simp)
      have side : ∀ us : List PyData, (∀ d ∈ us, isTw d) → us.length ≤ 7000000 → ∀ d, d = asF (rowsP cmS us) → noneD d = false → Al 36 d := fun us h1 h2 d hd hn => by
        rcases allF_cases ((rowsP cmS us).map atF) with z | ⟨xs, z⟩
        · have : d = .none := hd.trans z
          rw [this] at hn
          cases hn
        · have e : d = .tuple xs := hd.trans z
          rw [e]
          exact (asF_al (rowsP_tw (m := cmS) h1 h2) (by have := (rowsP_in cmS us).2; omega) (hd.symm.trans e)).le (by decide)
      have hno : [if a.isEmpty = true then PyData.tuple [] else asF (rowsP cmS a), asF (rowsP cmS b)].any noneD = false := by
        cases z : [if a.isEmpty = true then PyData.tuple [] else asF (rowsP cmS a), asF (rowsP cmS b)].any noneD with
        | false => rfl
        | true =>
          unfold allF at q
          rw [if_pos z] at q
          cases q
      unfold allF at q
      rw [if_neg (by rw [hno]; decide)] at q
      cases q
      rw [List.any_cons, List.any_cons, List.any_nil, Bool.or_false, Bool.or_eq_false_iff] at hno
      refine .inr (.inr (.inl ⟨_, rfl, Nat.le_of_ble_eq_true rfl, fun t ht => ?_⟩))
      simp only [List.mem_cons, List.mem_nil_iff, or_false] at ht
      rcases ht with rfl | rfl
      · by_cases h : a.isEmpty = true
        · rw [if_pos h]
          exact .inr (.inr (.inl ⟨_, rfl, Nat.zero_le _, fun t ht => nomatch ht⟩))
        · rw [if_neg h] at hno ⊢
          exact (side a ha hal _ rfl hno.1).le (by decide)
      · exact (side b hb hbl _ rfl hno.2).le (by decide)
    · cases q
theorem rdO_al (i : RdI) : Al 47 (rdO i) := by
  cases i with
  | tm i =>
    obtain ⟨h1, h2, _⟩ := wsT_ok i.2
    exact tmO_al h1 (by omega)
  | cl i =>
    obtain ⟨h1, h2, _⟩ := wsT_ok i.2
    exact clO_al h1 (by omega)

/-! ### right, law -/
def dF (T : Top K mg) : Bool → Addr
  | true => T.x_due_claim.f
  | false => T.x_due_term.f
def dD (T : Top K mg) : Bool → FuncData
  | true => T.x_due_claim.fd
  | false => T.x_due_term.fd
def dP : Bool → List Str
  | true => P_due_claim
  | false => P_due_term
def dO : Bool → List PyData → PyData
  | true => clO
  | false => tmO
def rI (j : Bool) (x : TxI) : RdI := match j with
  | true => .cl x
  | false => .tm x
theorem rI_O (j : Bool) (x : TxI) : rdO (rI j x) = dO j (wsT x.val) := by cases j <;> rfl
theorem rI_T (j : Bool) (x : TxI) : rdT (rI j x) = x.val := by cases j <;> rfl
def rA (T : Top K mg) : Bool → Addr
  | true => T.x_read_claim.f
  | false => T.x_read_term.f
theorem rI_F (T : Top K mg) (j : Bool) (x : TxI) : rdF T (rI j x) = rA T j := by cases j <;> rfl
def postD (j : Bool) (ds : List PyData) (r : Rs) : Prop := ∃ x, ds = [.str x] ∧ r = .d (dO j (wsT x))
/-- a text of words of eight signs -/
theorem sw_text {ws : List PyData} (h : ∀ d ∈ ws, isSw d) (hl : ws.length ≤ 65000) : (∀ d ∈ ws, vld d) ∧ jl ws ≤ 600000 := by
  refine ⟨fun d hd => ?_, ?_⟩
  · obtain ⟨x, rfl, hx⟩ := h d hd
    exact ⟨x, rfl, hx.2⟩
  · have key : ∀ us : List PyData, (∀ d ∈ us, isSw d) → jl us ≤ 9 * us.length := fun us => by
      induction us with
      | nil => intro _; exact Nat.le_refl _
      | cons u us ih =>
        intro h
        obtain ⟨x, rfl, hx⟩ := h u List.mem_cons_self
        have h1 := ih fun d hd => h d (List.mem_cons_of_mem _ hd)
        have h2 := hx.1
        have e : jl (.str x :: us) = x.length + 1 + jl us := by simp [jl, strOf]
        rw [e, List.length_cons]
        omega
    have := key ws h
    omega
theorem ok_right (T : Top K mg) : FnOk P w K mg base CX0 58 T.x_right.f T.x_right.fd P_right (spF K preB postTrue) := by
  have nd := sc_right.nd
  have G_take := ok_take (P := P) (w := w) (base := base) T
  have G_wide_names := ok_wide_names (P := P) (w := w) (base := base) T
  have G_wide_term := ok_wide_termU (P := P) (w := w) (base := base) T
  have G_term_words : FnOk P w K mg base CX0 11 T.x_term_words.f T.x_term_words.fd P_term_words (spF K (preTm 10) postTw) := ok_term_words T 10 (Nat.le_refl _)
  have G_wide_claim := ok_wide_claim (P := P) (w := w) (base := base) T
  have G_claim_words := ok_claim_words (P := P) (w := w) (base := base) T
  have G_row_otherwise := ok_row_otherwise (P := P) (w := w) (base := base) T
  have G_met := ok_metA (P := P) (w := w) (base := base) T
  have G_alike : FnOk P w K mg base CX0 50 T.x_alike.f T.x_alike.fd P_alike (spF K (preAl 47) postTrue) := ok_alike T 47
  have GL__law_due : ∀ j : Bool, FnOk P w K mg base CX0 49 (dF T j) (dD T j) (dP j) (spF K preTxt (postD j)) := fun
    | true => ok_due_claim T
    | false => ok_due_term T
  have kp__law_due : ∀ j : Bool, PySem.W.keepIn K (.ref (dF T j)) = true := fun
    | true => T.x_due_claim.F.kp
    | false => T.x_due_term.F.kp
  have bi__law_due : ∀ j : Bool, Binds K (dD T j) (dP j) [] := fun
    | true => T.x_due_claim.b
    | false => T.x_due_term.b
  refine fn_ok T.x_right.F sc_right (fun ds h => ?_) (fun cdv A outer s H E hr => ⟨_, (pss_cons (ps_par (i := 1) (j := 2) (by rfl) nd rfl rfl (by decide) rfl rfl (pa_cons (pe_op (add_K (K := K) rfl) pe_int (pe_call G_take (hr.mono (by first | decide | omega)) (by rfl) T.x_take.m T.x_take.F.kp T.x_take.b .nil pass0 (pa_cons (pv 0) (pa_cons pe_int pa_nil)))) (pa_cons (pe_call G_wide_names (hr.mono (by first | decide | omega)) (by rfl) T.x_wide_names.m T.x_wide_names.F.kp T.x_wide_names.b .nil pass0 (pa_cons (pv 0) pa_nil)) pa_nil)) (by rfl))
    (pss_cons (ps_set (i := 3) nd rfl (by first | exact Or.inl rfl | exact Or.inr rfl) (pe_lst (pa_cons (jn_K (K := K) rfl pe_str (pe_call G_term_words (hr.mono (by first | decide | omega)) (by rfl) T.x_term_words.m T.x_term_words.F.kp T.x_term_words.b .nil pass0 (pa_cons (pe_call G_wide_term (hr.mono (by first | decide | omega)) (by rfl) T.x_wide_term.m T.x_wide_term.F.kp T.x_wide_term.b .nil pass0 (pa_cons (pv 0) (pa_cons (pv 2) (pa_cons pe_int (pa_cons pe_int pa_nil))))) pa_nil))) pa_nil)))
    (pss_cons (ps_expr (ap_K (K := K) rfl (pv 3) (jn_K (K := K) rfl pe_str (pe_call G_claim_words (hr.mono (by first | decide | omega)) (by rfl) T.x_claim_words.m T.x_claim_words.F.kp T.x_claim_words.b .nil pass0 (pa_cons (pe_call G_wide_claim (hr.mono (by first | decide | omega)) (by rfl) T.x_wide_claim.m T.x_wide_claim.F.kp T.x_wide_claim.b .nil pass0 (pa_cons (pv 0) (pa_cons (pv 2) pa_nil))) pa_nil)))))
    (pss_cons (ps_for PassesOwn.never rfl (it_K (K := K) rfl (pe_tup (pa_cons (pe_tup (pa_cons (pe_ix (ix_K (K := K) rfl) (pv 3) pe_int (fun _ _ => rfl)) (pa_cons (pe_glob (v := .ref T.x_read_term.f) rfl T.x_read_term.m rfl) (pa_cons (pe_glob (v := .ref T.x_due_term.f) rfl T.x_due_term.m rfl) pa_nil)))) (pa_cons (pe_tup (pa_cons (pe_ix (ix_K (K := K) rfl) (pv 3) pe_int (fun _ _ => rfl)) (pa_cons (pe_glob (v := .ref T.x_read_claim.f) rfl T.x_read_claim.m rfl) (pa_cons (pe_glob (v := .ref T.x_due_claim.f) rfl T.x_due_claim.m rfl) pa_nil)))) pa_nil)))) (gt_K (K := K) (n := 3) rfl (by rfl) (pgs_cons (pg_name (i := 4) nd rfl (by first | exact Or.inl rfl | exact Or.inr rfl)) (pgs_cons (pg_name (i := 5) nd rfl (by first | exact Or.inl rfl | exact Or.inr rfl)) (pgs_cons (pg_name (i := 6) nd rfl (by first | exact Or.inl rfl | exact Or.inr rfl)) pgs_nil))))
      (pss_cons (ps_set (i := 7) nd rfl (by first | exact Or.inl rfl | exact Or.inr rfl) (pv 4))
    (pss_cons (ps_for PassesOwn.never rfl (pi_range1 (by rfl) T.b_range (pa_cons (pv 1) pa_nil)) (pg_name (i := 8) nd rfl (by first | exact Or.inl rfl | exact Or.inr rfl))
      (pss_one (ps_set (i := 7) nd rfl (by first | exact Or.inl rfl | exact Or.inr rfl) (pe_call G_row_otherwise (hr.mono (by first | decide | omega)) (by rfl) T.x_row_otherwise.m T.x_row_otherwise.F.kp T.x_row_otherwise.b .nil pass0 (pa_cons (pv 0) (pa_cons (pv 7) pa_nil))))))
    (pss_one (ps_for PassesOwn.never rfl (it_K (K := K) rfl (pe_tup (pa_cons (pv 7) (pa_cons (pv 4) (pa_cons (pv 7) pa_nil))))) (pg_name (i := 9) nd rfl (by first | exact Or.inl rfl | exact Or.inr rfl))
      (pss_one (ps_if (pt_not (pt_val (pe_call G_alike (hr.mono (by first | decide | omega)) (by rfl) T.x_alike.m T.x_alike.F.kp T.x_alike.b .nil pass0 (pa_cons (pe_call G_met (hr.mono (by first | decide | omega)) (by rfl) T.x_met.m T.x_met.F.kp T.x_met.b .nil pass0 (pa_cons (pv 5) (pa_cons (pv 9) pa_nil))) (pa_cons (pe_ex fun j => pe_callL (i := 6) (E := E0) (GL__law_due j) (hr.mono (by first | decide | omega)) rfl (by first | exact Or.inl rfl | exact Or.inr (Or.inl rfl) | exact Or.inr (Or.inr rfl)) (kp__law_due j) (bi__law_due j) .nil pass0 (pa_cons (pv 9) pa_nil)) pa_nil))))) (pss_one (ps_ret pe_bl)) pss_nil)))))))
    (pss_one (ps_ret pe_bl)))))), fun W0 ds hp => ?_⟩)
  · rw [h]
    rfl
  obtain rfl := hp
  simp only [cx_K, cx_K2, startG, List.map, List.length, List.replicate, List.append, List.cons_append, List.nil_append]
  have al : ∀ {W0 : Wd} {Γ : Gm} {ta tb : TE} {Q : PyData → Prop} (x : PyData), Al 47 x → Q (.bool true) → (wpE K W0 ta Γ fun y => y = x) → (wpE K W0 tb Γ fun y => y = x) → wpE K W0 (tCall (spF K (preAl 47) postTrue) [] E0 (tCons ta (tCons tb tNil))) Γ Q := by
    intro W0 Γ ta tb Q x hx hQ h1 h2
    refine wpE_call (wpA_cons (h1.imp fun y hy => wpA_cons (h2.imp fun z hz => wpA_nil ⟨⟨x, by rw [hy, hz], hx⟩, ?_⟩)))
    rintro r rfl
    exact hQ
  refine go_seq (go_par (wpA_cons (wpE_op (wpE_int (w_take rfl (by decide) (by decide) fun m hm0 hm1 => add_int (wpA_cons (wpE_call (wpA_cons (wpE_var rfl (wpA_nil ⟨rfl, ?_⟩))))))))))
  rintro r ⟨ys, rfl, hY⟩
  refine wpA_nil ⟨_, _, rfl, ?_⟩
  simp only [Rs.data]
  refine go_seq (go_asgN (wpN_lst (wpA_cons (w_joinJ (wpL_of_N (wpN_call (wpA_cons (wpE_call (wpA_cons (wpE_var rfl (wpA_cons (wpE_var rfl (wpA_cons (wpE_int (wpA_cons (wpE_int (wpA_nil ⟨⟨7, show 7 ≤ 9 by decide, ys, 12, 6, rfl, hY, by decide, by decide, by decide, rfl⟩, ?_⟩)))))))))))))))))
  rintro r ⟨n, hn, ⟨ys', room, down, e, _, _, _, _, hdn⟩, d, rfl, hT⟩
  have hn7 : n ≤ 7 := by
    simp only [List.cons.injEq, PyData.int.injEq, true_and, and_true] at e
    omega
  refine wpA_nil ⟨⟨d, rfl, hT.le (by omega)⟩, ?_⟩
  rintro r ⟨d', e', rfl⟩
  have ed : d' = d := by
    cases e'
    rfl
  rw [ed]
  clear ed e' d'
  have hT7 : Tm 7 d := hT.le hn7
  have hsz := tw_size 7 d hT7
  have h37 : (3 : Nat) * 3 ^ 7 = 6561 := by decide
  rw [h37] at hsz
  obtain ⟨hv1, hj1⟩ := sw_text (fun u hu => (tw_wd 7 d hT7 u hu).sw) (by omega : (twD d).length ≤ 65000)
  refine ⟨_, rfl, hv1, by omega, fun u hu => wpA_nil ⟨Nat.le_of_ble_eq_true rfl, ?_⟩⟩
  refine go_seq (go_append rfl (w_joinJ (wpL_of_N (wpN_call (wpA_cons (wpE_call (wpA_cons (wpE_var rfl (wpA_cons (wpE_var rfl (wpA_nil ⟨⟨ys, rfl, hY⟩, ?_⟩)))))))))))
  rintro r ⟨L, R, rfl, hC⟩
  refine wpA_nil ⟨⟨L, R, rfl, hC⟩, ?_⟩
  rintro r ⟨L', R', e', rfl⟩
  obtain ⟨rfl, rfl⟩ : L' = L ∧ R' = R := by
    unfold clD at e'
    cases e'
    exact ⟨rfl, rfl⟩
  obtain ⟨hs1, hs2⟩ := hC.sw
  obtain ⟨hv2, hj2⟩ := sw_text hs1 hs2
  refine ⟨_, rfl, hv2, by omega, fun v hv => ⟨by show 1 < 10000000; decide, ?_⟩⟩
  have hu6 : Tx 600000 u := hu.le hj1
  have hv6 : Tx 600000 v := hv.le hj2
  clear hu hv
  refine go_freeze (i := 3) rfl ?_
  have hL : ∀ d ∈ [PyData.tuple [.str u, rfD T.x_read_term.f, rfD T.x_due_term.f], .tuple [.str v, rfD T.x_read_claim.f, rfD T.x_due_claim.f]], ∃ (j : Bool) (x : Str), d = .tuple [.str x, rfD (rA T j), rfD (dF T j)] ∧ Tx 600000 x := fun d hd => by
    simp only [List.mem_cons, List.mem_nil_iff, or_false] at hd
    rcases hd with rfl | rfl
    · exact ⟨false, u, rfl, hu6⟩
    · exact ⟨true, v, rfl, hv6⟩
  refine go_seq (go_for [4, 5, 6] (wpI_tup (Dx.use (d := .tuple [.tuple [.str u, rfD T.x_read_term.f, rfD T.x_due_term.f], .tuple [.str v, rfD T.x_read_claim.f, rfD T.x_due_claim.f]]) (by repeat' (walk_at "tup")) ⟨_, rfl, ?_⟩)))
  generalize ([_, _] : List PyData) = M at hL ⊢
  refine ⟨fun i Γ' => ∃ x4 x5 x6 x7 x8 x9 : Sl, Γ' = [.d boxD, .d (.int (1 + m)), .d (.list ys), .d (.list ([.str u] ++ [.str v])), x4, x5, x6, x7, x8, x9], ⟨_, _, _, _, _, _, rfl⟩, ?_, ?_⟩
  · rintro i d Γ' hd ⟨x4, x5, x6, x7, x8, x9, rfl⟩
    obtain ⟨j, x, rfl, hx⟩ := hL d (List.mem_of_getElem? hd)
    refine wpG_tup rfl (wpGs_cons (wpG_name (by decide) (wpGs_cons (wpG_name (by decide) (wpGs_cons (wpG_name (by decide) (wpGs_nil ?_)))))))
    refine go_seq (go_asg (wpE_var rfl ?_))
    refine go_seq (go_for [8] (wpI_rng1 (wpE_var rfl ⟨_, rfl, by omega, by omega, fun i Γ' => ∃ (y : Str) (x8 x9 : Sl), Γ' = [.d boxD, .d (.int (1 + m)), .d (.list ys), .d (.list ([.str u] ++ [.str v])), .d (.str x), .d (rfD (rA T j)), .d (rfD (dF T j)), .d (.str y), x8, x9] ∧ Tx (2 ^ i * 600100 - 100) y, ⟨x, _, _, rfl, hx.le (by decide)⟩, ?_, ?_⟩)))
    · rintro i d Γ' hd2 ⟨y, x8, x9, rfl, hy⟩
      obtain ⟨hi, rfl⟩ := rngD_get hd2
      have hi2 : i ≤ 2 := by omega
      have hp2 : 2 ^ i ≤ 2 ^ 2 := Nat.pow_le_pow_right (by decide) hi2
      have hp3 : 2 ^ 2 = 4 := by decide
      have hy26 : Tx 2600000 y := hy.le (by omega)
      refine wpG_name (by decide) (go_asg (wpE_call (wpA_cons (wpE_var rfl (wpA_cons (wpE_var rfl (wpA_nil ⟨⟨y, rfl, hy26⟩, ?_⟩)))))))
      rintro r ⟨y', z, e', rfl, hz⟩
      cases e'
      refine ⟨z, _, _, rfl, hz.le ?_⟩
      have := hy.1
      have hp1 : 1 ≤ 2 ^ i := Nat.one_le_two_pow
      rw [Nat.pow_succ]
      omega
    · rintro Γ' ⟨y, x8, x9, rfl, hy⟩
      rw [rngD_len] at hy
      have hp4 : 2 ^ (1 + m).toNat ≤ 2 ^ 3 := Nat.pow_le_pow_right (by decide) (by omega)
      have hp5 : 2 ^ 3 = 8 := by decide
      have hy6 : Tx 6000000 y := hy.le (by omega)
      have hx6 : Tx 6000000 x := hx.le (by decide)
      refine go_for [9] (wpI_tup (wpE_tup (wpA_cons (wpE_var rfl (wpA_cons (wpE_var rfl (wpA_cons (wpE_var rfl (wpA_nil ⟨Nat.le_of_ble_eq_true rfl, _, rfl, ?_⟩)))))))))
      refine ⟨fun i Γ' => ∃ x8 x9 : Sl, Γ' = [.d boxD, .d (.int (1 + m)), .d (.list ys), .d (.list ([.str u] ++ [.str v])), .d (.str x), .d (rfD (rA T j)), .d (rfD (dF T j)), .d (.str y), x8, x9], ⟨_, _, rfl⟩, ?_, ?_⟩
      · rintro i d Γ' hd3 ⟨x8, x9, rfl⟩
        obtain ⟨z, rfl, hz⟩ : ∃ z, d = .str z ∧ Tx 6000000 z := by
          have := List.mem_of_getElem? hd3
          simp only [List.mem_cons, List.mem_nil_iff, or_false] at this
          rcases this with rfl | rfl | rfl
          · exact ⟨_, rfl, hy6⟩
          · exact ⟨_, rfl, hx6⟩
          · exact ⟨_, rfl, hy6⟩
        refine wpG_name (by decide) (go_if (wpT_not (wpT_B (al (rdO (rI j ⟨z, hz⟩)) (rdO_al _) ⟨true, rfl, (fun z => nomatch (show false = true from z)), fun _ => go_next ⟨_, _, rfl⟩⟩ (w_met T (rI j ⟨z, hz⟩) (wpE_var rfl ?_) (wpE_var rfl ?_) rfl) (wpE_ex j (wpE_callL rfl (wpA_cons (wpE_var rfl (wpA_nil ⟨⟨z, rfl, hz⟩, ?_⟩)))))))))
        · rw [rI_F]
        · rw [rI_T]
        · rintro r ⟨z', e', rfl⟩
          cases e'
          rw [rI_O]
          rfl
      · rintro Γ' ⟨x8, x9, rfl⟩
        exact ⟨_, _, _, _, _, _, rfl⟩
  · rintro Γ' ⟨x4, x5, x6, x7, x8, x9, rfl⟩
    exact go_ret (wpE_bl rfl)
theorem ok_law (T : Top K mg) : FnOk P w K mg base CX0 60 T.x_law.f T.x_law.fd P_law (spLaw K) := by
  have nd := sc_law.nd
  have G_box := ok_box (P := P) (w := w) (base := base) T
  have G_right := ok_right (P := P) (w := w) (base := base) T
  refine fn_ok T.x_law.F sc_law (fun ds h => ?_) (fun cdv A outer s H E hr => ⟨_, (pss_one (ps_ret (pe_callB (all_K (K := K) rfl rfl) (by rfl) T.b_all (by decide +kernel) (pa_cons (pe_lc (own := [("_law_k", 1)]) (by rfl) nd (pi_range1 (by rfl) T.b_range (pa_cons (pe_callB (call_max2 rfl) (by rfl) T.b_max (by decide +kernel) (pa_cons pe_int (pa_cons (pe_callB (call_min2 rfl) (by rfl) T.b_min (by decide +kernel) (pa_cons pe_int (pa_cons (pe_callB (len_K (K := K) rfl) (by rfl) T.b_len (by decide +kernel) (pa_cons (pv 0) pa_nil)) pa_nil))) pa_nil))) pa_nil)) (blkOk_by (by with_unfolding_all rfl)) (fun _ _ _ _ _ => (pg_name (i := 1) nd rfl (by first | exact Or.inl rfl | exact Or.inr rfl))) (fun _ _ _ _ _ => pts_nil) (fun _ _ _ _ _ => (pe_call G_right (hr.mono (by first | decide | omega)) (by rfl) T.x_right.m T.x_right.F.kp T.x_right.b .nil pass0 (pa_cons (pe_call G_box (hr.mono (by first | decide | omega)) (by rfl) T.x_box.m T.x_box.F.kp T.x_box.b .nil pass0 (pa_cons (pv 0) (pa_cons (pv 1) pa_nil))) pa_nil)))) pa_nil)))), fun W0 ds hp => ?_⟩)
  · obtain ⟨ns, rfl, _⟩ := h
    rfl
  obtain ⟨ns, rfl, hn⟩ := hp
  simp only [cx_K, cx_K2, startG, List.map, List.length, List.replicate, List.append, List.cons_append, List.nil_append]
  refine go_ret (wpE_all (wpL_of_N (wpN_rel (fun y => y = .bool true) (wpIc_of (wpI_rng1 ?_)))))
  repeat' (walk_at "g")
  simp only [List.length_map]
  generalize hm : (if (if (ns.length : Int) < 6 then (ns.length : Int) else 6) > 2 then (if (ns.length : Int) < 6 then (ns.length : Int) else 6) else 2) = m
  have hm1 : 2 ≤ m ∧ m ≤ 6 := by
    rw [← hm]
    split <;> split <;> omega
  refine ⟨by omega, by omega, by rw [rngD_len]; omega, fun d hd => ?_, fun zs hz1 hz2 => ⟨_, allTrue hz2, by rw [all_rep]; rfl⟩⟩
  obtain ⟨i, hi⟩ := List.mem_iff_getElem?.mp hd
  obtain ⟨hi2, rfl⟩ := rngD_get hi
  refine wpG_name (by decide) (wpE_call (wpA_cons (wpE_call (wpA_cons (wpE_var rfl (wpA_cons (wpE_var rfl (wpA_nil ⟨⟨ns, _, rfl, by omega⟩, fun r hr => ?_⟩))))))))
  cases hr
  refine wpA_nil ⟨rfl, ?_⟩
  rintro r rfl
  rfl

/-! ### what the top has written; the row -/
theorem top_mk {K : PySem.W.Frag} {h : Heap} {mg : Str → Option Value} (X : K.In h) (G : h.Ns mainGlobals mg)
    {f0 : Addr} {od0 an0 : Option Addr} {sl0 : Array (Option Value)} {oc0 kV0 dc0 pm0 cd0 ct0 : Value} {f1 : Addr} {od1 an1 : Option Addr} {sl1 : Array (Option Value)} {oc1 kV1 dc1 pm1 cd1 ct1 : Value} {f2 : Addr} {od2 an2 : Option Addr} {sl2 : Array (Option Value)} {oc2 kV2 dc2 pm2 cd2 ct2 : Value} {f3 : Addr} {od3 an3 : Option Addr} {sl3 : Array (Option Value)} {oc3 kV3 dc3 pm3 cd3 ct3 : Value} {f4 : Addr} {od4 an4 : Option Addr} {sl4 : Array (Option Value)} {oc4 kV4 dc4 pm4 cd4 ct4 : Value} {f5 : Addr} {od5 an5 : Option Addr} {sl5 : Array (Option Value)} {oc5 kV5 dc5 pm5 cd5 ct5 : Value} {f6 : Addr} {od6 an6 : Option Addr} {sl6 : Array (Option Value)} {oc6 kV6 dc6 pm6 cd6 ct6 : Value} {f7 : Addr} {od7 an7 : Option Addr} {sl7 : Array (Option Value)} {oc7 kV7 dc7 pm7 cd7 ct7 : Value} {f8 : Addr} {od8 an8 : Option Addr} {sl8 : Array (Option Value)} {oc8 kV8 dc8 pm8 cd8 ct8 : Value} {f9 : Addr} {od9 an9 : Option Addr} {sl9 : Array (Option Value)} {oc9 kV9 dc9 pm9 cd9 ct9 : Value} {f10 : Addr} {od10 an10 : Option Addr} {sl10 : Array (Option Value)} {oc10 kV10 dc10 pm10 cd10 ct10 : Value} {f11 : Addr} {od11 an11 : Option Addr} {sl11 : Array (Option Value)} {oc11 kV11 dc11 pm11 cd11 ct11 : Value} {f12 : Addr} {od12 an12 : Option Addr} {sl12 : Array (Option Value)} {oc12 kV12 dc12 pm12 cd12 ct12 : Value} {f13 : Addr} {od13 an13 : Option Addr} {sl13 : Array (Option Value)} {oc13 kV13 dc13 pm13 cd13 ct13 : Value} {f14 : Addr} {od14 an14 : Option Addr} {sl14 : Array (Option Value)} {oc14 kV14 dc14 pm14 cd14 ct14 : Value} {f15 : Addr} {od15 an15 : Option Addr} {sl15 : Array (Option Value)} {oc15 kV15 dc15 pm15 cd15 ct15 : Value} {f16 : Addr} {od16 an16 : Option Addr} {sl16 : Array (Option Value)} {oc16 kV16 dc16 pm16 cd16 ct16 : Value} {f17 : Addr} {od17 an17 : Option Addr} {sl17 : Array (Option Value)} {oc17 kV17 dc17 pm17 cd17 ct17 : Value} {f18 : Addr} {od18 an18 : Option Addr} {sl18 : Array (Option Value)} {oc18 kV18 dc18 pm18 cd18 ct18 : Value} {f19 : Addr} {od19 an19 : Option Addr} {sl19 : Array (Option Value)} {oc19 kV19 dc19 pm19 cd19 ct19 : Value} {f20 : Addr} {od20 an20 : Option Addr} {sl20 : Array (Option Value)} {oc20 kV20 dc20 pm20 cd20 ct20 : Value} {f21 : Addr} {od21 an21 : Option Addr} {sl21 : Array (Option Value)} {oc21 kV21 dc21 pm21 cd21 ct21 : Value} {f22 : Addr} {od22 an22 : Option Addr} {sl22 : Array (Option Value)} {oc22 kV22 dc22 pm22 cd22 ct22 : Value} {f23 : Addr} {od23 an23 : Option Addr} {sl23 : Array (Option Value)} {oc23 kV23 dc23 pm23 cd23 ct23 : Value} {f24 : Addr} {od24 an24 : Option Addr} {sl24 : Array (Option Value)} {oc24 kV24 dc24 pm24 cd24 ct24 : Value} {f25 : Addr} {od25 an25 : Option Addr} {sl25 : Array (Option Value)} {oc25 kV25 dc25 pm25 cd25 ct25 : Value} {f26 : Addr} {od26 an26 : Option Addr} {sl26 : Array (Option Value)} {oc26 kV26 dc26 pm26 cd26 ct26 : Value} {f27 : Addr} {od27 an27 : Option Addr} {sl27 : Array (Option Value)} {oc27 kV27 dc27 pm27 cd27 ct27 : Value} {f28 : Addr} {od28 an28 : Option Addr} {sl28 : Array (Option Value)} {oc28 kV28 dc28 pm28 cd28 ct28 : Value} {f29 : Addr} {od29 an29 : Option Addr} {sl29 : Array (Option Value)} {oc29 kV29 dc29 pm29 cd29 ct29 : Value} {f30 : Addr} {od30 an30 : Option Addr} {sl30 : Array (Option Value)} {oc30 kV30 dc30 pm30 cd30 ct30 : Value} {f31 : Addr} {od31 an31 : Option Addr} {sl31 : Array (Option Value)} {oc31 kV31 dc31 pm31 cd31 ct31 : Value} {f32 : Addr} {od32 an32 : Option Addr} {sl32 : Array (Option Value)} {oc32 kV32 dc32 pm32 cd32 ct32 : Value} {f33 : Addr} {od33 an33 : Option Addr} {sl33 : Array (Option Value)} {oc33 kV33 dc33 pm33 cd33 ct33 : Value} {f34 : Addr} {od34 an34 : Option Addr} {sl34 : Array (Option Value)} {oc34 kV34 dc34 pm34 cd34 ct34 : Value} {f35 : Addr} {od35 an35 : Option Addr} {sl35 : Array (Option Value)} {oc35 kV35 dc35 pm35 cd35 ct35 : Value} {f36 : Addr} {od36 an36 : Option Addr} {sl36 : Array (Option Value)} {oc36 kV36 dc36 pm36 cd36 ct36 : Value} {f37 : Addr} {od37 an37 : Option Addr} {sl37 : Array (Option Value)} {oc37 kV37 dc37 pm37 cd37 ct37 : Value} {f38 : Addr} {od38 an38 : Option Addr} {sl38 : Array (Option Value)} {oc38 kV38 dc38 pm38 cd38 ct38 : Value}
    {C_LeanError : Addr} (q_LeanError : PySem.W.nsIn K mainGlobals "LeanError" = some (some (.ref C_LeanError)))
    {C_BadText : Addr} (q_BadText : PySem.W.nsIn K mainGlobals "BadText" = some (some (.ref C_BadText)))
    {C_Loose : Addr} (q_Loose : PySem.W.nsIn K mainGlobals "Loose" = some (some (.ref C_Loose)))
    {C_NoBook : Addr} (q_NoBook : PySem.W.nsIn K mainGlobals "NoBook" = some (some (.ref C_NoBook)))
    {C_NoJoin : Addr} (q_NoJoin : PySem.W.nsIn K mainGlobals "NoJoin" = some (some (.ref C_NoJoin)))
    {C_NoPlain : Addr} (q_NoPlain : PySem.W.nsIn K mainGlobals "NoPlain" = some (some (.ref C_NoPlain)))
    {C_NoRow : Addr} (q_NoRow : PySem.W.nsIn K mainGlobals "NoRow" = some (some (.ref C_NoRow)))
    {C_NoStep : Addr} (q_NoStep : PySem.W.nsIn K mainGlobals "NoStep" = some (some (.ref C_NoStep)))
    {C_TooLong : Addr} (q_TooLong : PySem.W.nsIn K mainGlobals "TooLong" = some (some (.ref C_TooLong)))
    {C_TooMany : Addr} (q_TooMany : PySem.W.nsIn K mainGlobals "TooMany" = some (some (.ref C_TooMany)))
    (sb_BadText : PySem.W.subIn K (.ref C_BadText) (.type "BaseException") = some true) (ty_BadText : PySem.W.typeIn K (.ref C_BadText) = some (.type "type"))
    {nm_BadText qq_BadText : Str} {NN_BadText : Addr} {bs_BadText bm_BadText : List Value} {sn_BadText : List Str} {su_BadText : List Value} {ab_BadText : Bool} {co_BadText : Option Bool} {dd_BadText : Option Addr} {k0_BadText k1_BadText k2_BadText k3_BadText k5_BadText : Option Value} (l_BadText : K.lookup C_BadText = some (excClassObj nm_BadText qq_BadText C_BadText NN_BadText bs_BadText bm_BadText true sn_BadText su_BadText ab_BadText co_BadText dd_BadText k0_BadText k1_BadText k2_BadText k3_BadText k5_BadText "ValueError.__new__")) (s_BadText : PySem.HandSPX.refsVE bm_BadText = true) (sa_BadText : PySem.W.findIn K (.ref C_BadText) "__setattr__" = some (some (.builtin "object.__setattr__"))) (kc_BadText : PySem.W.keepIn K (.ref C_BadText) = true)
    {cd_BadText : ClassData} (cl_BadText : PySem.W.clsIn K C_BadText = some cd_BadText) (ga_BadText : PySem.W.findIn K (.ref C_BadText) "__getattribute__" = some (some (.builtin "BaseException.__getattribute__"))) (gg_BadText : PySem.W.findIn K (.ref C_BadText) "__getattr__" = some none) (ca_BadText : PySem.W.findIn K (.ref C_BadText) "__class__" = some (some (.builtin "object.__class__"))) (sp_BadText : PySem.W.specialIn K (.builtin "object.__class__") "__get__" = some (some (.builtin "getset_descriptor.__get__"))) (tk_BadText : PySem.W.takesIn K (.builtin "object.__class__") = some true) (mr_BadText : PySem.W.mroIn K C_BadText (.type "object") = some true) (hd_BadText : PySem.W.hasDictIn K C_BadText = true) (ss_BadText : PySem.W.subIn K (.ref C_BadText) (.ref C_BadText) = some true)
    (n_BadText_row : PySem.W.findIn K (.ref C_BadText) "row" = some none)
    (no_BadText_Loose : PySem.W.kitOne K (.ref C_BadText) (.ref C_Loose) = some false)
    (no_BadText_NoBook : PySem.W.kitOne K (.ref C_BadText) (.ref C_NoBook) = some false)
    (no_BadText_NoJoin : PySem.W.kitOne K (.ref C_BadText) (.ref C_NoJoin) = some false)
    (no_BadText_NoPlain : PySem.W.kitOne K (.ref C_BadText) (.ref C_NoPlain) = some false)
    (no_BadText_NoRow : PySem.W.kitOne K (.ref C_BadText) (.ref C_NoRow) = some false)
    (no_BadText_NoStep : PySem.W.kitOne K (.ref C_BadText) (.ref C_NoStep) = some false)
    (no_BadText_TooLong : PySem.W.kitOne K (.ref C_BadText) (.ref C_TooLong) = some false)
    (no_BadText_TooMany : PySem.W.kitOne K (.ref C_BadText) (.ref C_TooMany) = some false)
    (no_BadText_LeanError : PySem.W.kitOne K (.ref C_BadText) (.ref C_LeanError) = some true)
    (no_BadText_ValueError : PySem.W.kitOne K (.ref C_BadText) (.type "ValueError") = some true)
    (a0 : PySem.W.findIn K (.ref C_BadText) "__init__" = some (some (.ref f0))) (e0 : PySem.W.isFn K (.ref f0) = true) (l0 : K.lookup f0 = some ⟨oc0, od0, .func (PySem.W.fnOf "__init__" "BadText.__init__" (defArgs s_BadText_init) (defBody s_BadText_init) (defScope s_BadText_init) .none kV0 dc0 pm0 an0 cd0 ct0), sl0⟩) (c0 : PySem.W.codeIn K cd0 "BadText.__init__" = true) (k0 : PySem.W.keepIn K (.ref f0) = true)
    (ti_BadText : PySem.W.typeIn K (.ref f0) = some (.type "function"))
    (a1 : PySem.W.nsIn K mainGlobals "is_name" = some (some (.ref f1))) (l1 : K.lookup f1 = some ⟨oc1, od1, .func (PySem.W.fnOf "is_name" "is_name" (defArgs s_is_name) (defBody s_is_name) (defScope s_is_name) .none kV1 dc1 pm1 an1 cd1 ct1), sl1⟩) (c1 : PySem.W.codeIn K cd1 "is_name" = true) (k1 : PySem.W.keepIn K (.ref f1) = true)
    (a2 : PySem.W.nsIn K mainGlobals "inner" = some (some (.ref f2))) (l2 : K.lookup f2 = some ⟨oc2, od2, .func (PySem.W.fnOf "inner" "inner" (defArgs s_inner) (defBody s_inner) (defScope s_inner) .none kV2 dc2 pm2 an2 cd2 ct2), sl2⟩) (c2 : PySem.W.codeIn K cd2 "inner" = true) (k2 : PySem.W.keepIn K (.ref f2) = true)
    (a3 : PySem.W.nsIn K mainGlobals "deep" = some (some (.ref f3))) (l3 : K.lookup f3 = some ⟨oc3, od3, .func (PySem.W.fnOf "deep" "deep" (defArgs s_deep) (defBody s_deep) (defScope s_deep) .none kV3 dc3 pm3 an3 cd3 ct3), sl3⟩) (c3 : PySem.W.codeIn K cd3 "deep" = true) (k3 : PySem.W.keepIn K (.ref f3) = true)
    (a4 : PySem.W.nsIn K mainGlobals "words_of" = some (some (.ref f4))) (l4 : K.lookup f4 = some ⟨oc4, od4, .func (PySem.W.fnOf "words_of" "words_of" (defArgs s_words_of) (defBody s_words_of) (defScope s_words_of) .none kV4 dc4 pm4 an4 cd4 ct4), sl4⟩) (c4 : PySem.W.codeIn K cd4 "words_of" = true) (k4 : PySem.W.keepIn K (.ref f4) = true)
    (a5 : PySem.W.nsIn K mainGlobals "all_or_none" = some (some (.ref f5))) (l5 : K.lookup f5 = some ⟨oc5, od5, .func (PySem.W.fnOf "all_or_none" "all_or_none" (defArgs s_all_or_none) (defBody s_all_or_none) (defScope s_all_or_none) .none kV5 dc5 pm5 an5 cd5 ct5), sl5⟩) (c5 : PySem.W.codeIn K cd5 "all_or_none" = true) (k5 : PySem.W.keepIn K (.ref f5) = true)
    (a6 : PySem.W.nsIn K mainGlobals "terms_in" = some (some (.ref f6))) (l6 : K.lookup f6 = some ⟨oc6, od6, .func (PySem.W.fnOf "terms_in" "terms_in" (defArgs s_terms_in) (defBody s_terms_in) (defScope s_terms_in) .none kV6 dc6 pm6 an6 cd6 ct6), sl6⟩) (c6 : PySem.W.codeIn K cd6 "terms_in" = true) (k6 : PySem.W.keepIn K (.ref f6) = true)
    (a7 : PySem.W.nsIn K mainGlobals "parted" = some (some (.ref f7))) (l7 : K.lookup f7 = some ⟨oc7, od7, .func (PySem.W.fnOf "parted" "parted" (defArgs s_parted) (defBody s_parted) (defScope s_parted) .none kV7 dc7 pm7 an7 cd7 ct7), sl7⟩) (c7 : PySem.W.codeIn K cd7 "parted" = true) (k7 : PySem.W.keepIn K (.ref f7) = true)
    (a8 : PySem.W.nsIn K mainGlobals "atom_in" = some (some (.ref f8))) (l8 : K.lookup f8 = some ⟨oc8, od8, .func (PySem.W.fnOf "atom_in" "atom_in" (defArgs s_atom_in) (defBody s_atom_in) (defScope s_atom_in) .none kV8 dc8 pm8 an8 cd8 ct8), sl8⟩) (c8 : PySem.W.codeIn K cd8 "atom_in" = true) (k8 : PySem.W.keepIn K (.ref f8) = true)
    (a9 : PySem.W.nsIn K mainGlobals "atoms_in" = some (some (.ref f9))) (l9 : K.lookup f9 = some ⟨oc9, od9, .func (PySem.W.fnOf "atoms_in" "atoms_in" (defArgs s_atoms_in) (defBody s_atoms_in) (defScope s_atoms_in) .none kV9 dc9 pm9 an9 cd9 ct9), sl9⟩) (c9 : PySem.W.codeIn K cd9 "atoms_in" = true) (k9 : PySem.W.keepIn K (.ref f9) = true)
    (a10 : PySem.W.nsIn K mainGlobals "claim_in" = some (some (.ref f10))) (l10 : K.lookup f10 = some ⟨oc10, od10, .func (PySem.W.fnOf "claim_in" "claim_in" (defArgs s_claim_in) (defBody s_claim_in) (defScope s_claim_in) .none kV10 dc10 pm10 an10 cd10 ct10), sl10⟩) (c10 : PySem.W.codeIn K cd10 "claim_in" = true) (k10 : PySem.W.keepIn K (.ref f10) = true)
    (a11 : PySem.W.nsIn K mainGlobals "read_term" = some (some (.ref f11))) (l11 : K.lookup f11 = some ⟨oc11, od11, .func (PySem.W.fnOf "read_term" "read_term" (defArgs s_read_term) (defBody s_read_term) (defScope s_read_term) .none kV11 dc11 pm11 an11 cd11 ct11), sl11⟩) (c11 : PySem.W.codeIn K cd11 "read_term" = true) (k11 : PySem.W.keepIn K (.ref f11) = true)
    (a12 : PySem.W.nsIn K mainGlobals "read_claim" = some (some (.ref f12))) (l12 : K.lookup f12 = some ⟨oc12, od12, .func (PySem.W.fnOf "read_claim" "read_claim" (defArgs s_read_claim) (defBody s_read_claim) (defScope s_read_claim) .none kV12 dc12 pm12 an12 cd12 ct12), sl12⟩) (c12 : PySem.W.codeIn K cd12 "read_claim" = true) (k12 : PySem.W.keepIn K (.ref f12) = true)
    (a13 : PySem.W.nsIn K mainGlobals "_law_box" = some (some (.ref f13))) (l13 : K.lookup f13 = some ⟨oc13, od13, .func (PySem.W.fnOf "_law_box" "_law_box" (defArgs s_box) (defBody s_box) (defScope s_box) .none kV13 dc13 pm13 an13 cd13 ct13), sl13⟩) (c13 : PySem.W.codeIn K cd13 "_law_box" = true) (k13 : PySem.W.keepIn K (.ref f13) = true)
    (a14 : PySem.W.nsIn K mainGlobals "_law_take" = some (some (.ref f14))) (l14 : K.lookup f14 = some ⟨oc14, od14, .func (PySem.W.fnOf "_law_take" "_law_take" (defArgs s_take) (defBody s_take) (defScope s_take) .none kV14 dc14 pm14 an14 cd14 ct14), sl14⟩) (c14 : PySem.W.codeIn K cd14 "_law_take" = true) (k14 : PySem.W.keepIn K (.ref f14) = true)
    (a15 : PySem.W.nsIn K mainGlobals "_law_alike" = some (some (.ref f15))) (l15 : K.lookup f15 = some ⟨oc15, od15, .func (PySem.W.fnOf "_law_alike" "_law_alike" (defArgs s_alike) (defBody s_alike) (defScope s_alike) .none kV15 dc15 pm15 an15 cd15 ct15), sl15⟩) (c15 : PySem.W.codeIn K cd15 "_law_alike" = true) (k15 : PySem.W.keepIn K (.ref f15) = true)
    (a16 : PySem.W.nsIn K mainGlobals "_law_term_words" = some (some (.ref f16))) (l16 : K.lookup f16 = some ⟨oc16, od16, .func (PySem.W.fnOf "_law_term_words" "_law_term_words" (defArgs s_term_words) (defBody s_term_words) (defScope s_term_words) .none kV16 dc16 pm16 an16 cd16 ct16), sl16⟩) (c16 : PySem.W.codeIn K cd16 "_law_term_words" = true) (k16 : PySem.W.keepIn K (.ref f16) = true)
    (a17 : PySem.W.nsIn K mainGlobals "_law_atom_words" = some (some (.ref f17))) (l17 : K.lookup f17 = some ⟨oc17, od17, .func (PySem.W.fnOf "_law_atom_words" "_law_atom_words" (defArgs s_atom_words) (defBody s_atom_words) (defScope s_atom_words) .none kV17 dc17 pm17 an17 cd17 ct17), sl17⟩) (c17 : PySem.W.codeIn K cd17 "_law_atom_words" = true) (k17 : PySem.W.keepIn K (.ref f17) = true)
    (a18 : PySem.W.nsIn K mainGlobals "_law_claim_words" = some (some (.ref f18))) (l18 : K.lookup f18 = some ⟨oc18, od18, .func (PySem.W.fnOf "_law_claim_words" "_law_claim_words" (defArgs s_claim_words) (defBody s_claim_words) (defScope s_claim_words) .none kV18 dc18 pm18 an18 cd18 ct18), sl18⟩) (c18 : PySem.W.codeIn K cd18 "_law_claim_words" = true) (k18 : PySem.W.keepIn K (.ref f18) = true)
    (a19 : PySem.W.nsIn K mainGlobals "_law_wide_name" = some (some (.ref f19))) (l19 : K.lookup f19 = some ⟨oc19, od19, .func (PySem.W.fnOf "_law_wide_name" "_law_wide_name" (defArgs s_wide_name) (defBody s_wide_name) (defScope s_wide_name) .none kV19 dc19 pm19 an19 cd19 ct19), sl19⟩) (c19 : PySem.W.codeIn K cd19 "_law_wide_name" = true) (k19 : PySem.W.keepIn K (.ref f19) = true)
    (a20 : PySem.W.nsIn K mainGlobals "_law_wide_names" = some (some (.ref f20))) (l20 : K.lookup f20 = some ⟨oc20, od20, .func (PySem.W.fnOf "_law_wide_names" "_law_wide_names" (defArgs s_wide_names) (defBody s_wide_names) (defScope s_wide_names) .none kV20 dc20 pm20 an20 cd20 ct20), sl20⟩) (c20 : PySem.W.codeIn K cd20 "_law_wide_names" = true) (k20 : PySem.W.keepIn K (.ref f20) = true)
    (a21 : PySem.W.nsIn K mainGlobals "_law_wide_term" = some (some (.ref f21))) (l21 : K.lookup f21 = some ⟨oc21, od21, .func (PySem.W.fnOf "_law_wide_term" "_law_wide_term" (defArgs s_wide_term) (defBody s_wide_term) (defScope s_wide_term) .none kV21 dc21 pm21 an21 cd21 ct21), sl21⟩) (c21 : PySem.W.codeIn K cd21 "_law_wide_term" = true) (k21 : PySem.W.keepIn K (.ref f21) = true)
    (a22 : PySem.W.nsIn K mainGlobals "_law_wide_terms" = some (some (.ref f22))) (l22 : K.lookup f22 = some ⟨oc22, od22, .func (PySem.W.fnOf "_law_wide_terms" "_law_wide_terms" (defArgs s_wide_terms) (defBody s_wide_terms) (defScope s_wide_terms) .none kV22 dc22 pm22 an22 cd22 ct22), sl22⟩) (c22 : PySem.W.codeIn K cd22 "_law_wide_terms" = true) (k22 : PySem.W.keepIn K (.ref f22) = true)
    (a23 : PySem.W.nsIn K mainGlobals "_law_wide_atom" = some (some (.ref f23))) (l23 : K.lookup f23 = some ⟨oc23, od23, .func (PySem.W.fnOf "_law_wide_atom" "_law_wide_atom" (defArgs s_wide_atom) (defBody s_wide_atom) (defScope s_wide_atom) .none kV23 dc23 pm23 an23 cd23 ct23), sl23⟩) (c23 : PySem.W.codeIn K cd23 "_law_wide_atom" = true) (k23 : PySem.W.keepIn K (.ref f23) = true)
    (a24 : PySem.W.nsIn K mainGlobals "_law_wide_claim" = some (some (.ref f24))) (l24 : K.lookup f24 = some ⟨oc24, od24, .func (PySem.W.fnOf "_law_wide_claim" "_law_wide_claim" (defArgs s_wide_claim) (defBody s_wide_claim) (defScope s_wide_claim) .none kV24 dc24 pm24 an24 cd24 ct24), sl24⟩) (c24 : PySem.W.codeIn K cd24 "_law_wide_claim" = true) (k24 : PySem.W.keepIn K (.ref f24) = true)
    (a25 : PySem.W.nsIn K mainGlobals "_law_is_name" = some (some (.ref f25))) (l25 : K.lookup f25 = some ⟨oc25, od25, .func (PySem.W.fnOf "_law_is_name" "_law_is_name" (defArgs s_l_is_name) (defBody s_l_is_name) (defScope s_l_is_name) .none kV25 dc25 pm25 an25 cd25 ct25), sl25⟩) (c25 : PySem.W.codeIn K cd25 "_law_is_name" = true) (k25 : PySem.W.keepIn K (.ref f25) = true)
    (a26 : PySem.W.nsIn K mainGlobals "_law_far" = some (some (.ref f26))) (l26 : K.lookup f26 = some ⟨oc26, od26, .func (PySem.W.fnOf "_law_far" "_law_far" (defArgs s_far) (defBody s_far) (defScope s_far) .none kV26 dc26 pm26 an26 cd26 ct26), sl26⟩) (c26 : PySem.W.codeIn K cd26 "_law_far" = true) (k26 : PySem.W.keepIn K (.ref f26) = true)
    (a27 : PySem.W.nsIn K mainGlobals "_law_terms" = some (some (.ref f27))) (l27 : K.lookup f27 = some ⟨oc27, od27, .func (PySem.W.fnOf "_law_terms" "_law_terms" (defArgs s_terms) (defBody s_terms) (defScope s_terms) .none kV27 dc27 pm27 an27 cd27 ct27), sl27⟩) (c27 : PySem.W.codeIn K cd27 "_law_terms" = true) (k27 : PySem.W.keepIn K (.ref f27) = true)
    (a28 : PySem.W.nsIn K mainGlobals "_law_atom" = some (some (.ref f28))) (l28 : K.lookup f28 = some ⟨oc28, od28, .func (PySem.W.fnOf "_law_atom" "_law_atom" (defArgs s_atom) (defBody s_atom) (defScope s_atom) .none kV28 dc28 pm28 an28 cd28 ct28), sl28⟩) (c28 : PySem.W.codeIn K cd28 "_law_atom" = true) (k28 : PySem.W.keepIn K (.ref f28) = true)
    (a29 : PySem.W.nsIn K mainGlobals "_law_parted" = some (some (.ref f29))) (l29 : K.lookup f29 = some ⟨oc29, od29, .func (PySem.W.fnOf "_law_parted" "_law_parted" (defArgs s_l_parted) (defBody s_l_parted) (defScope s_l_parted) .none kV29 dc29 pm29 an29 cd29 ct29), sl29⟩) (c29 : PySem.W.codeIn K cd29 "_law_parted" = true) (k29 : PySem.W.keepIn K (.ref f29) = true)
    (a30 : PySem.W.nsIn K mainGlobals "_law_claim" = some (some (.ref f30))) (l30 : K.lookup f30 = some ⟨oc30, od30, .func (PySem.W.fnOf "_law_claim" "_law_claim" (defArgs s_claim) (defBody s_claim) (defScope s_claim) .none kV30 dc30 pm30 an30 cd30 ct30), sl30⟩) (c30 : PySem.W.codeIn K cd30 "_law_claim" = true) (k30 : PySem.W.keepIn K (.ref f30) = true)
    (a31 : PySem.W.nsIn K mainGlobals "_law_other_word" = some (some (.ref f31))) (l31 : K.lookup f31 = some ⟨oc31, od31, .func (PySem.W.fnOf "_law_other_word" "_law_other_word" (defArgs s_other_word) (defBody s_other_word) (defScope s_other_word) .none kV31 dc31 pm31 an31 cd31 ct31), sl31⟩) (c31 : PySem.W.codeIn K cd31 "_law_other_word" = true) (k31 : PySem.W.keepIn K (.ref f31) = true)
    (a32 : PySem.W.nsIn K mainGlobals "_law_sign" = some (some (.ref f32))) (l32 : K.lookup f32 = some ⟨oc32, od32, .func (PySem.W.fnOf "_law_sign" "_law_sign" (defArgs s_sign) (defBody s_sign) (defScope s_sign) .none kV32 dc32 pm32 an32 cd32 ct32), sl32⟩) (c32 : PySem.W.codeIn K cd32 "_law_sign" = true) (k32 : PySem.W.keepIn K (.ref f32) = true)
    (a33 : PySem.W.nsIn K mainGlobals "_law_row_otherwise" = some (some (.ref f33))) (l33 : K.lookup f33 = some ⟨oc33, od33, .func (PySem.W.fnOf "_law_row_otherwise" "_law_row_otherwise" (defArgs s_row_otherwise) (defBody s_row_otherwise) (defScope s_row_otherwise) .none kV33 dc33 pm33 an33 cd33 ct33), sl33⟩) (c33 : PySem.W.codeIn K cd33 "_law_row_otherwise" = true) (k33 : PySem.W.keepIn K (.ref f33) = true)
    (a34 : PySem.W.nsIn K mainGlobals "_law_met" = some (some (.ref f34))) (l34 : K.lookup f34 = some ⟨oc34, od34, .func (PySem.W.fnOf "_law_met" "_law_met" (defArgs s_met) (defBody s_met) (defScope s_met) .none kV34 dc34 pm34 an34 cd34 ct34), sl34⟩) (c34 : PySem.W.codeIn K cd34 "_law_met" = true) (k34 : PySem.W.keepIn K (.ref f34) = true)
    (a35 : PySem.W.nsIn K mainGlobals "_law_due_term" = some (some (.ref f35))) (l35 : K.lookup f35 = some ⟨oc35, od35, .func (PySem.W.fnOf "_law_due_term" "_law_due_term" (defArgs s_due_term) (defBody s_due_term) (defScope s_due_term) .none kV35 dc35 pm35 an35 cd35 ct35), sl35⟩) (c35 : PySem.W.codeIn K cd35 "_law_due_term" = true) (k35 : PySem.W.keepIn K (.ref f35) = true)
    (a36 : PySem.W.nsIn K mainGlobals "_law_due_claim" = some (some (.ref f36))) (l36 : K.lookup f36 = some ⟨oc36, od36, .func (PySem.W.fnOf "_law_due_claim" "_law_due_claim" (defArgs s_due_claim) (defBody s_due_claim) (defScope s_due_claim) .none kV36 dc36 pm36 an36 cd36 ct36), sl36⟩) (c36 : PySem.W.codeIn K cd36 "_law_due_claim" = true) (k36 : PySem.W.keepIn K (.ref f36) = true)
    (a37 : PySem.W.nsIn K mainGlobals "_law_right" = some (some (.ref f37))) (l37 : K.lookup f37 = some ⟨oc37, od37, .func (PySem.W.fnOf "_law_right" "_law_right" (defArgs s_right) (defBody s_right) (defScope s_right) .none kV37 dc37 pm37 an37 cd37 ct37), sl37⟩) (c37 : PySem.W.codeIn K cd37 "_law_right" = true) (k37 : PySem.W.keepIn K (.ref f37) = true)
    (a38 : PySem.W.nsIn K mainGlobals "law" = some (some (.ref f38))) (l38 : K.lookup f38 = some ⟨oc38, od38, .func (PySem.W.fnOf "law" "law" (defArgs s_law) (defBody s_law) (defScope s_law) .none kV38 dc38 pm38 an38 cd38 ct38), sl38⟩) (c38 : PySem.W.codeIn K cd38 "law" = true) (k38 : PySem.W.keepIn K (.ref f38) = true)
    (z_ValueError : PySem.W.nsIn K mainGlobals "ValueError" = some none)
    (z_all : PySem.W.nsIn K mainGlobals "all" = some none)
    (z_any : PySem.W.nsIn K mainGlobals "any" = some none)
    (z_bool : PySem.W.nsIn K mainGlobals "bool" = some none)
    (z_dict : PySem.W.nsIn K mainGlobals "dict" = some none)
    (z_enumerate : PySem.W.nsIn K mainGlobals "enumerate" = some none)
    (z_int : PySem.W.nsIn K mainGlobals "int" = some none)
    (z_isinstance : PySem.W.nsIn K mainGlobals "isinstance" = some none)
    (z_len : PySem.W.nsIn K mainGlobals "len" = some none)
    (z_list : PySem.W.nsIn K mainGlobals "list" = some none)
    (z_max : PySem.W.nsIn K mainGlobals "max" = some none)
    (z_min : PySem.W.nsIn K mainGlobals "min" = some none)
    (z_range : PySem.W.nsIn K mainGlobals "range" = some none)
    (z_str : PySem.W.nsIn K mainGlobals "str" = some none)
    (z_tuple : PySem.W.nsIn K mainGlobals "tuple" = some none)
    (z_zip : PySem.W.nsIn K mainGlobals "zip" = some none)
    {t_LETTERS : Tok} (q_LETTERS : PySem.W.nsIn K mainGlobals "LETTERS" = some (some (.str "abcdefghijklmnopqrstuvwxyz" t_LETTERS)))
    {t_LONGEST : Tok} (q_LONGEST : PySem.W.nsIn K mainGlobals "LONGEST" = some (some (.int 8 t_LONGEST)))
    {r_WORDS : Addr} {t0_WORDS t1_WORDS t2_WORDS : Tok} {dd_WORDS : Option Addr} {n_WORDS : Nat} {sl_WORDS : Array (Option Value)} (q_WORDS : PySem.W.nsIn K mainGlobals "WORDS" = some (some (.ref r_WORDS))) (l_WORDS : K.lookup r_WORDS = some ⟨.type "tuple", dd_WORDS, .seq #[.str "if" t0_WORDS, .str "to" t1_WORDS, .str "lefts" t2_WORDS] n_WORDS, sl_WORDS⟩)
    {t_DEEPEST : Tok} (q_DEEPEST : PySem.W.nsIn K mainGlobals "DEEPEST" = some (some (.int 30 t_DEEPEST)))
    : ∃ T : Top K mg, (∀ (s : Shared) (v : Value), BindsTo s T.x_law.fd ⟨[v], []⟩ [("_law_script", v)]) :=
  ⟨⟨PySem.W.mg_none_of X G z_ValueError,
    PySem.W.mg_none_of X G z_all,
    PySem.W.mg_none_of X G z_any,
    PySem.W.mg_none_of X G z_bool,
    PySem.W.mg_none_of X G z_dict,
    PySem.W.mg_none_of X G z_enumerate,
    PySem.W.mg_none_of X G z_int,
    PySem.W.mg_none_of X G z_isinstance,
    PySem.W.mg_none_of X G z_len,
    PySem.W.mg_none_of X G z_list,
    PySem.W.mg_none_of X G z_max,
    PySem.W.mg_none_of X G z_min,
    PySem.W.mg_none_of X G z_range,
    PySem.W.mg_none_of X G z_str,
    PySem.W.mg_none_of X G z_tuple,
    PySem.W.mg_none_of X G z_zip,
    t_LETTERS,
    PySem.W.mg_of X G q_LETTERS,
    t_LONGEST,
    PySem.W.mg_of X G q_LONGEST,
    r_WORDS,
    PySem.W.mg_of X G q_WORDS,
    fun H => .inr ⟨_, _, _, l_WORDS, rfl, rfl, by show 3 ≤ sizeLine; decide, (.cons ⟨_, rfl⟩ (.cons ⟨_, rfl⟩ (.cons ⟨_, rfl⟩ .nil)))⟩,
    t_DEEPEST,
    PySem.W.mg_of X G q_DEEPEST,
    C_LeanError,
    PySem.W.mg_of X G q_LeanError,
    C_BadText,
    PySem.W.mg_of X G q_BadText,
    C_Loose,
    PySem.W.mg_of X G q_Loose,
    C_NoBook,
    PySem.W.mg_of X G q_NoBook,
    C_NoJoin,
    PySem.W.mg_of X G q_NoJoin,
    C_NoPlain,
    PySem.W.mg_of X G q_NoPlain,
    C_NoRow,
    PySem.W.mg_of X G q_NoRow,
    C_NoStep,
    PySem.W.mg_of X G q_NoStep,
    C_TooLong,
    PySem.W.mg_of X G q_TooLong,
    C_TooMany,
    PySem.W.mg_of X G q_TooMany,
    ⟨⟨_, _, _, _, _, _, _, _, _, _, _, _, _, _, _, l_BadText, s_BadText⟩, sa_BadText, sb_BadText, ty_BadText, kc_BadText⟩,
    ⟨by rw [cl_BadText]; rfl, ga_BadText, gg_BadText, sb_BadText, ca_BadText, sp_BadText, tk_BadText, mr_BadText, hd_BadText⟩,
    PySem.W.exm_ref sb_BadText hd_BadText ty_BadText ss_BadText,
    n_BadText_row,
    no_BadText_Loose,
    no_BadText_NoBook,
    no_BadText_NoJoin,
    no_BadText_NoPlain,
    no_BadText_NoRow,
    no_BadText_NoStep,
    no_BadText_TooLong,
    no_BadText_TooMany,
    no_BadText_LeanError,
    no_BadText_ValueError,
    ⟨f0, _, fun_mk (st := s_BadText_init) l0 c0 k0, (fun_mk (st := s_BadText_init) l0 c0 k0).binds (ps := P_BadText_init) fun _ _ _ _ _ _ us hl => match us, hl with | [_, _], _ => rfl, ⟨a0, e0, k0⟩⟩,
    ⟨f1, _, fun_mk (st := s_is_name) l1 c1 k1, (fun_mk (st := s_is_name) l1 c1 k1).binds (ps := P_is_name) fun _ _ _ _ _ _ us hl => match us, hl with | [_], _ => rfl, PySem.W.mg_of X G a1⟩,
    ⟨f2, _, fun_mk (st := s_inner) l2 c2 k2, (fun_mk (st := s_inner) l2 c2 k2).binds (ps := P_inner) fun _ _ _ _ _ _ us hl => match us, hl with | [_], _ => rfl, PySem.W.mg_of X G a2⟩,
    ⟨f3, _, fun_mk (st := s_deep) l3 c3 k3, (fun_mk (st := s_deep) l3 c3 k3).binds (ps := P_deep) fun _ _ _ _ _ _ us hl => match us, hl with | [_], _ => rfl, PySem.W.mg_of X G a3⟩,
    ⟨f4, _, fun_mk (st := s_words_of) l4 c4 k4, (fun_mk (st := s_words_of) l4 c4 k4).binds (ps := P_words_of) fun _ _ _ _ _ _ us hl => match us, hl with | [_], _ => rfl, PySem.W.mg_of X G a4⟩,
    ⟨f5, _, fun_mk (st := s_all_or_none) l5 c5 k5, (fun_mk (st := s_all_or_none) l5 c5 k5).binds (ps := P_all_or_none) fun _ _ _ _ _ _ us hl => match us, hl with | [_], _ => rfl, PySem.W.mg_of X G a5⟩,
    ⟨f6, _, fun_mk (st := s_terms_in) l6 c6 k6, (fun_mk (st := s_terms_in) l6 c6 k6).binds (ps := P_terms_in) fun _ _ _ _ _ _ us hl => match us, hl with | [_], _ => rfl, PySem.W.mg_of X G a6⟩,
    ⟨f7, _, fun_mk (st := s_parted) l7 c7 k7, (fun_mk (st := s_parted) l7 c7 k7).binds (ps := P_parted) fun _ _ _ _ _ _ us hl => match us, hl with | [_, _], _ => rfl, PySem.W.mg_of X G a7⟩,
    ⟨f8, _, fun_mk (st := s_atom_in) l8 c8 k8, (fun_mk (st := s_atom_in) l8 c8 k8).binds (ps := P_atom_in) fun _ _ _ _ _ _ us hl => match us, hl with | [_], _ => rfl, PySem.W.mg_of X G a8⟩,
    ⟨f9, _, fun_mk (st := s_atoms_in) l9 c9 k9, (fun_mk (st := s_atoms_in) l9 c9 k9).binds (ps := P_atoms_in) fun _ _ _ _ _ _ us hl => match us, hl with | [_], _ => rfl, PySem.W.mg_of X G a9⟩,
    ⟨f10, _, fun_mk (st := s_claim_in) l10 c10 k10, (fun_mk (st := s_claim_in) l10 c10 k10).binds (ps := P_claim_in) fun _ _ _ _ _ _ us hl => match us, hl with | [_], _ => rfl, PySem.W.mg_of X G a10⟩,
    ⟨f11, _, fun_mk (st := s_read_term) l11 c11 k11, (fun_mk (st := s_read_term) l11 c11 k11).binds (ps := P_read_term) fun _ _ _ _ _ _ us hl => match us, hl with | [_], _ => rfl, PySem.W.mg_of X G a11⟩,
    ⟨f12, _, fun_mk (st := s_read_claim) l12 c12 k12, (fun_mk (st := s_read_claim) l12 c12 k12).binds (ps := P_read_claim) fun _ _ _ _ _ _ us hl => match us, hl with | [_], _ => rfl, PySem.W.mg_of X G a12⟩,
    ⟨f13, _, fun_mk (st := s_box) l13 c13 k13, (fun_mk (st := s_box) l13 c13 k13).binds (ps := P_box) fun _ _ _ _ _ _ us hl => match us, hl with | [_, _], _ => rfl, PySem.W.mg_of X G a13⟩,
    ⟨f14, _, fun_mk (st := s_take) l14 c14 k14, (fun_mk (st := s_take) l14 c14 k14).binds (ps := P_take) fun _ _ _ _ _ _ us hl => match us, hl with | [_, _], _ => rfl, PySem.W.mg_of X G a14⟩,
    ⟨f15, _, fun_mk (st := s_alike) l15 c15 k15, (fun_mk (st := s_alike) l15 c15 k15).binds (ps := P_alike) fun _ _ _ _ _ _ us hl => match us, hl with | [_, _], _ => rfl, PySem.W.mg_of X G a15⟩,
    ⟨f16, _, fun_mk (st := s_term_words) l16 c16 k16, (fun_mk (st := s_term_words) l16 c16 k16).binds (ps := P_term_words) fun _ _ _ _ _ _ us hl => match us, hl with | [_], _ => rfl, PySem.W.mg_of X G a16⟩,
    ⟨f17, _, fun_mk (st := s_atom_words) l17 c17 k17, (fun_mk (st := s_atom_words) l17 c17 k17).binds (ps := P_atom_words) fun _ _ _ _ _ _ us hl => match us, hl with | [_], _ => rfl, PySem.W.mg_of X G a17⟩,
    ⟨f18, _, fun_mk (st := s_claim_words) l18 c18 k18, (fun_mk (st := s_claim_words) l18 c18 k18).binds (ps := P_claim_words) fun _ _ _ _ _ _ us hl => match us, hl with | [_], _ => rfl, PySem.W.mg_of X G a18⟩,
    ⟨f19, _, fun_mk (st := s_wide_name) l19 c19 k19, (fun_mk (st := s_wide_name) l19 c19 k19).binds (ps := P_wide_name) fun _ _ _ _ _ _ us hl => match us, hl with | [_], _ => rfl, PySem.W.mg_of X G a19⟩,
    ⟨f20, _, fun_mk (st := s_wide_names) l20 c20 k20, (fun_mk (st := s_wide_names) l20 c20 k20).binds (ps := P_wide_names) fun _ _ _ _ _ _ us hl => match us, hl with | [_], _ => rfl, PySem.W.mg_of X G a20⟩,
    ⟨f21, _, fun_mk (st := s_wide_term) l21 c21 k21, (fun_mk (st := s_wide_term) l21 c21 k21).binds (ps := P_wide_term) fun _ _ _ _ _ _ us hl => match us, hl with | [_, _, _, _], _ => rfl, PySem.W.mg_of X G a21⟩,
    ⟨f22, _, fun_mk (st := s_wide_terms) l22 c22 k22, (fun_mk (st := s_wide_terms) l22 c22 k22).binds (ps := P_wide_terms) fun _ _ _ _ _ _ us hl => match us, hl with | [_, _, _], _ => rfl, PySem.W.mg_of X G a22⟩,
    ⟨f23, _, fun_mk (st := s_wide_atom) l23 c23 k23, (fun_mk (st := s_wide_atom) l23 c23 k23).binds (ps := P_wide_atom) fun _ _ _ _ _ _ us hl => match us, hl with | [_, _], _ => rfl, PySem.W.mg_of X G a23⟩,
    ⟨f24, _, fun_mk (st := s_wide_claim) l24 c24 k24, (fun_mk (st := s_wide_claim) l24 c24 k24).binds (ps := P_wide_claim) fun _ _ _ _ _ _ us hl => match us, hl with | [_, _], _ => rfl, PySem.W.mg_of X G a24⟩,
    ⟨f25, _, fun_mk (st := s_l_is_name) l25 c25 k25, (fun_mk (st := s_l_is_name) l25 c25 k25).binds (ps := P_l_is_name) fun _ _ _ _ _ _ us hl => match us, hl with | [_], _ => rfl, PySem.W.mg_of X G a25⟩,
    ⟨f26, _, fun_mk (st := s_far) l26 c26 k26, (fun_mk (st := s_far) l26 c26 k26).binds (ps := P_far) fun _ _ _ _ _ _ us hl => match us, hl with | [_], _ => rfl, PySem.W.mg_of X G a26⟩,
    ⟨f27, _, fun_mk (st := s_terms) l27 c27 k27, (fun_mk (st := s_terms) l27 c27 k27).binds (ps := P_terms) fun _ _ _ _ _ _ us hl => match us, hl with | [_], _ => rfl, PySem.W.mg_of X G a27⟩,
    ⟨f28, _, fun_mk (st := s_atom) l28 c28 k28, (fun_mk (st := s_atom) l28 c28 k28).binds (ps := P_atom) fun _ _ _ _ _ _ us hl => match us, hl with | [_], _ => rfl, PySem.W.mg_of X G a28⟩,
    ⟨f29, _, fun_mk (st := s_l_parted) l29 c29 k29, (fun_mk (st := s_l_parted) l29 c29 k29).binds (ps := P_l_parted) fun _ _ _ _ _ _ us hl => match us, hl with | [_, _], _ => rfl, PySem.W.mg_of X G a29⟩,
    ⟨f30, _, fun_mk (st := s_claim) l30 c30 k30, (fun_mk (st := s_claim) l30 c30 k30).binds (ps := P_claim) fun _ _ _ _ _ _ us hl => match us, hl with | [_], _ => rfl, PySem.W.mg_of X G a30⟩,
    ⟨f31, _, fun_mk (st := s_other_word) l31 c31 k31, (fun_mk (st := s_other_word) l31 c31 k31).binds (ps := P_other_word) fun _ _ _ _ _ _ us hl => match us, hl with | [_, _], _ => rfl, PySem.W.mg_of X G a31⟩,
    ⟨f32, _, fun_mk (st := s_sign) l32 c32 k32, (fun_mk (st := s_sign) l32 c32 k32).binds (ps := P_sign) fun _ _ _ _ _ _ us hl => match us, hl with | [_], _ => rfl, PySem.W.mg_of X G a32⟩,
    ⟨f33, _, fun_mk (st := s_row_otherwise) l33 c33 k33, (fun_mk (st := s_row_otherwise) l33 c33 k33).binds (ps := P_row_otherwise) fun _ _ _ _ _ _ us hl => match us, hl with | [_, _], _ => rfl, PySem.W.mg_of X G a33⟩,
    ⟨f34, _, fun_mk (st := s_met) l34 c34 k34, (fun_mk (st := s_met) l34 c34 k34).binds (ps := P_met) fun _ _ _ _ _ _ us hl => match us, hl with | [_, _], _ => rfl, PySem.W.mg_of X G a34⟩,
    ⟨f35, _, fun_mk (st := s_due_term) l35 c35 k35, (fun_mk (st := s_due_term) l35 c35 k35).binds (ps := P_due_term) fun _ _ _ _ _ _ us hl => match us, hl with | [_], _ => rfl, PySem.W.mg_of X G a35⟩,
    ⟨f36, _, fun_mk (st := s_due_claim) l36 c36 k36, (fun_mk (st := s_due_claim) l36 c36 k36).binds (ps := P_due_claim) fun _ _ _ _ _ _ us hl => match us, hl with | [_], _ => rfl, PySem.W.mg_of X G a36⟩,
    ⟨f37, _, fun_mk (st := s_right) l37 c37 k37, (fun_mk (st := s_right) l37 c37 k37).binds (ps := P_right) fun _ _ _ _ _ _ us hl => match us, hl with | [_], _ => rfl, PySem.W.mg_of X G a37⟩,
    ⟨f38, _, fun_mk (st := s_law) l38 c38 k38, (fun_mk (st := s_law) l38 c38 k38).binds (ps := P_law) fun _ _ _ _ _ _ us hl => match us, hl with | [_], _ => rfl, PySem.W.mg_of X G a38⟩,
    ti_BadText⟩, fun s v => .of_eq rfl⟩

end
end My
open PySem PySem.W PyProof.Rows
set_option maxHeartbeats 0 in
theorem PySem.Challenge.cw_leanround_k60_terms_and_claims_otherwise_holds : PySem.Challenge.rw_leanround_k60_terms_and_claims_otherwise.Holds := by
  w_on; o_law; k_head; (case hw => w_witness2)
  k_fill
  refine L2.walk_ofK (l := PySem.Challenge.rw_leanround_k60_terms_and_claims_otherwise) (n := 63) (k := 60) (x := "_law_script") (CX := L2.CX0) (sp := G.spLaw) rfl (by decide) rfl ⟨rfl, by decide, by decide⟩ (fun w h Y => PySem.W.kIn_of Y) ?F (fun K H a ns hl _ hS => G.law_start hl hS) (fun _ _ _ _ h => h)
  case F =>
    intro w mg fa h KX G hmg
    refine' Exists.elim (My.top_mk KX G ?q_LeanError ?q_BadText ?q_Loose ?q_NoBook ?q_NoJoin ?q_NoPlain ?q_NoRow ?q_NoStep ?q_TooLong ?q_TooMany ?sb_BadText ?ty_BadText ?l_BadText ?s_BadText ?sa_BadText ?kc_BadText ?cl_BadText ?ga_BadText ?gg_BadText ?ca_BadText ?sp_BadText ?tk_BadText ?mr_BadText ?hd_BadText ?ss_BadText ?n_BadText_row ?no_BadText_Loose ?no_BadText_NoBook ?no_BadText_NoJoin ?no_BadText_NoPlain ?no_BadText_NoRow ?no_BadText_NoStep ?no_BadText_TooLong ?no_BadText_TooMany ?no_BadText_LeanError ?no_BadText_ValueError ?a0 ?e0 ?l0 ?c0 ?k0 ?ti_BadText ?a1 ?l1 ?c1 ?k1 ?a2 ?l2 ?c2 ?k2 ?a3 ?l3 ?c3 ?k3 ?a4 ?l4 ?c4 ?k4 ?a5 ?l5 ?c5 ?k5 ?a6 ?l6 ?c6 ?k6 ?a7 ?l7 ?c7 ?k7 ?a8 ?l8 ?c8 ?k8 ?a9 ?l9 ?c9 ?k9 ?a10 ?l10 ?c10 ?k10 ?a11 ?l11 ?c11 ?k11 ?a12 ?l12 ?c12 ?k12 ?a13 ?l13 ?c13 ?k13 ?a14 ?l14 ?c14 ?k14 ?a15 ?l15 ?c15 ?k15 ?a16 ?l16 ?c16 ?k16 ?a17 ?l17 ?c17 ?k17 ?a18 ?l18 ?c18 ?k18 ?a19 ?l19 ?c19 ?k19 ?a20 ?l20 ?c20 ?k20 ?a21 ?l21 ?c21 ?k21 ?a22 ?l22 ?c22 ?k22 ?a23 ?l23 ?c23 ?k23 ?a24 ?l24 ?c24 ?k24 ?a25 ?l25 ?c25 ?k25 ?a26 ?l26 ?c26 ?k26 ?a27 ?l27 ?c27 ?k27 ?a28 ?l28 ?c28 ?k28 ?a29 ?l29 ?c29 ?k29 ?a30 ?l30 ?c30 ?k30 ?a31 ?l31 ?c31 ?k31 ?a32 ?l32 ?c32 ?k32 ?a33 ?l33 ?c33 ?k33 ?a34 ?l34 ?c34 ?k34 ?a35 ?l35 ?c35 ?k35 ?a36 ?l36 ?c36 ?k36 ?a37 ?l37 ?c37 ?k37 ?a38 ?l38 ?c38 ?k38 ?z_ValueError ?z_all ?z_any ?z_bool ?z_dict ?z_enumerate ?z_int ?z_isinstance ?z_len ?z_list ?z_max ?z_min ?z_range ?z_str ?z_tuple ?z_zip ?q_LETTERS ?q_LONGEST ?q_WORDS ?l_WORDS ?q_DEEPEST) ?go
    (case q_LeanError => k_is)
    (case q_BadText => k_is)
    (case q_Loose => k_is)
    (case q_NoBook => k_is)
    (case q_NoJoin => k_is)
    (case q_NoPlain => k_is)
    (case q_NoRow => k_is)
    (case q_NoStep => k_is)
    (case q_TooLong => k_is)
    (case q_TooMany => k_is)
    (case sb_BadText => k_is)
    (case ty_BadText => k_is)
    (case l_BadText => k_is)
    (case s_BadText => first | decide | rfl)
    (case sa_BadText => k_is)
    (case kc_BadText => k_is)
    (case cl_BadText => k_is)
    (case ga_BadText => k_is)
    (case gg_BadText => k_is)
    (case ca_BadText => k_is)
    (case sp_BadText => k_is)
    (case tk_BadText => k_is)
    (case mr_BadText => k_is)
    (case hd_BadText => k_is)
    (case ss_BadText => k_is)
    (case n_BadText_row => k_is)
    (case no_BadText_Loose => kit_is)
    (case no_BadText_NoBook => kit_is)
    (case no_BadText_NoJoin => kit_is)
    (case no_BadText_NoPlain => kit_is)
    (case no_BadText_NoRow => kit_is)
    (case no_BadText_NoStep => kit_is)
    (case no_BadText_TooLong => kit_is)
    (case no_BadText_TooMany => kit_is)
    (case no_BadText_LeanError => kit_is)
    (case no_BadText_ValueError => kit_is)
    (case a0 => k_is)
    (case e0 => k_is)
    (case l0 => k_is)
    (case c0 => k_is)
    (case k0 => k_is)
    (case ti_BadText => k_is)
    (case a1 => k_is)
    (case l1 => k_is)
    (case c1 => k_is)
    (case k1 => k_is)
    (case a2 => k_is)
    (case l2 => k_is)
    (case c2 => k_is)
    (case k2 => k_is)
    (case a3 => k_is)
    (case l3 => k_is)
    (case c3 => k_is)
    (case k3 => k_is)
    (case a4 => k_is)
    (case l4 => k_is)
    (case c4 => k_is)
    (case k4 => k_is)
    (case a5 => k_is)
    (case l5 => k_is)
    (case c5 => k_is)
    (case k5 => k_is)
    (case a6 => k_is)
    (case l6 => k_is)
    (case c6 => k_is)
    (case k6 => k_is)
    (case a7 => k_is)
    (case l7 => k_is)
    (case c7 => k_is)
    (case k7 => k_is)
    (case a8 => k_is)
    (case l8 => k_is)
    (case c8 => k_is)
    (case k8 => k_is)
    (case a9 => k_is)
    (case l9 => k_is)
    (case c9 => k_is)
    (case k9 => k_is)
    (case a10 => k_is)
    (case l10 => k_is)
    (case c10 => k_is)
    (case k10 => k_is)
    (case a11 => k_is)
    (case l11 => k_is)
    (case c11 => k_is)
    (case k11 => k_is)
    (case a12 => k_is)
    (case l12 => k_is)
    (case c12 => k_is)
    (case k12 => k_is)
    (case a13 => k_is)
    (case l13 => k_is)
    (case c13 => k_is)
    (case k13 => k_is)
    (case a14 => k_is)
    (case l14 => k_is)
    (case c14 => k_is)
    (case k14 => k_is)
    (case a15 => k_is)
    (case l15 => k_is)
    (case c15 => k_is)
    (case k15 => k_is)
    (case a16 => k_is)
    (case l16 => k_is)
    (case c16 => k_is)
    (case k16 => k_is)
    (case a17 => k_is)
    (case l17 => k_is)
    (case c17 => k_is)
    (case k17 => k_is)
    (case a18 => k_is)
    (case l18 => k_is)
    (case c18 => k_is)
    (case k18 => k_is)
    (case a19 => k_is)
    (case l19 => k_is)
    (case c19 => k_is)
    (case k19 => k_is)
    (case a20 => k_is)
    (case l20 => k_is)
    (case c20 => k_is)
    (case k20 => k_is)
    (case a21 => k_is)
    (case l21 => k_is)
    (case c21 => k_is)
    (case k21 => k_is)
    (case a22 => k_is)
    (case l22 => k_is)
    (case c22 => k_is)
    (case k22 => k_is)
    (case a23 => k_is)
    (case l23 => k_is)
    (case c23 => k_is)
    (case k23 => k_is)
    (case a24 => k_is)
    (case l24 => k_is)
    (case c24 => k_is)
    (case k24 => k_is)
    (case a25 => k_is)
    (case l25 => k_is)
    (case c25 => k_is)
    (case k25 => k_is)
    (case a26 => k_is)
    (case l26 => k_is)
    (case c26 => k_is)
    (case k26 => k_is)
    (case a27 => k_is)
    (case l27 => k_is)
    (case c27 => k_is)
    (case k27 => k_is)
    (case a28 => k_is)
    (case l28 => k_is)
    (case c28 => k_is)
    (case k28 => k_is)
    (case a29 => k_is)
    (case l29 => k_is)
    (case c29 => k_is)
    (case k29 => k_is)
    (case a30 => k_is)
    (case l30 => k_is)
    (case c30 => k_is)
    (case k30 => k_is)
    (case a31 => k_is)
    (case l31 => k_is)
    (case c31 => k_is)
    (case k31 => k_is)
    (case a32 => k_is)
    (case l32 => k_is)
    (case c32 => k_is)
    (case k32 => k_is)
    (case a33 => k_is)
    (case l33 => k_is)
    (case c33 => k_is)
    (case k33 => k_is)
    (case a34 => k_is)
    (case l34 => k_is)
    (case c34 => k_is)
    (case k34 => k_is)
    (case a35 => k_is)
    (case l35 => k_is)
    (case c35 => k_is)
    (case k35 => k_is)
    (case a36 => k_is)
    (case l36 => k_is)
    (case c36 => k_is)
    (case k36 => k_is)
    (case a37 => k_is)
    (case l37 => k_is)
    (case c37 => k_is)
    (case k37 => k_is)
    (case a38 => k_is)
    (case l38 => k_is)
    (case c38 => k_is)
    (case k38 => k_is)
    (case z_ValueError => k_is)
    (case z_all => k_is)
    (case z_any => k_is)
    (case z_bool => k_is)
    (case z_dict => k_is)
    (case z_enumerate => k_is)
    (case z_int => k_is)
    (case z_isinstance => k_is)
    (case z_len => k_is)
    (case z_list => k_is)
    (case z_max => k_is)
    (case z_min => k_is)
    (case z_range => k_is)
    (case z_str => k_is)
    (case z_tuple => k_is)
    (case z_zip => k_is)
    (case q_LETTERS => k_is)
    (case q_LONGEST => k_is)
    (case q_WORDS => k_is)
    (case l_WORDS => k_is)
    (case q_DEEPEST => k_is)
    intro T hb
    have e := hmg.symm.trans T.x_law.m
    cases e
    exact ⟨T.x_law.fd, hb, fun base _ _ => My.ok_law T⟩



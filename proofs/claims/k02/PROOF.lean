import PyProof.Rows.All
import Wide.All
import OpenK.AllK
import Wide.FinOn
import HandS.ForMost
import HandS.Wide
import HandS.IsInst
import HandS.Star
import HandS.Style
import PySem.Challenge.RW_leanround_k02_names
set_option Elab.async false
set_option linter.all false
set_option autoImplicit false
set_option maxRecDepth 100000
/-! G: a layer over HandS: values as plain data (PyData), the heap out of sight.
A world: which addresses are frozen data (Fz), which are boxes (B: a list of three ints that calls may change), the abstract heap. -/
namespace G
open PySem L2

def boxD : PyData := .dict [(.none, .none)]
def Bx (H : Hp) (a : Addr) : Prop := ∃ x y z : Int, H a = some (.lst [.int x, .int y, .int z])

structure Wd where
  Fz : Addr → Prop
  B : Addr → Prop
  H : Hp

structure Ok (W : Wd) : Prop where
  fz : ∀ a, W.Fz a → W.H a ≠ none
  bx : ∀ a, W.B a → Bx W.H a
  fb : ∀ a, W.Fz a → ¬ W.B a

/-- grown: all that was is as it was, but for boxes -/
structure Le (W W' : Wd) : Prop where
  ok : Ok W'
  fz : ∀ a, W.Fz a → W'.Fz a
  b : ∀ a, W.B a → W'.B a
  ex : ∀ a o, W.H a = some o → ¬ W.B a → W'.H a = some o
  nf : ∀ a, W'.Fz a → ¬ W.Fz a → W.H a = none
  nb : ∀ a, W'.B a → ¬ W.B a → W.H a = none

theorem Le.refl {W : Wd} (o : Ok W) : Le W W :=
  ⟨o, fun _ h => h, fun _ h => h, fun _ _ h _ => h, fun _ h n => absurd h n, fun _ h n => absurd h n⟩
theorem Le.trans {W W1 W2 : Wd} (a : Le W W1) (b : Le W1 W2) : Le W W2 where
  ok := b.ok
  fz := fun x h => b.fz x (a.fz x h)
  b := fun x h => b.b x (a.b x h)
  ex := fun x o h n => b.ex x o (a.ex x o h n) fun h1 => by
    have := a.nb x h1 n
    rw [h] at this
    cases this
  nf := fun x h n => by
    by_cases h1 : W1.Fz x
    · exact a.nf x h1 n
    · have e := b.nf x h h1
      cases q : W.H x with
      | none => rfl
      | some o =>
        by_cases hb : W.B x
        · obtain ⟨_, _, _, e2⟩ := a.ok.bx x (a.b x hb)
          rw [e] at e2
          cases e2
        · have := a.ex x o q hb
          rw [e] at this
          cases this
  nb := fun x h n => by
    by_cases h1 : W1.B x
    · exact a.nb x h1 n
    · have e := b.nb x h h1
      cases q : W.H x with
      | none => rfl
      | some o =>
        have := a.ex x o q n
        rw [e] at this
        cases this

theorem Le.fresh {W W1 : Wd} (e : Le W W1) {p : Addr} (h2 : W1.H p = none) : W.H p = none := by
  cases q : W.H p with
  | none => rfl
  | some o =>
    by_cases hb : W.B p
    · obtain ⟨_, _, _, e2⟩ := e.ok.bx p (e.b p hb)
      rw [h2] at e2
      cases e2
    · have := e.ex p o q hb
      rw [h2] at this
      cases this
/-- what frozen things and things that never change keep -/
structure Lf (W W' : Wd) : Prop where
  ok : Ok W'
  fz : ∀ a, W.Fz a → W'.Fz a
  b : ∀ a, W.B a → W'.B a
  ex : ∀ a o, W.H a = some o → (W.Fz a ∨ ¬ Mut (some o)) → W'.H a = some o
theorem Lf.refl {W : Wd} (o : Ok W) : Lf W W := ⟨o, fun _ h => h, fun _ h => h, fun _ _ h _ => h⟩
theorem Lf.trans {W W1 W2 : Wd} (a : Lf W W1) (b : Lf W1 W2) : Lf W W2 :=
  ⟨b.ok, fun x h => b.fz x (a.fz x h), fun x h => b.b x (a.b x h), fun x o h m => b.ex x o (a.ex x o h m) (m.imp (a.fz x) id)⟩
theorem Le.lf {W W' : Wd} (o : Ok W) (e : Le W W') : Lf W W' :=
  ⟨e.ok, e.fz, e.b, fun x u h m => e.ex x u h fun hb => by
    rcases m with m | m
    · exact o.fb x m hb
    · obtain ⟨_, _, _, q⟩ := o.bx x hb
      rw [q] at h
      cases h
      exact m trivial⟩

mutual
/-- the value v is the data d -/
inductive Df (K : PySem.W.Frag) (W : Wd) : V → PyData → Prop
  | non : Df K W .non .none
  | bl (b : Bool) : Df K W (.bl b) (.bool b)
  | int (i : Int) : Df K W (.int i) (.int i)
  | str (x : Str) : Df K W (.str x) (.str x)
  | bx {a : Addr} : W.B a → Df K W (.ref a) boxD
  | lst {a : Addr} {xs : List V} {ds : List PyData} : ((Rd W.H a (.lst xs) ∧ W.Fz a) ∨ ∀ H, SqL K H a xs) → Dfs K W xs ds → Df K W (.ref a) (.list ds)
  | tup {a : Addr} {xs : List V} {ds : List PyData} : SqT K W.H a xs → Dfs K W xs ds → Df K W (.ref a) (.tuple ds)
inductive Dfs (K : PySem.W.Frag) (W : Wd) : List V → List PyData → Prop
  | nil : Dfs K W [] []
  | cons {v : V} {vs : List V} {d : PyData} {ds : List PyData} : Df K W v d → Dfs K W vs ds → Dfs K W (v :: vs) (d :: ds)
end

section
variable {K : PySem.W.Frag} {W W' W0 : Wd}
theorem Lf.rdT (e : Lf W W') {a : Addr} {xs : List V} (h : SqT K W.H a xs) : SqT K W'.H a xs := by
  rcases h with (h | ⟨o, h⟩) | h
  · exact .inl (.inl (e.ex _ _ h (.inr fun m => m)))
  · exact .inl (.inr ⟨o, e.ex _ _ h (.inr fun m => m)⟩)
  · exact .inr h
theorem Lf.rdL (e : Lf W W') {a : Addr} {xs : List V} (h : Rd W.H a (.lst xs)) (f : W.Fz a) : Rd W'.H a (.lst xs) := by
  rcases h with h | ⟨o, h⟩
  · exact .inl (e.ex _ _ h (.inl f))
  · exact .inr ⟨o, e.ex _ _ h (.inl f)⟩
mutual
theorem Df.mono (e : Lf W W') : ∀ (d : PyData) (v : V), Df K W v d → Df K W' v d
  | _, _, .non => .non
  | _, _, .bl b => .bl b
  | _, _, .int i => .int i
  | _, _, .str x => .str x
  | _, _, .bx h => .bx (e.b _ h)
  | .list ds, _, .lst h t => .lst (h.imp (fun h => ⟨e.rdL h.1 h.2, e.fz _ h.2⟩) id) (Dfs.mono e ds _ t)
  | .tuple ds, _, .tup h t => .tup (e.rdT h) (Dfs.mono e ds _ t)
theorem Dfs.mono (e : Lf W W') : ∀ (ds : List PyData) (vs : List V), Dfs K W vs ds → Dfs K W' vs ds
  | [], _, .nil => .nil
  | d :: ds, _, .cons h t => .cons (Df.mono e d _ h) (Dfs.mono e ds _ t)
end
theorem Dfs.length : ∀ {vs : List V} {ds : List PyData}, Dfs K W vs ds → vs.length = ds.length
  | _, _, .nil => rfl
  | _, _, .cons _ t => by rw [List.length_cons, List.length_cons, Dfs.length t]
theorem Dfs.get : ∀ {vs : List V} {ds : List PyData} {i : Nat} {d : PyData}, Dfs K W vs ds → ds[i]? = some d → ∃ v, vs[i]? = some v ∧ Df K W v d
  | _, _, _, _, .nil, e => by simp at e
  | _, _, 0, _, .cons h _, e => by
    simp at e
    subst e
    exact ⟨_, rfl, h⟩
  | _, _, i + 1, d, .cons _ t, e => by
    obtain ⟨v, h1, h2⟩ := Dfs.get (i := i) (d := d) t (by simpa using e)
    exact ⟨v, by simpa using h1, h2⟩
theorem Dfs.getV : ∀ {vs : List V} {ds : List PyData} {i : Nat} {v : V}, Dfs K W vs ds → vs[i]? = some v → ∃ d, ds[i]? = some d ∧ Df K W v d
  | _, _, _, _, .nil, e => by simp at e
  | _, _, 0, _, .cons h _, e => by
    simp at e
    subst e
    exact ⟨_, rfl, h⟩
  | _, _, i + 1, d, .cons _ t, e => by
    obtain ⟨v, h1, h2⟩ := Dfs.getV (i := i) (v := d) t (by simpa using e)
    exact ⟨v, by simpa using h1, h2⟩
theorem Dfs.append : ∀ {vs us : List V} {ds es : List PyData}, Dfs K W vs ds → Dfs K W us es → Dfs K W (vs ++ us) (ds ++ es)
  | _, _, _, _, .nil, s => s
  | _, _, _, _, .cons h t, s => .cons h (Dfs.append t s)
theorem Dfs.take : ∀ {vs : List V} {ds : List PyData} (n : Nat), Dfs K W vs ds → Dfs K W (vs.take n) (ds.take n)
  | _, _, 0, _ => by rw [List.take_zero, List.take_zero]; exact .nil
  | _, _, n + 1, .nil => by rw [List.take_nil, List.take_nil]; exact .nil
  | _, _, n + 1, .cons h t => .cons h (Dfs.take n t)
theorem Dfs.drop : ∀ {vs : List V} {ds : List PyData} (n : Nat), Dfs K W vs ds → Dfs K W (vs.drop n) (ds.drop n)
  | _, _, 0, h => h
  | _, _, n + 1, .nil => by rw [List.drop_nil, List.drop_nil]; exact .nil
  | _, _, n + 1, .cons h t => Dfs.drop n t
theorem Dfs.reverse : ∀ {vs : List V} {ds : List PyData}, Dfs K W vs ds → Dfs K W vs.reverse ds.reverse
  | _, _, .nil => .nil
  | _, _, .cons h t => by
    rw [List.reverse_cons, List.reverse_cons]
    exact Dfs.append (Dfs.reverse t) (.cons h .nil)
theorem Dfs.set : ∀ {vs : List V} {ds : List PyData} {v : V} {d : PyData} (n : Nat), Df K W v d → Dfs K W vs ds → Dfs K W (vs.set n v) (ds.set n d)
  | _, _, _, _, _, _, .nil => .nil
  | _, _, _, _, 0, h, .cons _ t => .cons h t
  | _, _, _, _, n + 1, h, .cons g t => .cons g (Dfs.set n h t)
theorem Dfs.dropLast {vs : List V} {ds : List PyData} (h : Dfs K W vs ds) : Dfs K W vs.dropLast ds.dropLast := by
  rw [List.dropLast_eq_take, List.dropLast_eq_take, h.length]
  exact h.take _
theorem dfs_ints : ∀ {vs : List V} {ns : List Int}, Dfs K W vs (ns.map PyData.int) → vs = ns.map V.int
  | _, [], .nil => rfl
  | _, n :: ns, .cons (.int _) t => by rw [dfs_ints t]; rfl
theorem dfs_bools : ∀ {vs : List V} {ns : List Bool}, Dfs K W vs (ns.map PyData.bool) → vs = ns.map V.bl
  | _, [], .nil => rfl
  | _, n :: ns, .cons (.bl _) t => by rw [dfs_bools t]; rfl
theorem dfs_strs : ∀ {vs : List V} {ns : List Str}, Dfs K W vs (ns.map PyData.str) → vs = ns.map V.str
  | _, [], .nil => rfl
  | _, n :: ns, .cons (.str _) t => by rw [dfs_strs t]; rfl
theorem ints_dfs : ∀ {ns : List Int}, Dfs K W (ns.map V.int) (ns.map PyData.int)
  | [] => .nil
  | n :: ns => .cons (.int n) ints_dfs
theorem strs_dfs : ∀ {ns : List Str}, Dfs K W (ns.map V.str) (ns.map PyData.str)
  | [] => .nil
  | n :: ns => .cons (.str n) strs_dfs

-- data that == may be asked of
mutual
theorem Df.dp : ∀ (d : PyData) (v : V), d.canLay0 = true → Df K W v d → Dp K W.H v d
  | _, _, _, .non => .non
  | _, _, _, .bl b => .bl b
  | _, _, _, .int i => .int i
  | _, _, _, .str x => .str x
  | .list ds, _, h, .lst q t => .lst (q.elim (fun q => .inl q.1) fun q => q _) (Dfs.dp ds _ (by simpa [PyData.canLay0] using h) t)
  | .tuple ds, _, h, .tup q t => .tup q (Dfs.dp ds _ (by simpa [PyData.canLay0] using h) t)
  | .dict _, _, h, _ => by simp [PyData.canLay0] at h
theorem Dfs.dp : ∀ (ds : List PyData) (vs : List V), PyData.canLayAll0 ds = true → Dfs K W vs ds → DpAll K W.H vs ds
  | [], _, _, .nil => .nil
  | d :: ds, _, h, .cons q t => by
    have h' : d.canLay0 = true ∧ PyData.canLayAll0 ds = true := by simpa [PyData.canLayAll0] using h
    exact .cons (Df.dp d _ h'.1 q) (Dfs.dp ds _ h'.2 t)
end
end

/-! ### what the slots hold -/
inductive Sl where
  | no
  | d (x : PyData)
  | l (xs : List PyData)
abbrev Gm := List Sl
def SlOk (K : PySem.W.Frag) (W0 W : Wd) : Option V → Sl → Prop
  | _, .no => True
  | some v, .d x => Df K W v x
  | some v, .l xs => ∃ a vs, v = .ref a ∧ W0.H a = none ∧ ¬ W.Fz a ∧ ¬ W.B a ∧ W.H a = some (.lst vs) ∧ Dfs K W vs xs
  | none, _ => False
structure Sat (K : PySem.W.Frag) (W0 W : Wd) (σ : L2.St) (Γ : Gm) : Prop where
  le : Le W0 W
  sl : ∀ (i : Nat) (s : Sl), Γ[i]? = some s → ∃ o, σ[i]? = some o ∧ SlOk K W0 W o s
  sep : ∀ (i j : Nat) (xs ys : List PyData) (a : Addr), i ≠ j → Γ[i]? = some (.l xs) → Γ[j]? = some (.l ys) → σ[i]? = some (some (.ref a)) → σ[j]? = some (some (.ref a)) → False

section
variable {K : PySem.W.Frag} {W0 W W' : Wd} {σ : L2.St} {Γ : Gm}
theorem Sat.ok (S : Sat K W0 W σ Γ) : Ok W := S.le.ok
theorem SlOk.mono {o : Option V} {s : Sl} (ok : Ok W) (e : Le W W') (h : SlOk K W0 W o s) : SlOk K W0 W' o s := by
  cases s with
  | no => cases o <;> trivial
  | d x =>
    cases o with
    | none => exact h
    | some v => exact Df.mono (e.lf ok) _ _ h
  | l xs =>
    cases o with
    | none => exact h
    | some v =>
      obtain ⟨a, vs, h1, h2, h3, h4, h5, h6⟩ := h
      refine ⟨a, vs, h1, h2, fun f => ?_, fun f => ?_, e.ex _ _ h5 h4, Dfs.mono (e.lf ok) _ _ h6⟩
      · have := e.nf a f h3
        rw [h5] at this
        cases this
      · have := e.nb a f h4
        rw [h5] at this
        cases this
theorem Sat.mono (S : Sat K W0 W σ Γ) (e : Le W W') : Sat K W0 W' σ Γ :=
  ⟨S.le.trans e, fun i s h => by
    obtain ⟨o, h1, h2⟩ := S.sl i s h
    exact ⟨o, h1, h2.mono S.ok e⟩, S.sep⟩
theorem Sat.var (S : Sat K W0 W σ Γ) {i : Nat} {x : PyData} (h : Γ[i]? = some (.d x)) : ∃ v, σ[i]? = some (some v) ∧ Df K W v x := by
  obtain ⟨o, h1, h2⟩ := S.sl i _ h
  cases o with
  | none => exact h2.elim
  | some v => exact ⟨v, h1, h2⟩
theorem Sat.varL (S : Sat K W0 W σ Γ) {i : Nat} {xs : List PyData} (h : Γ[i]? = some (.l xs)) :
    ∃ a vs, σ[i]? = some (some (.ref a)) ∧ W0.H a = none ∧ ¬ W.Fz a ∧ ¬ W.B a ∧ W.H a = some (.lst vs) ∧ Dfs K W vs xs := by
  obtain ⟨o, h1, h2⟩ := S.sl i _ h
  cases o with
  | none => exact h2.elim
  | some v =>
    obtain ⟨a, vs, rfl, h⟩ := h2
    exact ⟨a, vs, h1, h⟩

theorem get_set {α : Type} {l : List α} {i j : Nat} {x y : α} (h : (l.set i x)[j]? = some y) : (i = j ∧ i < l.length ∧ y = x) ∨ (i ≠ j ∧ l[j]? = some y) := by
  rw [List.getElem?_set] at h
  split at h
  · rename_i e
    split at h
    · rename_i g
      exact .inl ⟨e, g, (Option.some.inj h).symm⟩
    · cases h
  · rename_i e
    exact .inr ⟨e, h⟩
theorem Sat.len (S : Sat K W0 W σ Γ) {i : Nat} (h : i < Γ.length) : i < σ.length := by
  obtain ⟨o, h1, _⟩ := S.sl i _ (List.getElem?_eq_getElem h)
  exact (List.getElem?_eq_some_iff.mp h1).1
/-- a slot is stored -/
theorem Sat.set (S : Sat K W0 W σ Γ) (i : Nat) {v : V} {s : Sl} (h : SlOk K W0 W (some v) s)
    (hs : ∀ xs, s = .l xs → ∀ j ys a, i ≠ j → Γ[j]? = some (.l ys) → σ[j]? = some (some (.ref a)) → v ≠ .ref a) : Sat K W0 W (σ.set i (some v)) (Γ.set i s) := by
  refine ⟨S.le, fun j t hj => ?_, fun j k xs ys a ne h1 h2 h3 h4 => ?_⟩
  · rcases get_set hj with ⟨e, g, rfl⟩ | ⟨e, g⟩
    · subst e
      exact ⟨some v, by rw [List.getElem?_set, if_pos rfl, if_pos (S.len g)], h⟩
    · obtain ⟨o, h1, h2⟩ := S.sl j t g
      exact ⟨o, by rw [List.getElem?_set, if_neg e]; exact h1, h2⟩
  · rcases get_set h1 with ⟨e, g, rfl⟩ | ⟨e, g⟩
    · subst e
      rcases get_set h2 with ⟨e2, _, _⟩ | ⟨e2, g2⟩
      · exact ne e2
      · rcases get_set h3 with ⟨_, _, e3⟩ | ⟨e3, _⟩
        · rcases get_set h4 with ⟨e4, _, _⟩ | ⟨_, e4⟩
          · exact ne e4
          · exact hs xs rfl k ys a e2 g2 e4 (Option.some.inj e3).symm
        · exact e3 rfl
    · rcases get_set h3 with ⟨e3, _, _⟩ | ⟨_, e3⟩
      · exact e e3
      · rcases get_set h2 with ⟨e2, _, rfl⟩ | ⟨e2, g2⟩
        · subst e2
          rcases get_set h4 with ⟨_, _, e4⟩ | ⟨e4, _⟩
          · exact hs ys rfl j xs a e g e3 (Option.some.inj e4).symm
          · exact e4 rfl
        · rcases get_set h4 with ⟨e4, _, _⟩ | ⟨_, e4⟩
          · exact e2 e4
          · exact S.sep j k xs ys a ne g g2 e3 e4
theorem Sat.setD (S : Sat K W0 W σ Γ) (i : Nat) {v : V} {x : PyData} (h : Df K W v x) : Sat K W0 W (σ.set i (some v)) (Γ.set i (.d x)) :=
  S.set i (show SlOk K W0 W (some v) (.d x) from h) fun xs e => nomatch e
/-- slots may be forgotten -/
theorem Sat.forget (S : Sat K W0 W σ Γ) (i : Nat) : Sat K W0 W σ (Γ.set i .no) := by
  refine ⟨S.le, fun j t hj => ?_, fun j k xs ys a ne h1 h2 h3 h4 => ?_⟩
  · rcases get_set hj with ⟨e, g, rfl⟩ | ⟨e, g⟩
    · subst e
      obtain ⟨o, h1, _⟩ := S.sl i _ (List.getElem?_eq_getElem g)
      exact ⟨o, h1, by cases o <;> trivial⟩
    · exact S.sl j t g
  · rcases get_set h1 with ⟨_, _, e⟩ | ⟨_, g⟩
    · cases e
    · rcases get_set h2 with ⟨_, _, e⟩ | ⟨_, g2⟩
      · cases e
      · exact S.sep j k xs ys a ne g g2 h3 h4
/-- a list of one's own becomes data -/
theorem Sat.freeze (S : Sat K W0 W σ Γ) {i : Nat} {xs : List PyData} (h : Γ[i]? = some (.l xs)) : ∃ W', W'.H = W.H ∧ Lf W W' ∧ Sat K W0 W' σ (Γ.set i (.d (.list xs))) := by
  obtain ⟨a, vs, h1, h2, h3, h4, h5, h6⟩ := S.varL h
  have ok' : Ok ⟨fun b => W.Fz b ∨ b = a, W.B, W.H⟩ := ⟨fun b hb => hb.elim (S.ok.fz b) (fun e => by rw [e, h5]; exact fun z => nomatch z), S.ok.bx, fun b hb => hb.elim (S.ok.fb b) (fun e => by rw [e]; exact h4)⟩
  have lf : Lf W ⟨fun b => W.Fz b ∨ b = a, W.B, W.H⟩ := ⟨ok', fun b hb => .inl hb, fun b hb => hb, fun b o q _ => q⟩
  refine ⟨⟨fun b => W.Fz b ∨ b = a, W.B, W.H⟩, rfl, lf, ⟨⟨ok', fun b hb => .inl (S.le.fz b hb), S.le.b, S.le.ex, fun b hb n => ?_, S.le.nb⟩, fun j t hj => ?_, fun j k ys zs b ne g1 g2 g3 g4 => ?_⟩⟩
  · rcases hb with hb | rfl
    · exact S.le.nf b hb n
    · exact h2
  · rcases get_set hj with ⟨e, g, rfl⟩ | ⟨e, g⟩
    · subst e
      exact ⟨_, h1, .lst (.inl ⟨.inl h5, .inr rfl⟩) (Dfs.mono lf _ _ h6)⟩
    · obtain ⟨o, q1, q2⟩ := S.sl j t g
      refine ⟨o, q1, ?_⟩
      cases t with
      | no => cases o <;> trivial
      | d x =>
        cases o with
        | none => exact q2
        | some v => exact Df.mono lf _ _ q2
      | l ys =>
        cases o with
        | none => exact q2
        | some v =>
          obtain ⟨b, us, rfl, p2, p3, p4, p5, p6⟩ := q2
          refine ⟨b, us, rfl, p2, fun hb => ?_, p4, p5, Dfs.mono lf _ _ p6⟩
          rcases hb with hb | rfl
          · exact p3 hb
          · exact S.sep i j xs ys b e h g h1 q1
  · rcases get_set g1 with ⟨_, _, e⟩ | ⟨_, g1⟩
    · cases e
    · rcases get_set g2 with ⟨_, _, e⟩ | ⟨_, g2⟩
      · cases e
      · exact S.sep j k ys zs b ne g1 g2 g3 g4
end

/-! ### what an expression comes to -/
section
variable (K : PySem.W.Frag) (W0 : Wd)
/-- data that P holds of -/
def wpE (te : TE) (Γ : Gm) (P : PyData → Prop) : Prop := ∀ W σ, Sat K W0 W σ Γ → ∀ Q : VK, (∀ v W' d, Le W W' → Df K W' v d → P d → Q v W'.H) → te σ W.H Q
/-- a list to be read -/
def Lv (W : Wd) (v : V) (ds : List PyData) : Prop := ∃ a vs, v = .ref a ∧ ((Rd W.H a (.lst vs) ∧ ¬ W.B a) ∨ ∀ H, SqL K H a vs) ∧ Dfs K W vs ds
def wpL (te : TE) (Γ : Gm) (P : List PyData → Prop) : Prop := ∀ W σ, Sat K W0 W σ Γ → ∀ Q : VK, (∀ v W' ds, Le W W' → Lv K W' v ds → P ds → Q v W'.H) → te σ W.H Q
/-- a new list -/
def Nw (W W' : Wd) (v : V) (ds : List PyData) : Prop := ∃ p vs, v = .ref p ∧ W.H p = none ∧ ¬ W'.Fz p ∧ ¬ W'.B p ∧ W'.H p = some (.lst vs) ∧ Dfs K W' vs ds
def wpN (te : TE) (Γ : Gm) (P : List PyData → Prop) : Prop := ∀ W σ, Sat K W0 W σ Γ → ∀ Q : VK, (∀ v W' ds, Le W W' → Nw K W W' v ds → P ds → Q v W'.H) → te σ W.H Q
def wpA (t : TA) (Γ : Gm) (P : List PyData → Prop) : Prop := ∀ W σ, Sat K W0 W σ Γ → ∀ Q : List V → Hp → Prop, (∀ vs W' ds, Le W W' → Dfs K W' vs ds → P ds → Q vs W'.H) → t σ W.H Q
def wpT (t : TT) (Γ : Gm) (P : Bool → Prop) : Prop := ∀ W σ, Sat K W0 W σ Γ → ∀ Q : Bool → Hp → Prop, (∀ W' b, Le W W' → P b → Q b W'.H) → t σ W.H Q
/-- operations by values: two places, one, a call's arguments -/
def opR (r : R2) (x y : PyData) (P : PyData → Prop) : Prop := ∀ W v u, Ok W → Df K W v x → Df K W u y → ∀ Q : VK, (∀ z W' d, Le W W' → Df K W' z d → P d → Q z W'.H) → r v u W.H Q
def opU (r : V → Hp → VK → Prop) (x : PyData) (P : PyData → Prop) : Prop := ∀ W v, Ok W → Df K W v x → ∀ Q : VK, (∀ z W' d, Le W W' → Df K W' z d → P d → Q z W'.H) → r v W.H Q
def opC (r : List V → Hp → VK → Prop) (xs : List PyData) (P : PyData → Prop) : Prop := ∀ W vs, Ok W → Dfs K W vs xs → ∀ Q : VK, (∀ z W' d, Le W W' → Df K W' z d → P d → Q z W'.H) → r vs W.H Q
end
section
variable {K : PySem.W.Frag} {W0 W W' W1 : Wd} {σ : L2.St} {Γ : Gm} {te ta tb tc : TE} {t u : TT} {r r' : R2}
theorem Lv.mono {v : V} {ds : List PyData} (ok : Ok W) (e : Le W W') (h : Lv K W v ds) : Lv K W' v ds := by
  obtain ⟨a, vs, rfl, h, q⟩ := h
  refine ⟨a, vs, rfl, h.imp (fun h => ⟨?_, fun hb => ?_⟩) id, Dfs.mono (e.lf ok) _ _ q⟩
  · rcases h.1 with g | ⟨o, g⟩
    · exact .inl (e.ex _ _ g h.2)
    · exact .inr ⟨o, e.ex _ _ g h.2⟩
  · have n := e.nb a hb h.2
    rcases h.1 with g | ⟨o, g⟩ <;> · rw [n] at g; cases g
theorem Lv.sq {v : V} {ds : List PyData} (h : Lv K W v ds) : ∃ a vs, v = .ref a ∧ SqL K W.H a vs ∧ Dfs K W vs ds := by
  obtain ⟨a, vs, rfl, h, q⟩ := h
  exact ⟨a, vs, rfl, h.elim (fun h => .inl h.1) fun h => h _, q⟩
theorem Df.lv {v : V} {ds : List PyData} (ok : Ok W) (h : Df K W v (.list ds)) : Lv K W v ds := by
  cases h with
  | lst h q => exact ⟨_, _, rfl, h.imp (fun h => ⟨h.1, ok.fb _ h.2⟩) id, q⟩
theorem Nw.lv {v : V} {ds : List PyData} (h : Nw K W W' v ds) : Lv K W' v ds := by
  obtain ⟨p, vs, rfl, _, _, h4, h5, h6⟩ := h
  exact ⟨p, vs, rfl, .inl ⟨.inl h5, h4⟩, h6⟩
/-- a new list becomes data -/
theorem Nw.freeze {v : V} {ds : List PyData} (e : Le W W') (h : Nw K W W' v ds) : ∃ W2, W2.H = W'.H ∧ Le W W2 ∧ Df K W2 v (.list ds) := by
  obtain ⟨p, vs, rfl, h2, h3, h4, h5, h6⟩ := h
  have ok' : Ok ⟨fun b => W'.Fz b ∨ b = p, W'.B, W'.H⟩ := ⟨fun b hb => hb.elim (e.ok.fz b) (fun e => by rw [e, h5]; exact fun z => nomatch z), e.ok.bx, fun b hb => hb.elim (e.ok.fb b) (fun e => by rw [e]; exact h4)⟩
  have lf : Lf W' ⟨fun b => W'.Fz b ∨ b = p, W'.B, W'.H⟩ := ⟨ok', fun b hb => .inl hb, fun b hb => hb, fun b o q _ => q⟩
  refine ⟨⟨fun b => W'.Fz b ∨ b = p, W'.B, W'.H⟩, rfl, ⟨ok', fun b hb => .inl (e.fz b hb), e.b, e.ex, fun b hb n => ?_, e.nb⟩, .lst (.inl ⟨.inl h5, .inr rfl⟩) (Dfs.mono lf _ _ h6)⟩
  rcases hb with hb | rfl
  · exact e.nf b hb n
  · exact h2

theorem wpE.imp {P Q : PyData → Prop} (h : wpE K W0 te Γ P) (i : ∀ d, P d → Q d) : wpE K W0 te Γ Q := fun W σ S R k => h W σ S R fun v W' d e f p => k v W' d e f (i d p)
theorem wpN.imp {P Q : List PyData → Prop} (h : wpN K W0 te Γ P) (i : ∀ d, P d → Q d) : wpN K W0 te Γ Q := fun W σ S R k => h W σ S R fun v W' d e f p => k v W' d e f (i d p)
theorem wpE_of_N {P : PyData → Prop} (h : wpN K W0 te Γ fun ds => P (.list ds)) : wpE K W0 te Γ P := fun W σ S Q k => h W σ S Q fun v W' ds e n p => by
  obtain ⟨W2, h1, h2, h3⟩ := n.freeze e
  rw [← h1]
  exact k v W2 _ h2 h3 p
theorem wpL_of_N {P : List PyData → Prop} (h : wpN K W0 te Γ P) : wpL K W0 te Γ P := fun W σ S Q k => h W σ S Q fun v W' ds e n p => k v W' ds e n.lv p
theorem wpL_of_E {P : List PyData → Prop} (h : wpE K W0 te Γ fun d => ∃ ds, d = .list ds ∧ P ds) : wpL K W0 te Γ P := fun W σ S Q k => h W σ S Q fun v W' d e f ⟨ds, h1, p⟩ => by
  subst h1
  exact k v W' ds e (f.lv e.ok) p

/-! names, constants -/
theorem wpE_var {i : Nat} {x : PyData} {P : PyData → Prop} (h : Γ[i]? = some (.d x)) (p : P x) : wpE K W0 (tVar i) Γ P := fun W σ S Q k => by
  obtain ⟨v, h1, h2⟩ := S.var h
  exact ⟨v, h1, k v W x (.refl S.ok) h2 p⟩
theorem wpL_var {i : Nat} {xs : List PyData} {P : List PyData → Prop} (h : Γ[i]? = some (.l xs)) (p : P xs) : wpL K W0 (tVar i) Γ P := fun W σ S Q k => by
  obtain ⟨a, vs, h1, h2, h3, h4, h5, h6⟩ := S.varL h
  exact ⟨_, h1, k _ W xs (.refl S.ok) ⟨a, vs, rfl, .inl ⟨.inl h5, h4⟩, h6⟩ p⟩
theorem wpE_c {v : V} {x : PyData} {P : PyData → Prop} (h : ∀ W, Df K W v x) (p : P x) : wpE K W0 (tC v) Γ P := fun W σ S Q k => k v W x (.refl S.ok) (h W) p
theorem wpE_int {i : Int} {P : PyData → Prop} (p : P (.int i)) : wpE K W0 (tC (.int i)) Γ P := wpE_c (fun _ => .int i) p
theorem wpE_str {i : Str} {P : PyData → Prop} (p : P (.str i)) : wpE K W0 (tC (.str i)) Γ P := wpE_c (fun _ => .str i) p
theorem wpE_bl {i : Bool} {P : PyData → Prop} (p : P (.bool i)) : wpE K W0 (tC (.bl i)) Γ P := wpE_c (fun _ => .bl i) p
theorem wpE_non {P : PyData → Prop} (p : P .none) : wpE K W0 (tC .non) Γ P := wpE_c (fun _ => .non) p

/-- a tuple of texts of the module's own -/
theorem Dfs.of_strs {W : Wd} : ∀ (ss : List Str), Dfs K W (ss.map V.str) (ss.map PyData.str)
  | [] => .nil
  | s :: ss => .cons (.str s) (Dfs.of_strs ss)
theorem wpE_kt {a : Addr} {ss : List Str} {P : PyData → Prop} (h : ∀ H, SqT K H a (ss.map V.str)) (p : P (.tuple (ss.map PyData.str))) : wpE K W0 (tC (.ref a)) Γ P := wpE_c (fun W => .tup (h _) (Dfs.of_strs ss)) p
/-! operations -/
theorem wpE_op {P : PyData → Prop} (h : wpE K W0 ta Γ fun x => wpE K W0 tb Γ fun y => opR K r x y P) : wpE K W0 (tOp r ta tb) Γ P := fun W σ S Q k =>
  h W σ S _ fun v W1 x e1 f1 h1 => h1 W1 σ (S.mono e1) _ fun u W2 y e2 f2 h2 => h2 W2 v u e2.ok (Df.mono (e2.lf e1.ok) _ _ f1) f2 _ fun z W3 d e3 f3 p => k z W3 d ((e1.trans e2).trans e3) f3 p
theorem wpE_un {r : V → Hp → VK → Prop} {P : PyData → Prop} (h : wpE K W0 ta Γ fun x => opU K r x P) : wpE K W0 (tUn r ta) Γ P := fun W σ S Q k =>
  h W σ S _ fun v W1 x e1 f1 h1 => h1 W1 v e1.ok f1 _ fun z W3 d e3 f3 p => k z W3 d (e1.trans e3) f3 p
theorem Df.int_inv {v : V} {i : Int} (h : Df K W v (.int i)) : v = .int i := by cases h; rfl
theorem Df.str_inv {v : V} {i : Str} (h : Df K W v (.str i)) : v = .str i := by cases h; rfl
theorem Df.bool_inv {v : V} {i : Bool} (h : Df K W v (.bool i)) : v = .bl i := by cases h; rfl
theorem Df.none_inv {v : V} (h : Df K W v .none) : v = .non := by cases h; rfl
theorem Df.tup_inv {v : V} {ds : List PyData} (h : Df K W v (.tuple ds)) : ∃ a vs, v = .ref a ∧ SqT K W.H a vs ∧ Dfs K W vs ds := by
  cases h with
  | tup h q => exact ⟨_, _, rfl, h, q⟩
theorem opR_II {C : Int → Int → Prop} {g : Int → Int → Int} {i j : Int} {P : PyData → Prop} (c : C i j) (p : P (.int (g i j))) : opR K (rI C fun i j => .int (g i j)) (.int i) (.int j) P := fun W v u ok f1 f2 Q k => by
  cases f1.int_inv
  cases f2.int_inv
  exact ⟨i, j, rfl, rfl, c, k _ W _ (.refl ok) (.int _) p⟩
theorem opR_I0I {g : Int → Int → Int} {i j : Int} {P : PyData → Prop} (p : P (.int (g i j))) : opR K (rI0 fun i j => .int (g i j)) (.int i) (.int j) P := fun W v u ok f1 f2 Q k => by
  cases f1.int_inv
  cases f2.int_inv
  exact ⟨i, j, rfl, rfl, k _ W _ (.refl ok) (.int _) p⟩
theorem opR_I0B {g : Int → Int → Bool} {i j : Int} {P : PyData → Prop} (p : P (.bool (g i j))) : opR K (rI0 fun i j => .bl (g i j)) (.int i) (.int j) P := fun W v u ok f1 f2 Q k => by
  cases f1.int_inv
  cases f2.int_inv
  exact ⟨i, j, rfl, rfl, k _ W _ (.refl ok) (.bl _) p⟩
theorem opR_eqD {x y : PyData} {P : PyData → Prop} (hx : SeqAt.shaped x = true) (hy : SeqAt.shaped y = true) (p : P (.bool (PyData.eqv x y))) : opR K (rEqD K) x y P := fun W v u ok f1 f2 Q k =>
  ⟨x, y, Df.dp _ _ (SeqAt.canLay_of_shaped hx) f1, Df.dp _ _ (SeqAt.canLay_of_shaped hy) f2, hx, hy, k _ W _ (.refl ok) (.bl _) p⟩
theorem eq_int {i j : Int} {P : PyData → Prop} (p : P (.bool (decide (i = j)))) : opR K (rEqD K) (.int i) (.int j) P := opR_eqD rfl rfl (by
  rw [show PyData.eqv (.int i) (.int j) = decide (i = j) from Bool.beq_eq_decide_eq i j]
  exact p)
theorem ne_int {i j : Int} {P : PyData → Prop} (p : P (.bool (!decide (i = j)))) : opR K (rNeD K) (.int i) (.int j) P := fun W v u ok f1 f2 Q k =>
  ⟨.int i, .int j, Df.dp _ _ rfl f1, Df.dp _ _ rfl f2, rfl, rfl, k _ W _ (.refl ok) (.bl _) (by
    rw [show PyData.eqv (.int i) (.int j) = decide (i = j) from Bool.beq_eq_decide_eq i j]
    exact p)⟩
theorem opU_neg {i : Int} {P : PyData → Prop} (p : P (.int (-i))) : opU K (rU fun i => .int (-i)) (.int i) P := fun W v ok f Q k => by
  cases f.int_inv
  exact ⟨i, rfl, k _ W _ (.refl ok) (.int _) p⟩
theorem opR_neD {x y : PyData} {P : PyData → Prop} (hx : SeqAt.shaped x = true) (hy : SeqAt.shaped y = true) (p : P (.bool (!PyData.eqv x y))) : opR K (rNeD K) x y P := fun W v u ok f1 f2 Q k =>
  ⟨x, y, Df.dp _ _ (SeqAt.canLay_of_shaped hx) f1, Df.dp _ _ (SeqAt.canLay_of_shaped hy) f2, hx, hy, k _ W _ (.refl ok) (.bl _) p⟩

theorem opR_or1 {x y : PyData} {P : PyData → Prop} (h : opR K r x y P) : opR K (fun x y H Q => r x y H Q ∨ r' x y H Q) x y P := fun W v u ok f1 f2 Q k => .inl (h W v u ok f1 f2 Q k)
theorem opR_or2 {x y : PyData} {P : PyData → Prop} (h : opR K r' x y P) : opR K (fun x y H Q => r x y H Q ∨ r' x y H Q) x y P := fun W v u ok f1 f2 Q k => .inr (h W v u ok f1 f2 Q k)
theorem opC_or1 {r r' : List V → Hp → VK → Prop} {x : List PyData} {P : PyData → Prop} (h : opC K r x P) : opC K (fun x H Q => r x H Q ∨ r' x H Q) x P := fun W v ok f1 Q k => .inl (h W v ok f1 Q k)
theorem opC_or2 {r r' : List V → Hp → VK → Prop} {x : List PyData} {P : PyData → Prop} (h : opC K r' x P) : opC K (fun x H Q => r x H Q ∨ r' x H Q) x P := fun W v ok f1 Q k => .inr (h W v ok f1 Q k)
theorem Dfs.all1 {vs : List V} {d : PyData} (h : Dfs K W vs [d]) : ∃ v, vs = [v] ∧ Df K W v d := by
  cases h with
  | cons h t =>
    cases t
    exact ⟨_, rfl, h⟩
theorem Dfs.all2 {vs : List V} {d e : PyData} (h : Dfs K W vs [d, e]) : ∃ v u, vs = [v, u] ∧ Df K W v d ∧ Df K W u e := by
  cases h with
  | cons h t =>
    obtain ⟨u, rfl, q⟩ := t.all1
    exact ⟨_, _, rfl, h, q⟩

/-! arguments, tests -/
theorem wpA_nil {P : List PyData → Prop} (p : P []) : wpA K W0 tNil Γ P := fun W σ S Q k => k [] W [] (.refl S.ok) .nil p
theorem wpA_cons {tr : TA} {P : List PyData → Prop} (h : wpE K W0 ta Γ fun d => wpA K W0 tr Γ fun ds => P (d :: ds)) : wpA K W0 (tCons ta tr) Γ P := fun W σ S Q k =>
  h W σ S _ fun v W1 d e1 f1 h1 => h1 W1 σ (S.mono e1) _ fun vs W2 ds e2 f2 p => k (v :: vs) W2 (d :: ds) (e1.trans e2) (.cons (Df.mono (e2.lf e1.ok) _ _ f1) f2) p
theorem wpT_B {P : Bool → Prop} (h : wpE K W0 te Γ fun d => ∃ b, d = .bool b ∧ P b) : wpT K W0 (tB te) Γ P := fun W σ S Q k => h W σ S _ fun v W1 d e1 f1 ⟨b, hb, p⟩ => by
  subst hb
  cases f1.bool_inv
  exact ⟨b, rfl, k W1 b e1 p⟩
theorem wpT_test {P : Bool → Prop} (h : wpE K W0 te Γ fun d => ∃ b, d = .bool b ∧ P b) : wpT K W0 (tTest te) Γ P := fun W σ S Q k => h W σ S _ fun v W1 d e1 f1 ⟨b, hb, p⟩ => by
  subst hb
  cases f1.bool_inv
  exact ⟨b, rfl, k W1 b e1 p⟩
theorem wpT_not {P : Bool → Prop} (h : wpT K W0 t Γ fun b => P (!b)) : wpT K W0 (tNot t) Γ P := fun W σ S Q k => h W σ S _ fun W1 b e1 p => k W1 (!b) e1 p
theorem wpT_and {P : Bool → Prop} (h : wpT K W0 t Γ fun b => (b = true → wpT K W0 u Γ P) ∧ (b = false → P false)) : wpT K W0 (tAnd t u) Γ P := fun W σ S Q k => h W σ S _ fun W1 b e1 p => by
  cases b with
  | true =>
    show u σ W1.H Q
    exact p.1 rfl W1 σ (S.mono e1) Q fun W2 c e2 q => k W2 c (e1.trans e2) q
  | false => exact k W1 false e1 (p.2 rfl)
theorem wpT_or {P : Bool → Prop} (h : wpT K W0 t Γ fun b => (b = true → P true) ∧ (b = false → wpT K W0 u Γ P)) : wpT K W0 (tOr t u) Γ P := fun W σ S Q k => h W σ S _ fun W1 b e1 p => by
  cases b with
  | false =>
    show u σ W1.H Q
    exact p.2 rfl W1 σ (S.mono e1) Q fun W2 c e2 q => k W2 c (e1.trans e2) q
  | true => exact k W1 true e1 (p.1 rfl)
theorem wpT_imp {P Q : Bool → Prop} (h : wpT K W0 t Γ P) (i : ∀ b, P b → Q b) : wpT K W0 t Γ Q := fun W σ S R k => h W σ S R fun W1 b e p => k W1 b e (i b p)
theorem wpE_andV {P : PyData → Prop} (h : wpE K W0 ta Γ fun d => ∃ b, d = .bool b ∧ (b = true → wpE K W0 tb Γ P) ∧ (b = false → P (.bool false))) : wpE K W0 (tAndV ta tb) Γ P := fun W σ S Q k => h W σ S _ fun v W1 d e1 f1 ⟨b, hb, p⟩ => by
  subst hb
  cases f1.bool_inv
  refine ⟨b, rfl, ?_⟩
  cases b with
  | true =>
    show tb σ W1.H Q
    exact p.1 rfl W1 σ (S.mono e1) Q fun v W2 c e2 f2 q => k v W2 c (e1.trans e2) f2 q
  | false => exact k _ W1 _ e1 (.bl false) (p.2 rfl)
theorem wpE_orV {P : PyData → Prop} (h : wpE K W0 ta Γ fun d => ∃ b, d = .bool b ∧ (b = true → P (.bool true)) ∧ (b = false → wpE K W0 tb Γ P)) : wpE K W0 (tOrV ta tb) Γ P := fun W σ S Q k => h W σ S _ fun v W1 d e1 f1 ⟨b, hb, p⟩ => by
  subst hb
  cases f1.bool_inv
  refine ⟨b, rfl, ?_⟩
  cases b with
  | false =>
    show tb σ W1.H Q
    exact p.2 rfl W1 σ (S.mono e1) Q fun v W2 c e2 f2 q => k v W2 c (e1.trans e2) f2 q
  | true => exact k _ W1 _ e1 (.bl true) (p.1 rfl)
theorem wpE_notV {P : PyData → Prop} (h : wpE K W0 ta Γ fun d => ∃ b, d = .bool b ∧ P (.bool (!b))) : wpE K W0 (tNotV ta) Γ P := fun W σ S Q k => h W σ S _ fun v W1 d e1 f1 ⟨b, hb, p⟩ => by
  subst hb
  cases f1.bool_inv
  exact ⟨b, rfl, k _ W1 _ e1 (.bl _) p⟩
theorem wpE_if {P : PyData → Prop} (h : wpT K W0 t Γ fun b => (b = true → wpE K W0 ta Γ P) ∧ (b = false → wpE K W0 tb Γ P)) : wpE K W0 (tIf t ta tb) Γ P := fun W σ S Q k => h W σ S _ fun W1 b e1 p => by
  cases b with
  | true =>
    show ta σ W1.H Q
    exact p.1 rfl W1 σ (S.mono e1) Q fun v W2 c e2 f2 q => k v W2 c (e1.trans e2) f2 q
  | false =>
    show tb σ W1.H Q
    exact p.2 rfl W1 σ (S.mono e1) Q fun v W2 c e2 f2 q => k v W2 c (e1.trans e2) f2 q
/-- a < b < c -/
theorem wpE_chain {P : PyData → Prop} (h : wpE K W0 ta Γ fun x => wpE K W0 tb Γ fun y => opR K r x y fun d => ∃ b, d = .bool b ∧ (b = true → wpE K W0 tc Γ fun z => opR K r' y z P) ∧ (b = false → P (.bool false))) : wpE K W0 (tChain r r' ta tb tc) Γ P := fun W σ S Q k =>
  h W σ S _ fun v W1 x e1 f1 h1 => h1 W1 σ (S.mono e1) _ fun u W2 y e2 f2 h2 => h2 W2 v u e2.ok (Df.mono (e2.lf e1.ok) _ _ f1) f2 _ fun z W3 d e3 f3 ⟨b, hb, p⟩ => by
    subst hb
    cases f3.bool_inv
    refine ⟨b, rfl, ?_⟩
    cases b with
    | true =>
      show tc σ W3.H _
      exact p.1 rfl W3 σ (S.mono ((e1.trans e2).trans e3)) _ fun w W4 dw e4 f4 h4 => h4 W4 u w e4.ok (Df.mono ((e3.trans e4).lf e2.ok) _ _ f2) f4 Q fun q W5 dq e5 f5 pq => k q W5 dq ((((e1.trans e2).trans e3).trans e4).trans e5) f5 pq
    | false => exact k _ W3 _ ((e1.trans e2).trans e3) (.bl false) (p.2 rfl)

/-! new objects -/
theorem Ok.new (o : Ok W) {p : Addr} {u : HO} (h : W.H p = none) : Le W ⟨W.Fz, W.B, upd W.H p u⟩ := by
  have ne : ∀ a x, W.H a = some x → a ≠ p := fun a x e => ne_of_none e h
  have ok' : Ok ⟨W.Fz, W.B, upd W.H p u⟩ := ⟨fun a f => by
      show upd W.H p u a ≠ none
      by_cases e : a = p
      · subst e; rw [upd_same]; exact fun z => nomatch z
      · rw [upd_ne e]; exact o.fz a f, fun a b => by
      obtain ⟨x, y, z, e⟩ := o.bx a b
      exact ⟨x, y, z, by show upd W.H p u a = _; rw [upd_ne (ne a _ e)]; exact e⟩, o.fb⟩
  exact ⟨ok', fun _ h => h, fun _ h => h, fun a x e _ => by show upd W.H p u a = _; rw [upd_ne (ne a _ e)]; exact e, fun _ h n => absurd h n, fun _ h n => absurd h n⟩
theorem Ok.newL (o : Ok W) {p : Addr} {vs : List V} {ds : List PyData} (h : W.H p = none) (f : Dfs K W vs ds) : Le W ⟨W.Fz, W.B, upd W.H p (.lst vs)⟩ ∧ Nw K W ⟨W.Fz, W.B, upd W.H p (.lst vs)⟩ (.ref p) ds :=
  ⟨o.new h, p, vs, rfl, h, fun z => o.fz p z h, fun z => (by obtain ⟨_, _, _, e⟩ := o.bx p z; rw [h] at e; cases e), upd_same, Dfs.mono ((o.new h).lf o) _ _ f⟩
theorem Ok.newT (o : Ok W) {p : Addr} {vs : List V} {ds : List PyData} (h : W.H p = none) (f : Dfs K W vs ds) : Le W ⟨W.Fz, W.B, upd W.H p (.tup vs)⟩ ∧ Df K ⟨W.Fz, W.B, upd W.H p (.tup vs)⟩ (.ref p) (.tuple ds) :=
  ⟨o.new h, .tup (.inl (.inl upd_same)) (Dfs.mono ((o.new h).lf o) _ _ f)⟩
theorem Nw.up {v : V} {ds : List PyData} (ok : Ok W) (e : Le W W1) (h : Nw K W1 W' v ds) : Nw K W W' v ds := by
  obtain ⟨p, vs, rfl, h2, h⟩ := h
  exact ⟨p, vs, rfl, e.fresh h2, h⟩
theorem wpE_tup {t : TA} {P : PyData → Prop} (h : wpA K W0 t Γ fun ds => ds.length ≤ sizeLine ∧ P (.tuple ds)) : wpE K W0 (tTup t) Γ P := fun W σ S Q k => h W σ S _ fun vs W1 ds e1 f1 ⟨hz, p⟩ =>
  ⟨by rw [f1.length]; exact hz, fun q hq => by
    obtain ⟨e, f⟩ := e1.ok.newT hq f1
    exact k _ _ _ (e1.trans e) f p⟩
theorem wpN_lst {t : TA} {P : List PyData → Prop} (h : wpA K W0 t Γ fun ds => ds.length ≤ sizeLine ∧ P ds) : wpN K W0 (tLst t) Γ P := fun W σ S Q k => h W σ S _ fun vs W1 ds e1 f1 ⟨hz, p⟩ =>
  ⟨by rw [f1.length]; exact hz, fun q hq => by
    obtain ⟨e, f⟩ := e1.ok.newL hq f1
    exact k _ _ _ (e1.trans e) (f.up S.ok e1) p⟩

/-! what lists tell -/
/-- an operation on a list (read) and data -/
def opLR (K : PySem.W.Frag) (r : R2) (ds : List PyData) (y : PyData) (P : PyData → Prop) : Prop := ∀ W v u, Ok W → Lv K W v ds → Df K W u y → ∀ Q : VK, (∀ z W' d, Le W W' → Df K W' z d → P d → Q z W'.H) → r v u W.H Q
theorem wpE_opL {P : PyData → Prop} (h : wpL K W0 ta Γ fun x => wpE K W0 tb Γ fun y => opLR K r x y P) : wpE K W0 (tOp r ta tb) Γ P := fun W σ S Q k =>
  h W σ S _ fun v W1 x e1 f1 h1 => h1 W1 σ (S.mono e1) _ fun u W2 y e2 f2 h2 => h2 W2 v u e2.ok (f1.mono e1.ok e2) f2 _ fun z W3 d e3 f3 p => k z W3 d ((e1.trans e2).trans e3) f3 p
theorem Dfs.at {vs : List V} {ds : List PyData} {i : Int} {d : PyData} (h : Dfs K W vs ds) (e : atI ds i = some d) : ∃ v, atI vs i = some v ∧ Df K W v d := by
  unfold atI at e ⊢
  rw [h.length]
  cases q : ixN ds.length i with
  | none => rw [q] at e; cases e
  | some j =>
    rw [q] at e
    obtain ⟨v, h1, h2⟩ := h.get e
    exact ⟨v, h1, h2⟩
theorem opLR_ix {ds : List PyData} {i : Int} {d : PyData} {P : PyData → Prop} (e : atI ds i = some d) (p : P d) : opLR K (rIx K) ds (.int i) P := fun W v u ok f1 f2 Q k => by
  cases f2.int_inv
  obtain ⟨a, vs, rfl, q, f⟩ := f1.sq
  obtain ⟨x, h1, h2⟩ := f.at e
  exact .inl ⟨a, vs, i, x, rfl, rfl, q, h1, k x W d (.refl ok) h2 p⟩
theorem opR_ixT {ds : List PyData} {i : Int} {d : PyData} {P : PyData → Prop} (e : atI ds i = some d) (p : P d) : opR K (rIx K) (.tuple ds) (.int i) P := fun W v u ok f1 f2 Q k => by
  cases f2.int_inv
  obtain ⟨a, vs, rfl, q, f⟩ := f1.tup_inv
  obtain ⟨x, h1, h2⟩ := f.at e
  exact .inr (.inl ⟨a, vs, i, x, rfl, rfl, q, h1, k x W d (.refl ok) h2 p⟩)
theorem opR_ixS {z : Str} {i : Int} {c : Nat} {P : PyData → Prop} (hz : z.length ≤ sizeLine) (e : atI z.cps.toList i = some c) (p : P (.str ⟨#[c]⟩)) : opR K (rIx K) (.str z) (.int i) P := fun W v u ok f1 f2 Q k => by
  cases f1.str_inv
  cases f2.int_inv
  exact .inr (.inr ⟨z, i, c, rfl, rfl, hz, e, k _ W _ (.refl ok) (.str _) p⟩)
theorem opR_ixL {ds : List PyData} {i : Int} {d : PyData} {P : PyData → Prop} (e : atI ds i = some d) (p : P d) : opR K (rIx K) (.list ds) (.int i) P := fun W v u ok f1 f2 Q k =>
  opLR_ix e p W v u ok (f1.lv ok) f2 Q k
/-- len(x) -/
abbrev rLen (K : PySem.W.Frag) : List V → Hp → VK → Prop := fun xs H Q => ∃ x n, xs = [x] ∧ LenV K x H n ∧ Q (.int n) H
theorem wpE_CB {r : List V → Hp → VK → Prop} {t : TA} {P : PyData → Prop} (h : wpA K W0 t Γ fun ds => opC K r ds P) : wpE K W0 (tCB r t) Γ P := fun W σ S Q k =>
  h W σ S _ fun vs W1 ds e1 f1 h1 => h1 W1 vs e1.ok f1 _ fun z W2 d e2 f2 p => k z W2 d (e1.trans e2) f2 p
theorem opC_lenS {z : Str} {P : PyData → Prop} (hz : z.length ≤ sizeLine) (p : P (.int z.length)) : opC K (rLen K) [.str z] P := fun W vs ok f Q k => by
  obtain ⟨v, rfl, f1⟩ := f.all1
  cases f1.str_inv
  exact ⟨_, z.length, rfl, ⟨hz, rfl⟩, k _ W _ (.refl ok) (.int _) p⟩
theorem opC_lenT {ds : List PyData} {P : PyData → Prop} (p : P (.int ds.length)) : opC K (rLen K) [.tuple ds] P := fun W vs ok f Q k => by
  obtain ⟨v, rfl, f1⟩ := f.all1
  obtain ⟨a, vs, rfl, q, f⟩ := f1.tup_inv
  exact ⟨_, ds.length, rfl, .inr ⟨vs, q, f.length.symm⟩, k _ W _ (.refl ok) (.int _) p⟩
theorem opC_lenL {ds : List PyData} {P : PyData → Prop} (p : P (.int ds.length)) : opC K (rLen K) [.list ds] P := fun W vs ok f Q k => by
  obtain ⟨v, rfl, f1⟩ := f.all1
  obtain ⟨a, vs, rfl, q, f⟩ := (f1.lv ok).sq
  exact ⟨_, ds.length, rfl, .inl ⟨vs, q, f.length.symm⟩, k _ W _ (.refl ok) (.int _) p⟩
theorem wpE_lenL {P : PyData → Prop} (h : wpL K W0 te Γ fun ds => P (.int ds.length)) : wpE K W0 (tCB (rLen K) (tCons te tNil)) Γ P := fun W σ S Q k => h W σ S _ fun v W1 ds e1 f1 p => by
  obtain ⟨a, vs, rfl, q, f⟩ := f1.sq
  exact ⟨_, ds.length, rfl, .inl ⟨vs, q, f.length.symm⟩, k _ W1 _ e1 (.int _) p⟩
/-- x in xs -/
def rIN (K : PySem.W.Frag) : R2 := fun x y H Q => (∃ (c : Nat) (z : Str), x = .str ⟨#[c]⟩ ∧ y = .str z ∧ Q (.bl (decide (c ∈ z.cps.toList))) H) ∨ rIn K false x y H Q
def rNIN (K : PySem.W.Frag) : R2 := fun x y H Q => (∃ (c : Nat) (z : Str), x = .str ⟨#[c]⟩ ∧ y = .str z ∧ Q (.bl (!decide (c ∈ z.cps.toList))) H) ∨ rIn K true x y H Q
theorem op_IN {X : Cx} : OpR X (compareOp .In) (rIN X.K) := OpR.or op_in_sign op_in_seq
theorem op_NIN {X : Cx} : OpR X (compareOp .NotIn) (rNIN X.K) := OpR.or op_notIn_sign op_notIn_seq
theorem opR_inS {c : Nat} {z : Str} {P : PyData → Prop} (p : P (.bool (decide (c ∈ z.cps.toList)))) : opR K (rIN K) (.str ⟨#[c]⟩) (.str z) P := fun W v u ok f1 f2 Q k => by
  cases f1.str_inv
  cases f2.str_inv
  exact .inl ⟨c, z, rfl, rfl, k _ W _ (.refl ok) (.bl _) p⟩
theorem opR_ninS {c : Nat} {z : Str} {P : PyData → Prop} (p : P (.bool (!decide (c ∈ z.cps.toList)))) : opR K (rNIN K) (.str ⟨#[c]⟩) (.str z) P := fun W v u ok f1 f2 Q k => by
  cases f1.str_inv
  cases f2.str_inv
  exact .inl ⟨c, z, rfl, rfl, k _ W _ (.refl ok) (.bl _) p⟩
theorem inV_strs (x : Str) : ∀ xs : List Str, inV (.str x) (xs.map V.str) = decide (x ∈ xs)
  | [] => rfl
  | y :: ys => by
    have ih := inV_strs x ys
    unfold inV at ih ⊢
    rw [List.map_cons, List.any_cons, ih]
    have e : eqV (V.str y) (V.str x) = decide (y = x) := rfl
    rw [e]
    by_cases h : x = y
    · subst h; simp
    · have h' : ¬ y = x := fun z => h z.symm
      simp [h, h']
theorem flat_strs (xs : List Str) : (xs.map V.str).all flatV = true := by simp [flatV]
theorem opR_inT {x : Str} {xs : List Str} {P : PyData → Prop} (p : P (.bool (decide (x ∈ xs)))) : opR K (rIN K) (.str x) (.tuple (xs.map PyData.str)) P := fun W v u ok f1 f2 Q k => by
  cases f1.str_inv
  obtain ⟨a, vs, rfl, q, f⟩ := f2.tup_inv
  have e := dfs_strs f
  subst e
  refine .inr ⟨a, _, rfl, .inr q, rfl, flat_strs xs, ?_⟩
  have e : (if false = true then !inV (V.str x) (xs.map V.str) else inV (V.str x) (xs.map V.str)) = decide (x ∈ xs) := inV_strs x xs
  rw [e]
  exact k _ W _ (.refl ok) (.bl _) p

/-! texts, lists put together -/
def rADD : R2 := fun x y H Q => rI0 (fun i j => .int (i + j)) x y H Q ∨ (∃ i j, x = .str i ∧ y = .str j ∧ i.length + j.length ≤ sizeLine ∧ Q (.str (i ++ j)) H) ∨ rCat x y H Q
theorem op_ADD {X : Cx} : OpR X (binaryOp .Add) rADD := OpR.or op_add (OpR.or op_add_str op_cat)
theorem add_int {i j : Int} {P : PyData → Prop} (p : P (.int (i + j))) : opR K (rADD) (.int i) (.int j) P := fun W v u ok f1 f2 Q k => .inl (opR_I0I p W v u ok f1 f2 Q k)
theorem add_str {i j : Str} {P : PyData → Prop} (hz : i.length + j.length ≤ sizeLine) (p : P (.str (i ++ j))) : opR K (rADD) (.str i) (.str j) P := fun W v u ok f1 f2 Q k => by
  cases f1.str_inv
  cases f2.str_inv
  exact .inr (.inl ⟨i, j, rfl, rfl, hz, k _ W _ (.refl ok) (.str _) p⟩)
def rMUL : R2 := fun x y H Q => rI CMul (fun i j => .int (i * j)) x y H Q ∨ rI CMulW (fun i j => .int (i * j)) x y H Q ∨ (∃ z k, x = .str z ∧ y = .int k ∧ 2 ≤ k ∧ k ≤ 1000 ∧ z.length ≤ 1000 ∧ ∀ u : Str, u.length = z.length * k.toNat → (∀ c ∈ u.cps.toList, c ∈ z.cps.toList) → Q (.str u) H)
theorem fold_size (x : Array Nat) : ∀ (n : Nat) (a : Array Nat), ((List.replicate n x).foldl (· ++ ·) a).size = a.size + x.size * n
  | 0, a => by simp
  | n + 1, a => by
    rw [List.replicate_succ, List.foldl_cons, fold_size x n, Array.size_append, Nat.mul_succ]
    omega
theorem fold_mem (x : Array Nat) (c : Nat) : ∀ (n : Nat) (a : Array Nat), c ∈ ((List.replicate n x).foldl (· ++ ·) a).toList → c ∈ x.toList ∨ c ∈ a.toList
  | 0, a, h => .inr h
  | n + 1, a, h => by
    rw [List.replicate_succ, List.foldl_cons] at h
    rcases fold_mem x c n _ h with h | h
    · exact .inl h
    · rw [Array.toList_append] at h
      rcases List.mem_append.mp h with h | h
      · exact .inr h
      · exact .inl h
theorem op_mul_sl {X : Cx} : OpR X (binaryOp .Mult) (fun x y H Q => ∃ z k, x = .str z ∧ y = .int k ∧ 2 ≤ k ∧ k ≤ 1000 ∧ z.length ≤ 1000 ∧ ∀ u : Str, u.length = z.length * k.toNat → (∀ c ∈ u.cps.toList, c ∈ z.cps.toList) → Q (.str u) H) := by
  intro pins s σ H x y v u Q I rx ry h
  obtain ⟨z, k, rfl, rfl, h1, h2, h3, q⟩ := h
  obtain ⟨t, rfl⟩ := rx
  obtain ⟨t', rfl⟩ := ry
  have hs : sizeLine = 16777216 := sizeLine_eq
  have hm : z.length * k.toNat ≤ 1000 * 1000 := Nat.mul_le_mul h3 (by omega)
  have tl : Builtin.Str.tooLong (z.length * k.toNat) = false := by
    unfold Builtin.Str.tooLong
    exact decide_eq_false (by omega)
  refine PySem.P.mul_str ?_ (fun _ _ => ?_) (fun _ _ => tl) ?_
  · have a1 : ¬ k < -(2 ^ 63 : Int) := by omega
    have a2 : ¬ k ≥ (2 ^ 63 : Int) := by omega
    rw [decide_eq_false a1, decide_eq_false a2]
    rfl
  · have hk : (0 : Int) < k := by omega
    intro hgt
    have h5 : (1000 : Int) ≤ (2 ^ 63 - 1) / k := by
      rw [Int.le_ediv_iff_mul_le hk]
      omega
    omega
  · rw [if_neg (by omega : ¬ k < 1)]
    have hk1 : (k == 1) = false := by
      rw [beq_eq_false_iff_ne]
      omega
    rw [hk1, Bool.false_or]
    by_cases hz : (z.length == 0) = true
    · rw [if_pos hz]
      refine ⟨.str z, H, I, ⟨t, rfl⟩, q z ?_ fun c h => h⟩
      rw [beq_iff_eq] at hz
      rw [hz, Nat.zero_mul]
    · rw [if_neg hz]
      have e : (⟨(List.replicate k.toNat z.cps).foldl (· ++ ·) #[]⟩ : Str).length = z.length * k.toNat := by
        show ((List.replicate k.toNat z.cps).foldl (· ++ ·) #[]).size = z.cps.size * k.toNat
        rw [fold_size]
        simp
      refine ⟨?_, ⟨.str _, H, I.tok _, ⟨_, rfl⟩, q _ e fun c h => (fold_mem z.cps c k.toNat #[] h).resolve_right (by simp)⟩⟩
      rw [e]
      omega
theorem op_MUL {X : Cx} : OpR X (binaryOp .Mult) rMUL := OpR.or op_mul (OpR.or op_mulW op_mul_sl)
theorem mul_int {i j : Int} {P : PyData → Prop} (c : CMul i j) (p : P (.int (i * j))) : opR K rMUL (.int i) (.int j) P := fun W v u ok f1 f2 Q k => .inl (opR_II c p W v u ok f1 f2 Q k)
theorem mul_str {z : Str} {k : Int} {P : PyData → Prop} (h1 : 2 ≤ k) (h2 : k ≤ 1000) (h3 : z.length ≤ 1000) (p : ∀ u : Str, u.length = z.length * k.toNat → (∀ c ∈ u.cps.toList, c ∈ z.cps.toList) → P (.str u)) : opR K rMUL (.str z) (.int k) P := fun W v u ok f1 f2 Q q => by
  cases f1.str_inv
  cases f2.int_inv
  exact .inr (.inr ⟨z, k, rfl, rfl, h1, h2, h3, fun w hw hc => q _ W _ (.refl ok) (.str _) (p w hw hc)⟩)
/-- on two lists that are read -/
theorem wpN_addL {P : List PyData → Prop} (h : wpN K W0 ta Γ fun xs => wpN K W0 tb Γ fun ys => xs.length + ys.length ≤ sizeLine ∧ P (xs ++ ys)) : wpN K W0 (tOp (rADD) ta tb) Γ P := fun W σ S Q k =>
  h W σ S _ fun v W1 xs e1 n1 h1 => h1 W1 σ (S.mono e1) _ fun u W2 ys e2 n2 ⟨hz, p⟩ => by
    obtain ⟨a, vs, rfl, a2, a3, a4, a5, a6⟩ := n1
    obtain ⟨b, us, rfl, b2, b3, b4, b5, b6⟩ := n2
    have f1 := Dfs.mono (e2.lf e1.ok) _ _ a6
    refine .inr (.inr ⟨a, b, vs, us, rfl, rfl, e2.ex _ _ a5 a4, b5, by rw [f1.length, b6.length]; exact hz, fun p' hp => ?_⟩)
    obtain ⟨e, f⟩ := e2.ok.newL hp (f1.append b6)
    exact k _ _ _ ((e1.trans e2).trans e) (f.up S.ok (e1.trans e2)) p
/-- an own list's items, written anew (xs + ys reads them) -/
theorem wpN_addVL {i : Nat} {xs : List PyData} {P : List PyData → Prop} (hx : Γ[i]? = some (.l xs)) (h : wpN K W0 tb Γ fun ys => xs.length + ys.length ≤ sizeLine ∧ P (xs ++ ys)) : wpN K W0 (tOp (rADD) (tVar i) tb) Γ P := fun W σ S Q k => by
  obtain ⟨a, vs, h1, h2, h3, h4, h5, h6⟩ := S.varL hx
  refine ⟨_, h1, h W σ S _ fun u W2 ys e2 n2 ⟨hz, p⟩ => ?_⟩
  obtain ⟨b, us, rfl, b2, b3, b4, b5, b6⟩ := n2
  have f1 := Dfs.mono (e2.lf S.ok) _ _ h6
  refine .inr (.inr ⟨a, b, vs, us, rfl, rfl, e2.ex _ _ h5 h4, b5, by rw [f1.length, b6.length]; exact hz, fun p' hp => ?_⟩)
  obtain ⟨e, f⟩ := e2.ok.newL hp (f1.append b6)
  exact k _ _ _ (e2.trans e) (f.up S.ok e2) p

/-! slices -/
def rSL (K : PySem.W.Frag) : V → Option Int → Option Int → Hp → VK → Prop := fun x lo hi H Q => rSlS x lo hi H Q ∨ rSlT K x lo hi H Q ∨ rSlL K x lo hi H Q
theorem sl_SL {X : Cx} : SlR X (rSL X.K) := SlR.or sl_str (SlR.or sl_tup sl_list)
def wpO (K : PySem.W.Frag) (W0 : Wd) (t : TO) (Γ : Gm) (P : Option Int → Prop) : Prop := ∀ W σ, Sat K W0 W σ Γ → ∀ Q : Option Int → Hp → Prop, (∀ W' o, Le W W' → P o → Q o W'.H) → t σ W.H Q
theorem wpO_no {P : Option Int → Prop} (p : P none) : wpO K W0 tNoPart Γ P := fun W σ S Q k => k W none (.refl S.ok) p
theorem wpO_some {P : Option Int → Prop} (h : wpE K W0 te Γ fun d => ∃ i, d = .int i ∧ P (some i)) : wpO K W0 (tPart te) Γ P := fun W σ S Q k => h W σ S _ fun v W1 d e1 f1 ⟨i, hi, p⟩ => by
  subst hi
  cases f1.int_inv
  exact ⟨i, rfl, k W1 _ e1 p⟩
theorem wpE_slS {tl th : TO} {P : PyData → Prop} (h : wpE K W0 te Γ fun d => ∃ z, d = .str z ∧ z.length ≤ sizeLine ∧ wpO K W0 tl Γ fun lo => wpO K W0 th Γ fun hi => P (.str (cutS z lo hi))) : wpE K W0 (tSl (rSL K) te tl th) Γ P := fun W σ S Q k =>
  h W σ S _ fun v W1 d e1 f1 ⟨z, hd, hz, h1⟩ => h1 W1 σ (S.mono e1) _ fun W2 lo e2 h2 => h2 W2 σ (S.mono (e1.trans e2)) _ fun W3 hi e3 p => by
    subst hd
    cases f1.str_inv
    exact .inl ⟨z, rfl, hz, k _ W3 _ ((e1.trans e2).trans e3) (.str _) p⟩
theorem cutS_le (z : Str) (lo hi : Option Int) : (cutS z lo hi).length ≤ z.length := by
  unfold cutS
  show (List.toArray _).size ≤ z.cps.size
  rw [List.size_toArray, List.length_take, List.length_drop, Array.length_toList]
  omega
/-- a text of at most n signs, all of them code points -/
def Tx (n : Nat) (x : Str) : Prop := x.length ≤ n ∧ ∀ c ∈ x.cps.toList, c < 1114112
theorem Tx.le {n m : Nat} {x : Str} (h : Tx n x) (e : n ≤ m) : Tx m x := ⟨Nat.le_trans h.1 e, h.2⟩
theorem Tx.app {n m : Nat} {x y : Str} (h : Tx n x) (g : Tx m y) : Tx (n + m) (x ++ y) :=
  ⟨by rw [Str.length_append]; exact Nat.add_le_add h.1 g.1, fun c hc => by
    have hc' : c ∈ (x.cps ++ y.cps).toList := hc
    rw [Array.toList_append] at hc'
    exact (List.mem_append.mp hc').elim (h.2 c) (g.2 c)⟩
theorem Tx.cut {n : Nat} {x : Str} (h : Tx n x) (lo hi : Option Int) : Tx n (cutS x lo hi) :=
  ⟨Nat.le_trans (cutS_le x lo hi) h.1, fun c hc => h.2 c (by
    unfold cutS at hc
    exact List.mem_of_mem_drop (List.mem_of_mem_take (by simpa using hc)))⟩
theorem Tx.one {c : Nat} (h : c < 1114112) : Tx 1 ⟨#[c]⟩ := ⟨Nat.le_refl 1, fun d hd => by
  have : d = c := by simpa using hd
  omega⟩
def txB (n : Nat) (x : Str) : Bool := decide (x.length ≤ n) && x.cps.toList.all fun c => decide (c < 1114112)
theorem Tx.of {n : Nat} {x : Str} (h : txB n x = true) : Tx n x := by
  unfold txB at h
  rw [Bool.and_eq_true] at h
  exact ⟨of_decide_eq_true h.1, fun c hc => of_decide_eq_true (List.all_eq_true.mp h.2 c hc)⟩
theorem Tx.ok {n : Nat} {x : Str} (h : Tx n x) : (PyData.str x).canLay0 = true := by
  unfold PyData.canLay0 PyData.strOk
  rw [← Array.all_toList, List.all_eq_true]
  intro c hc
  exact decide_eq_true (h.2 c hc)
/-- a slice of a text, of which alone is told that it is one of at most so many signs -/
theorem wpE_slA {tl th : TO} {P : PyData → Prop} (h : wpE K W0 te Γ fun d => ∃ z, d = .str z ∧ ∃ n, (Tx n z ∧ n ≤ 1000000) ∧ wpO K W0 tl Γ fun _ => wpO K W0 th Γ fun _ => ∀ u : Str, Tx n u → P (.str u)) : wpE K W0 (tSl (rSL K) te tl th) Γ P :=
  wpE_slS (h.imp fun d ⟨z, hd, n, ⟨hz, hn⟩, h1⟩ => ⟨z, hd, (by have := hz.1; have hs : sizeLine = 16777216 := sizeLine_eq; omega), fun W σ S Q k => h1 W σ S Q fun W' lo e h2 => k W' lo e fun W σ S Q k => h2 W σ S Q fun W' hi e p => k W' hi e (p _ (hz.cut lo hi))⟩)
def cutD (xs : List PyData) (lo hi : Option Int) : List PyData := (xs.drop (HT.sIx xs.length 0 lo)).take (HT.sIx xs.length xs.length hi - HT.sIx xs.length 0 lo)
theorem Dfs.cut {vs : List V} {ds : List PyData} (h : Dfs K W vs ds) (lo hi : Option Int) : Dfs K W (cutV vs lo hi) (cutD ds lo hi) := by
  unfold cutV cutD
  rw [h.length]
  exact (h.drop _).take _
theorem wpN_slL {tl th : TO} {P : List PyData → Prop} (h : wpL K W0 te Γ fun ds => wpO K W0 tl Γ fun lo => wpO K W0 th Γ fun hi => P (cutD ds lo hi)) : wpN K W0 (tSl (rSL K) te tl th) Γ P := fun W σ S Q k =>
  h W σ S _ fun v W1 ds e1 f1 h1 => h1 W1 σ (S.mono e1) _ fun W2 lo e2 h2 => h2 W2 σ (S.mono (e1.trans e2)) _ fun W3 hi e3 p => by
    obtain ⟨a, vs, rfl, q, f⟩ := (f1.mono e1.ok (e2.trans e3)).sq
    refine .inr (.inr ⟨a, vs, rfl, q, fun r hr => ?_⟩)
    obtain ⟨e, g⟩ := e3.ok.newL hr (f.cut lo hi)
    exact k _ _ _ (((e1.trans e2).trans e3).trans e) (g.up S.ok ((e1.trans e2).trans e3)) p

/-! sep.join(xs) -/
abbrev rJoin (K : PySem.W.Frag) : V → List V → Hp → VK → Prop := fun x xs H Q => ∃ a p, ∃ ys : List Str, x = .str a ∧ xs = [.ref p] ∧ (SqL K H p (ys.map V.str) ∨ SqT K H p (ys.map V.str)) ∧ (ys.map (·.length)).sum + ys.length * a.length ≤ 16777216 ∧ Q (.str (Txt.join a ys)) H
theorem wpE_join {P : PyData → Prop} (h : wpE K W0 ta Γ fun d => ∃ a, d = .str a ∧ wpL K W0 te Γ fun ds => ∃ ys : List Str, ds = ys.map PyData.str ∧ (ys.map (·.length)).sum + ys.length * a.length ≤ 16777216 ∧ P (.str (Txt.join a ys))) : wpE K W0 (tM1 (rJoin K) ta te) Γ P := fun W σ S Q k =>
  h W σ S _ fun v W1 d e1 f1 ⟨a, hd, h1⟩ => by
    subst hd
    cases f1.str_inv
    refine ⟨⟨a, rfl⟩, h1 W1 σ (S.mono e1) _ fun u W2 ds e2 l2 ⟨ys, hy, hz, p⟩ => ?_⟩
    subst hy
    obtain ⟨b, vs, rfl, q, f⟩ := l2.sq
    have e := dfs_strs f
    subst e
    exact ⟨a, b, ys, rfl, rfl, .inl q, hz, k _ W2 _ (e1.trans e2) (.str _) p⟩

/-! all, any of a list of truths; max, min of two; int -/
theorem wpE_all {P : PyData → Prop} (h : wpL K W0 te Γ fun ds => ∃ bs : List Bool, ds = bs.map PyData.bool ∧ P (.bool (bs.all id))) : wpE K W0 (tCB (rAll K) (tCons te tNil)) Γ P := fun W σ S Q k => h W σ S _ fun v W1 ds e1 l1 ⟨bs, hb, p⟩ => by
  subst hb
  obtain ⟨a, vs, rfl, q, f⟩ := l1.sq
  have e := dfs_bools f
  subst e
  exact ⟨a, bs, rfl, q, k _ W1 _ e1 (.bl _) p⟩
theorem wpE_any {P : PyData → Prop} (h : wpL K W0 te Γ fun ds => ∃ bs : List Bool, ds = bs.map PyData.bool ∧ P (.bool (bs.any id))) : wpE K W0 (tCB (rAny K) (tCons te tNil)) Γ P := fun W σ S Q k => h W σ S _ fun v W1 ds e1 l1 ⟨bs, hb, p⟩ => by
  subst hb
  obtain ⟨a, vs, rfl, q, f⟩ := l1.sq
  have e := dfs_bools f
  subst e
  exact ⟨a, bs, rfl, q, k _ W1 _ e1 (.bl _) p⟩
theorem opC_II {g : Int → Int → Int} {i j : Int} {P : PyData → Prop} (p : P (.int (g i j))) : opC K (fun xs H Q => ∃ i j, xs = [.int i, .int j] ∧ Q (.int (g i j)) H) [.int i, .int j] P := fun W vs ok f Q k => by
  obtain ⟨v, u, rfl, f1, f2⟩ := f.all2
  cases f1.int_inv
  cases f2.int_inv
  exact ⟨i, j, rfl, k _ W _ (.refl ok) (.int _) p⟩
abbrev rInt : List V → Hp → VK → Prop := fun xs H Q => (∃ i, xs = [.int i] ∧ Q (.int i) H) ∨ ∃ k, xs = [.bl k] ∧ Q (.int (if k then 1 else 0)) H
theorem opC_intB {b : Bool} {P : PyData → Prop} (p : P (.int (if b then 1 else 0))) : opC K rInt [.bool b] P := fun W vs ok f Q k => by
  obtain ⟨v, rfl, f1⟩ := f.all1
  cases f1.bool_inv
  exact .inr ⟨b, rfl, k _ W _ (.refl ok) (.int _) p⟩
end

/-! ### slots forgotten, targets, what is walked -/
def wipeG (Γ : Gm) : List Nat → Gm
  | [] => Γ
  | v :: vs => (wipeG Γ vs).set v .no
section
variable {K : PySem.W.Frag} {W0 W W' W1 : Wd} {σ : L2.St} {Γ : Gm}
theorem Sat.wipe1 (S : Sat K W0 W σ Γ) (i : Nat) : Sat K W0 W (σ.set i none) (Γ.set i .no) := by
  refine ⟨S.le, fun j t hj => ?_, fun j k xs ys a ne h1 h2 h3 h4 => ?_⟩
  · rcases get_set hj with ⟨e, g, rfl⟩ | ⟨e, g⟩
    · subst e
      exact ⟨none, by rw [List.getElem?_set, if_pos rfl, if_pos (S.len g)], trivial⟩
    · obtain ⟨o, h1, h2⟩ := S.sl j t g
      exact ⟨o, by rw [List.getElem?_set, if_neg e]; exact h1, h2⟩
  · rcases get_set h1 with ⟨_, _, e⟩ | ⟨e, g⟩
    · cases e
    · rcases get_set h2 with ⟨_, _, e⟩ | ⟨e2, g2⟩
      · cases e
      · rw [List.getElem?_set, if_neg e] at h3
        rw [List.getElem?_set, if_neg e2] at h4
        exact S.sep j k xs ys a ne g g2 h3 h4
theorem Sat.wipe (S : Sat K W0 W σ Γ) : ∀ vs : List Nat, Sat K W0 W (wipe σ vs) (wipeG Γ vs)
  | [] => S
  | v :: vs => (S.wipe vs).wipe1 v
theorem wipe_set {j : Nat} {o : Option V} : ∀ {vs : List Nat} {σ : L2.St}, j ∈ vs → wipe (σ.set j o) vs = wipe σ vs
  | v :: vs, σ, h => by
    show (wipe (σ.set j o) vs).set v none = (wipe σ vs).set v none
    by_cases hv : j ∈ vs
    · rw [wipe_set hv]
    · have e : j = v := by simpa [hv] using h
      subst e
      have out : ∀ (ws : List Nat) (τ : L2.St), j ∉ ws → wipe (τ.set j o) ws = (wipe τ ws).set j o := by
        intro ws
        induction ws with
        | nil => intro τ _; rfl
        | cons w ws ih =>
          intro τ hn
          show (wipe (τ.set j o) ws).set w none = ((wipe τ ws).set w none).set j o
          rw [ih τ (fun z => hn (List.mem_cons_of_mem _ z)), List.set_comm _ _ (fun z => hn (by rw [z]; exact List.mem_cons_self))]
      rw [out vs σ hv, List.set_set]
theorem wipe_wipe {vs : List Nat} : ∀ {ws : List Nat} {σ : L2.St}, (∀ j ∈ ws, j ∈ vs) → wipe (wipe σ ws) vs = wipe σ vs
  | [], _, _ => rfl
  | w :: ws, σ, h => by
    show wipe ((wipe σ ws).set w none) vs = wipe σ vs
    rw [wipe_set (h w List.mem_cons_self), wipe_wipe fun j hj => h j (List.mem_cons_of_mem _ hj)]

/-- a target, its slots among vs -/
def wpG (K : PySem.W.Frag) (W0 : Wd) (vs : List Nat) (g : TG) (d : PyData) (Γ : Gm) (P : Gm → Prop) : Prop := ∀ W σ, Sat K W0 W σ Γ → ∀ v, Df K W v d → ∀ Q : L2.St → Hp → Prop,
  (∀ σ' Γ' W', Le W W' → Sat K W0 W' σ' Γ' → wipe σ' vs = wipe σ vs → P Γ' → Q σ' W'.H) → g v σ W.H Q
theorem wpG_name {vs : List Nat} {j : Nat} {d : PyData} {P : Gm → Prop} (hj : j ∈ vs) (p : P (Γ.set j (.d d))) : wpG K W0 vs (gName j) d Γ P := fun W σ S v f Q k =>
  k _ _ W (.refl S.ok) (S.setD j f) (wipe_set hj) p
def wpGs (K : PySem.W.Frag) (W0 : Wd) (vs : List Nat) (g : TGs) (ds : List PyData) (Γ : Gm) (P : Gm → Prop) : Prop := ∀ W σ, Sat K W0 W σ Γ → ∀ us, Dfs K W us ds → ∀ Q : L2.St → Hp → Prop,
  (∀ σ' Γ' W', Le W W' → Sat K W0 W' σ' Γ' → wipe σ' vs = wipe σ vs → P Γ' → Q σ' W'.H) → g us σ W.H Q
theorem wpGs_nil {vs : List Nat} {P : Gm → Prop} (p : P Γ) : wpGs K W0 vs gNil [] Γ P := fun W σ S us f Q k => by
  cases f
  exact ⟨rfl, k σ Γ W (.refl S.ok) S rfl p⟩
theorem wpGs_cons {vs : List Nat} {g : TG} {gs : TGs} {d : PyData} {ds : List PyData} {P : Gm → Prop} (h : wpG K W0 vs g d Γ fun Γ' => wpGs K W0 vs gs ds Γ' P) : wpGs K W0 vs (gCons g gs) (d :: ds) Γ P := fun W σ S us f Q k => by
  cases f with
  | cons f fs =>
    exact ⟨_, _, rfl, h W σ S _ f _ fun σ' Γ' W1 e1 S1 w1 h1 => h1 W1 σ' S1 _ (Dfs.mono (e1.lf S.ok) _ _ fs) Q fun σ2 Γ2 W2 e2 S2 w2 p => k σ2 Γ2 W2 (e1.trans e2) S2 (w2.trans w1) p⟩
theorem wpG_tup {vs : List Nat} {n : Nat} {gs : TGs} {ds : List PyData} {P : Gm → Prop} (hn : ds.length = n) (h : wpGs K W0 vs gs ds Γ P) : wpG K W0 vs (gTup K n gs) (.tuple ds) Γ P := fun W σ S v f Q k => by
  obtain ⟨a, us, rfl, q, f⟩ := f.tup_inv
  exact ⟨a, us, rfl, q, by rw [f.length]; exact hn, h W σ S us f Q k⟩

/-- an iterator over the data ds, while G holds -/
structure ItD (K : PySem.W.Frag) (G : Wd → Prop) (J : It) (ds : List PyData) : Prop where
  go : ∀ W i, G W → i < ds.length → J.go i W.H
  stop : ∀ W i, G W → ds.length ≤ i → J.stop i W.H
  yld : ∀ W i x H' d, G W → Ok W → ds[i]? = some d → J.yld i W.H x H' → ∃ W', W'.H = H' ∧ Le W W' ∧ Df K W' x d
def wpI (K : PySem.W.Frag) (W0 : Wd) (wi : TI) (Γ : Gm) (P : List PyData → Prop) : Prop := ∀ W σ, Sat K W0 W σ Γ → ∀ R : It → Hp → Prop, (∀ W' J ds, Le W W' → ItD K (Lf W') J ds → P ds → R J W'.H) → wi σ W.H R
def wpIc (K : PySem.W.Frag) (W0 : Wd) (wi : TI) (Γ : Gm) (P : List PyData → Prop) : Prop := ∀ W σ, Sat K W0 W σ Γ → ∀ R : It → Hp → Prop, (∀ W' J ds, Le W W' → ItD K (Le W') J ds → P ds → R J W'.H) → wi σ W.H R
theorem wpIc_of {wi : TI} {P : List PyData → Prop} (h : wpI K W0 wi Γ P) : wpIc K W0 wi Γ P := fun W σ S R k => h W σ S R fun W' J ds e i p =>
  k W' J ds e ⟨fun W2 n g => i.go W2 n (g.lf e.ok), fun W2 n g => i.stop W2 n (g.lf e.ok), fun W2 n x H' d g => i.yld W2 n x H' d (g.lf e.ok)⟩ p
theorem itd_tup {a : Addr} {vs : List V} {ds : List PyData} (h : SqT K W.H a vs) (f : Dfs K W vs ds) : ItD K (Lf W) (Itt K a) ds where
  go := fun W2 i g hi => ⟨vs, vs[i]'(by rw [f.length]; exact hi), g.rdT h, by simp [f.length, hi]⟩
  stop := fun W2 i g hi => ⟨vs, g.rdT h, by rw [f.length]; exact hi⟩
  yld := fun W2 i x H' d g ok hd ⟨e, y⟩ => by
    obtain ⟨v, h1, h2⟩ := f.get hd
    have h3 := y vs (g.rdT h)
    rw [h1] at h3
    cases h3
    exact ⟨W2, e.symm, .refl ok, Df.mono g _ _ h2⟩
theorem itd_list {G : Wd → Prop} {a : Addr} {vs : List V} {ds : List PyData} (hG : ∀ W', G W' → SqL K W'.H a vs ∧ Dfs K W' vs ds) (hl : vs.length = ds.length) : ItD K G (Itl K a) ds where
  go := fun W2 i g hi => ⟨vs, vs[i]'(by rw [hl]; exact hi), (hG W2 g).1, by simp [hl, hi]⟩
  stop := fun W2 i g hi => ⟨vs, (hG W2 g).1, by rw [hl]; exact hi⟩
  yld := fun W2 i x H' d g ok hd ⟨e, y⟩ => by
    obtain ⟨v, h1, h2⟩ := (hG W2 g).2.get hd
    have h3 := y vs (hG W2 g).1
    rw [h1] at h3
    cases h3
    exact ⟨W2, e.symm, .refl ok, h2⟩
theorem wpI_tup {te : TE} {P : List PyData → Prop} (h : wpE K W0 te Γ fun d => ∃ ds, d = .tuple ds ∧ P ds) : wpI K W0 (iTup K te) Γ P := fun W σ S R k => h W σ S _ fun v W1 d e1 f1 ⟨ds, hd, p⟩ => by
  subst hd
  obtain ⟨a, vs, rfl, q, f⟩ := f1.tup_inv
  exact ⟨a, rfl, ⟨vs, q⟩, k W1 _ ds e1 (itd_tup q f) p⟩
theorem wpI_list {te : TE} {P : List PyData → Prop} (h : wpE K W0 te Γ fun d => ∃ ds, d = .list ds ∧ P ds) : wpI K W0 (iList K te) Γ P := fun W σ S R k => h W σ S _ fun v W1 d e1 f1 ⟨ds, hd, p⟩ => by
  subst hd
  cases f1 with
  | @lst a vs _ q f =>
    have hG : ∀ W', Lf W1 W' → SqL K W'.H a vs ∧ Dfs K W' vs ds := fun W' g => ⟨q.elim (fun q => .inl (g.rdL q.1 q.2)) fun q => q _, Dfs.mono g _ _ f⟩
    exact ⟨a, rfl, ⟨vs, (hG W1 (.refl e1.ok)).1⟩, k W1 _ ds e1 (itd_list hG f.length) p⟩
theorem wpIc_list {te : TE} {P : List PyData → Prop} (h : wpL K W0 te Γ P) : wpIc K W0 (iList K te) Γ P := fun W σ S R k => h W σ S _ fun v W1 ds e1 l1 p => by
  obtain ⟨a, vs, ev, q, f⟩ := id l1
  subst ev
  have hG : ∀ W', Le W1 W' → SqL K W'.H a vs ∧ Dfs K W' vs ds := fun W' g => by
    refine ⟨?_, Dfs.mono (g.lf e1.ok) _ _ f⟩
    rcases q with ⟨q | ⟨o, q⟩, b⟩ | q
    · exact .inl (.inl (g.ex _ _ q b))
    · exact .inl (.inr ⟨o, g.ex _ _ q b⟩)
    · exact q _
  exact ⟨a, rfl, ⟨vs, (hG W1 (.refl e1.ok)).1⟩, k W1 _ ds e1 (itd_list hG f.length) p⟩
def rngD (lo : Int) (n : Nat) : List PyData := (List.range n).map fun i => .int (lo + (i : Nat))
theorem rngD_len (lo : Int) (n : Nat) : (rngD lo n).length = n := by simp [rngD]
theorem rngD_get {lo : Int} {n i : Nat} {d : PyData} (h : (rngD lo n)[i]? = some d) : i < n ∧ d = .int (lo + i) := by
  have g : i < n := by
    have := (List.getElem?_eq_some_iff.mp h).1
    rw [rngD_len] at this
    exact this
  unfold rngD at h
  rw [List.getElem?_map, List.getElem?_eq_getElem (by simpa using g)] at h
  simp at h
  exact ⟨g, h.symm⟩
theorem itd_rng {G : Wd → Prop} {lo : Int} {n : Nat} : ItD K G (Itr lo n) (rngD lo n) where
  go := fun W2 i g hi => by rw [rngD_len] at hi; exact hi
  stop := fun W2 i g hi => by rw [rngD_len] at hi; exact hi
  yld := fun W2 i x H' d g ok hd ⟨e, y⟩ => by
    obtain ⟨_, rfl⟩ := rngD_get hd
    subst y
    exact ⟨W2, e.symm, .refl ok, .int _⟩
theorem wpI_rng1 {ta : TE} {P : List PyData → Prop} (h : wpE K W0 ta Γ fun d => ∃ j : Int, d = .int j ∧ -(2 ^ 62) ≤ j ∧ j < 2 ^ 62 ∧ P (rngD 0 j.toNat)) : wpI K W0 (iRng1 (tCons ta tNil)) Γ P := fun W σ S R k => h W σ S _ fun v W1 d e1 f1 ⟨j, hd, h1, h2, p⟩ => by
  subst hd
  cases f1.int_inv
  exact ⟨j, rfl, h1, h2, k W1 _ _ e1 itd_rng p⟩
theorem wpI_rng2 {ta tb : TE} {P : List PyData → Prop} (h : wpE K W0 ta Γ fun c => wpE K W0 tb Γ fun d => ∃ i j : Int, c = .int i ∧ d = .int j ∧ (-(2 ^ 62) ≤ i ∧ i < 2 ^ 62 ∧ -(2 ^ 62) ≤ j ∧ j < 2 ^ 62) ∧ P (rngD i (j - i).toNat)) : wpI K W0 (iRng2 (tCons ta (tCons tb tNil))) Γ P := fun W σ S R k =>
  h W σ S _ fun v W1 c e1 f1 h1 => h1 W1 σ (S.mono e1) _ fun u W2 d e2 f2 ⟨i, j, hc, hd, hb, p⟩ => by
    subst hc hd
    cases f1.int_inv
    cases f2.int_inv
    exact ⟨i, j, rfl, hb, k W2 _ _ (e1.trans e2) itd_rng p⟩
def signsD (x : Str) : List PyData := x.cps.toList.map fun c => .str ⟨#[c]⟩
theorem itd_str {G : Wd → Prop} {x : Str} : ItD K G (Its x) (signsD x) where
  go := fun W2 i g hi => by
    show i < x.cps.size
    simpa [signsD] using hi
  stop := fun W2 i g hi => by
    show x.cps.size ≤ i
    simpa [signsD] using hi
  yld := fun W2 i v H' d g ok hd ⟨e, c, hc, hv⟩ => by
    unfold signsD at hd
    rw [List.getElem?_map, Array.getElem?_toList, hc] at hd
    cases hd
    subst hv
    exact ⟨W2, e.symm, .refl ok, .str _⟩
theorem wpI_str {te : TE} {P : List PyData → Prop} (h : wpE K W0 te Γ fun d => ∃ x, d = .str x ∧ P (signsD x)) : wpI K W0 (iStr te) Γ P := fun W σ S R k => h W σ S _ fun v W1 d e1 f1 ⟨x, hd, p⟩ => by
  subst hd
  cases f1.str_inv
  exact ⟨x, rfl, k W1 _ _ e1 itd_str p⟩

/-! an own object is changed -/
theorem Ok.mut (ok : Ok W) {a : Addr} {o o' : HO} (h : W.H a = some o) (hb : ¬ W.B a) : Ok ⟨W.Fz, W.B, upd W.H a o'⟩ :=
  ⟨fun b f => by
    show upd W.H a o' b ≠ none
    by_cases e : b = a
    · subst e; rw [upd_same]; exact fun z => nomatch z
    · rw [upd_ne e]; exact ok.fz b f, fun b f => by
    obtain ⟨x, y, z, e⟩ := ok.bx b f
    exact ⟨x, y, z, by show upd W.H a o' b = _; rw [upd_ne (fun z => hb (by rw [← z]; exact f))]; exact e⟩, ok.fb⟩
theorem Ok.mutLf (ok : Ok W) {a : Addr} {o o' : HO} (h : W.H a = some o) (hm : Mut (some o)) (hf : ¬ W.Fz a) (hb : ¬ W.B a) : Lf W ⟨W.Fz, W.B, upd W.H a o'⟩ :=
  ⟨ok.mut h hb, fun _ h => h, fun _ h => h, fun b u e m => by
    show upd W.H a o' b = some u
    by_cases q : b = a
    · subst q
      rcases m with m | m
      · exact absurd m hf
      · rw [h] at e
        cases e
        exact absurd hm m
    · rw [upd_ne q]; exact e⟩
theorem Le.mut (e : Le W0 W) {a : Addr} {o o' : HO} (h : W.H a = some o) (hb : ¬ W.B a) (h0 : W0.H a = none) : Le W0 ⟨W.Fz, W.B, upd W.H a o'⟩ :=
  ⟨e.ok.mut h hb, e.fz, e.b, fun b u q n => by
    show upd W.H a o' b = some u
    rw [upd_ne (ne_of_none q h0)]
    exact e.ex b u q n, e.nf, e.nb⟩

theorem Sat.mutL (S1 : Sat K W0 W σ Γ) {i : Nat} {a : Addr} {xs ys : List PyData} {vs us : List V} (hi : Γ[i]? = some (.l xs)) (h1 : σ[i]? = some (some (.ref a))) (g2 : W0.H a = none) (g3 : ¬ W.Fz a) (g4 : ¬ W.B a) (g5 : W.H a = some (.lst vs))
    (lf : Lf W ⟨W.Fz, W.B, upd W.H a (.lst us)⟩) (f : Dfs K ⟨W.Fz, W.B, upd W.H a (.lst us)⟩ us ys) : Sat K W0 ⟨W.Fz, W.B, upd W.H a (.lst us)⟩ σ (Γ.set i (.l ys)) := by
  refine ⟨S1.le.mut g5 g4 g2, fun j s hj => ?_, fun j k ys zs b ne q1 q2 q3 q4 => ?_⟩
  · rcases get_set hj with ⟨e1, g, rfl⟩ | ⟨e1, g⟩
    · subst e1
      exact ⟨_, h1, a, _, rfl, g2, g3, g4, upd_same, f⟩
    · obtain ⟨o, q1, q2⟩ := S1.sl j s g
      refine ⟨o, q1, ?_⟩
      cases s with
      | no => cases o <;> trivial
      | d x =>
        cases o with
        | none => exact q2
        | some y => exact Df.mono lf _ _ q2
      | l ys =>
        cases o with
        | none => exact q2
        | some y =>
          obtain ⟨b, us, rfl, p2, p3, p4, p5, p6⟩ := q2
          have nb : b ≠ a := fun z => by
            subst z
            exact S1.sep i j xs ys b e1 hi g h1 q1
          exact ⟨b, us, rfl, p2, p3, p4, by show upd W.H a _ b = _; rw [upd_ne nb]; exact p5, Dfs.mono lf _ _ p6⟩
  · have get : ∀ {n : Nat} {zs ws : List PyData}, (Γ.set i (.l ws))[n]? = some (.l zs) → ∃ zs', Γ[n]? = some (.l zs') := fun {n zs ws} q => by
      rcases get_set q with ⟨e1, _, _⟩ | ⟨_, g⟩
      · subst e1; exact ⟨xs, hi⟩
      · exact ⟨zs, g⟩
    obtain ⟨ys', w1⟩ := get q1
    obtain ⟨zs', w2⟩ := get q2
    exact S1.sep j k ys' zs' b ne w1 w2 q3 q4

/-- a list comprehension -/
theorem wpN_lc {wi : TI} {g : TG} {tt : TT} {te : TE} {vs : List Nat} {P : List PyData → Prop} 
    (h : wpIc K W0 wi Γ fun ds => ds.length < 10000000 ∧ ∃ Iv : Nat → List PyData → Prop, Iv 0 [] ∧ (∀ i d acc, ds[i]? = some d → Iv i acc → acc.length ≤ i → wpG K W0 vs g d (wipeG Γ vs) fun Γ' => wpT K W0 tt Γ' fun b => (b = true → wpE K W0 te Γ' fun y => Iv (i + 1) (acc ++ [y])) ∧ (b = false → Iv (i + 1) acc)) ∧
      ∀ acc, Iv ds.length acc → acc.length ≤ ds.length → P acc) : wpN K W0 (tLc wi g tt te vs) Γ P := fun W σ S Q k => h W σ S _ fun W1 J ds e1 it ⟨hz, Iv, i0, hs, hd⟩ => by
  intro D hD
  have hsz : sizeLine = 16777216 := sizeLine_eq
  have S1 := S.mono e1
  obtain ⟨n1, n2⟩ := e1.ok.newL (K := K) (ds := []) (vs := []) hD .nil
  refine ⟨fun i m H => m = ds.length - i ∧ i ≤ ds.length ∧ ∃ W2 acc us, W2.H = H ∧ Le W1 W2 ∧ ¬ W2.Fz D ∧ ¬ W2.B D ∧ H D = some (.lst us) ∧ Dfs K W2 us acc ∧ Iv i acc ∧ acc.length ≤ i, ⟨ds.length, by simp, Nat.zero_le _, _, [], [], rfl, n1, ?_, ?_, upd_same, .nil, i0, Nat.le_refl _⟩, ?_⟩
  · exact fun z => e1.ok.fz D z hD
  · intro z
    obtain ⟨_, _, _, e⟩ := e1.ok.bx D z
    rw [hD] at e
    cases e
  · rintro i m H ⟨rfl, hi, W2, acc, us, rfl, e2, nf, nb, hl, hf, hI, hal⟩
    by_cases hlt : i < ds.length
    · refine .inr ⟨it.go W2 i e2 hlt, fun H' => ∃ W2 acc us, W2.H = H' ∧ Le W1 W2 ∧ ¬ W2.Fz D ∧ ¬ W2.B D ∧ H' D = some (.lst us) ∧ Dfs K W2 us acc ∧ Iv (i + 1) acc ∧ acc.length ≤ i + 1, fun H' q => ⟨ds.length - (i + 1), by omega, rfl, hlt, q⟩, fun x H' hy => ?_⟩
      obtain ⟨W3, rfl, e3, f3⟩ := it.yld W2 i x H' ds[i] e2 e2.ok (List.getElem?_eq_getElem hlt) hy
      have S3 : Sat K W0 W3 (wipe σ vs) (wipeG Γ vs) := (S1.mono (e2.trans e3)).wipe vs
      have keep : ∀ W', Le W2 W' → ¬ W'.Fz D ∧ ¬ W'.B D ∧ W'.H D = some (.lst us) := fun W' e => ⟨fun z => (by
        have := e.nf D z nf
        rw [hl] at this
        cases this), fun z => (by
        have := e.nb D z nb
        rw [hl] at this
        cases this), e.ex D _ hl nb⟩
      refine hs i ds[i] acc (List.getElem?_eq_getElem hlt) hI hal W3 _ S3 x f3 _ fun σ' Γ' W4 e4 S4 w4 ht => ⟨w4.trans (wipe_wipe fun _ h => h), ?_⟩
      refine ht W4 σ' S4 _ fun W5 b e5 hb => ?_
      cases b with
      | false =>
        obtain ⟨k1, k2, k3⟩ := keep W5 ((e3.trans e4).trans e5)
        exact ⟨W5, acc, us, rfl, ((e2.trans e3).trans e4).trans e5, k1, k2, k3, Dfs.mono (((e3.trans e4).trans e5).lf e2.ok) _ _ hf, hb.2 rfl, by omega⟩
      | true =>
        show te σ' W5.H _
        refine hb.1 rfl W5 σ' (S4.mono e5) _ fun y W6 d6 e6 f6 hI6 => ?_
        have e26 : Le W2 W6 := ((e3.trans e4).trans e5).trans e6
        obtain ⟨k1, k2, k3⟩ := keep W6 e26
        refine ⟨us, k3, by rw [hf.length]; omega, ⟨W6.Fz, W6.B, upd W6.H D (.lst (us ++ [y]))⟩, acc ++ [d6], us ++ [y], rfl, (e2.trans e26).mut k3 k2 hD, k1, k2, upd_same, ?_, hI6, by rw [List.length_append, List.length_singleton]; omega⟩
        have lf := e6.ok.mutLf (o' := .lst (us ++ [y])) k3 trivial k1 k2
        exact (Dfs.mono lf _ _ (Dfs.mono (e26.lf e2.ok) _ _ hf)).append (.cons (Df.mono lf _ _ f6) .nil)
    · have e : i = ds.length := by omega
      subst e
      refine .inl ⟨it.stop W2 _ e2 (Nat.le_refl _), k _ W2 acc (e1.trans e2) ?_ (hd acc hI hal)⟩
      have : Nw K W1 W2 (.ref D) acc := ⟨D, us, rfl, hD, nf, nb, hl, hf⟩
      exact this.up S.ok e1
end

/-! ### statements -/
inductive Rs where
  | d (x : PyData)
  | l (xs : List PyData)
def Rs.data : Rs → PyData
  | .d x => x
  | .l xs => .list xs
def RsOk (K : PySem.W.Frag) (W0 W : Wd) (v : V) : Rs → Prop
  | .d x => Df K W v x
  | .l xs => Nw K W0 W v xs
structure AE where
  nx : Gm → Prop
  rt : Rs → Prop
  bk : Gm → Prop := fun _ => False
  ct : Gm → Prop := fun _ => False
structure Cn (K : PySem.W.Frag) (W0 W : Wd) (D : Ends) (A : AE) : Prop where
  nx : ∀ Γ' W' σ', Lf W W' → Sat K W0 W' σ' Γ' → A.nx Γ' → D.nx σ' W'.H
  rt : ∀ v W' r, Le W0 W' → RsOk K W0 W' v r → A.rt r → D.rt v W'.H
  bk : ∀ Γ' W' σ', Lf W W' → Sat K W0 W' σ' Γ' → A.bk Γ' → D.bk σ' W'.H
  ct : ∀ Γ' W' σ', Lf W W' → Sat K W0 W' σ' Γ' → A.ct Γ' → D.ct σ' W'.H
def go (K : PySem.W.Frag) (W0 : Wd) (ts : TS) (Γ : Gm) (A : AE) : Prop := ∀ W σ D, Sat K W0 W σ Γ → Cn K W0 W D A → ts D σ W.H
section
variable {K : PySem.W.Frag} {W0 W W' W1 : Wd} {σ : L2.St} {Γ : Gm} {D : Ends} {A : AE} {ta tb te : TE} {t u : TS} {tt : TT}
theorem Cn.later (c : Cn K W0 W D A) (e : Lf W W') : Cn K W0 W' D A :=
  ⟨fun Γ' W2 σ' f => c.nx Γ' W2 σ' (e.trans f), c.rt, fun Γ' W2 σ' f => c.bk Γ' W2 σ' (e.trans f), fun Γ' W2 σ' f => c.ct Γ' W2 σ' (e.trans f)⟩
theorem go_seq (h : go K W0 t Γ { A with nx := fun Γ' => go K W0 u Γ' A }) : go K W0 (tSeq t u) Γ A := fun W σ D S c =>
  h W σ { D with nx := u D } S ⟨fun Γ' W' σ' f S' g => g W' σ' D S' (c.later f), c.rt, c.bk, c.ct⟩
theorem go_next (p : A.nx Γ) : go K W0 tNext Γ A := fun W σ D S c => c.nx Γ W σ (.refl S.ok) S p
theorem go_brk (p : A.bk Γ) : go K W0 tBreak Γ A := fun W σ D S c => c.bk Γ W σ (.refl S.ok) S p
theorem go_cont (p : A.ct Γ) : go K W0 tCont Γ A := fun W σ D S c => c.ct Γ W σ (.refl S.ok) S p
theorem go_asg {i : Nat} (h : wpE K W0 te Γ fun d => A.nx (Γ.set i (.d d))) : go K W0 (tAsg te (gName i)) Γ A := fun W σ D S c =>
  h W σ S _ fun v W' d e f p => c.nx _ W' _ (e.lf S.ok) ((S.mono e).setD i f) p
/-- a new list is kept as one's own -/
theorem go_asgN {i : Nat} (h : wpN K W0 te Γ fun ds => A.nx (Γ.set i (.l ds))) : go K W0 (tAsg te (gName i)) Γ A := fun W σ D S c =>
  h W σ S _ fun v W' ds e n p => by
    obtain ⟨a, vs, rfl, h2, h3, h4, h5, h6⟩ := n
    have h0 : W0.H a = none := S.le.fresh h2
    refine c.nx _ W' _ (e.lf S.ok) ((S.mono e).set i (show SlOk K W0 W' (some (.ref a)) (.l ds) from ⟨a, vs, rfl, h0, h3, h4, h5, h6⟩) fun xs _ j ys b _ hj hσ q => ?_) p
    cases q
    obtain ⟨a2, vs2, g1, g2, g3, g4, g5, g6⟩ := S.varL hj
    rw [hσ] at g1
    cases g1
    rw [h2] at g5
    cases g5
theorem go_asgG {vs : List Nat} {g : TG} (h : wpE K W0 te Γ fun d => wpG K W0 vs g d Γ A.nx) : go K W0 (tAsg te g) Γ A := fun W σ D S c =>
  h W σ S _ fun v W1 d e f p => p W1 σ (S.mono e) v f D.nx fun σ' Γ' W2 e2 S2 _ q => c.nx Γ' W2 σ' ((e.trans e2).lf S.ok) S2 q
theorem go_par {i j : Nat} {t : TA} (h : wpA K W0 t Γ fun ds => ∃ x y, ds = [x, y] ∧ A.nx ((Γ.set i (.d x)).set j (.d y))) : go K W0 (tPar i j t) Γ A := fun W σ D S c =>
  h W σ S _ fun vs W' ds e f ⟨x, y, hd, p⟩ => by
    subst hd
    obtain ⟨v, u, rfl, f1, f2⟩ := f.all2
    exact ⟨v, u, rfl, c.nx _ W' _ (e.lf S.ok) (((S.mono e).setD i f1).setD j f2) p⟩
theorem go_drop (h : wpE K W0 te Γ fun _ => A.nx Γ) : go K W0 (tDrop te) Γ A := fun W σ D S c =>
  h W σ S _ fun v W' d e f p => c.nx _ W' _ (e.lf S.ok) (S.mono e) p
theorem go_ret (h : wpE K W0 te Γ fun d => A.rt (.d d)) : go K W0 (tRet te) Γ A := fun W σ D S c =>
  h W σ S _ fun v W' d e f p => c.rt v W' (.d d) (S.le.trans e) f p
theorem go_retN (p : A.rt (.d .none)) : go K W0 tRetN Γ A := fun W σ D S c => c.rt .non W (.d .none) S.le Df.non p
theorem go_retL (h : wpN K W0 te Γ fun ds => A.rt (.l ds)) : go K W0 (tRet te) Γ A := fun W σ D S c =>
  h W σ S _ fun v W' ds e n p => c.rt v W' (.l ds) (S.le.trans e) (show Nw K W0 W' v ds by
    obtain ⟨a, vs, rfl, h2, h⟩ := n
    exact ⟨a, vs, rfl, S.le.fresh h2, h⟩) p
/-- return x, x a list of one's own -/
theorem go_retV {i : Nat} {xs : List PyData} (h : Γ[i]? = some (.l xs)) (p : A.rt (.l xs)) : go K W0 (tRet (tVar i)) Γ A := fun W σ D S c => by
  obtain ⟨a, vs, h1, h2, h3, h4, h5, h6⟩ := S.varL h
  exact ⟨_, h1, c.rt _ W (.l xs) S.le ⟨a, vs, rfl, h2, h3, h4, h5, h6⟩ p⟩
theorem go_if (h : wpT K W0 tt Γ fun b => (b = true → go K W0 t Γ A) ∧ (b = false → go K W0 u Γ A)) : go K W0 (tIfS tt t u) Γ A := fun W σ D S c =>
  h W σ S _ fun W' b e p => by
    cases b with
    | true =>
      show t D σ W'.H
      exact p.1 rfl W' σ D (S.mono e) (c.later (e.lf S.ok))
    | false =>
      show u D σ W'.H
      exact p.2 rfl W' σ D (S.mono e) (c.later (e.lf S.ok))
/-- slots may be forgotten, own lists become data -/
theorem go_forget (i : Nat) (h : go K W0 t (Γ.set i .no) A) : go K W0 t Γ A := fun W σ D S c => h W σ D (S.forget i) c
theorem go_freeze {i : Nat} {xs : List PyData} (hi : Γ[i]? = some (.l xs)) (h : go K W0 t (Γ.set i (.d (.list xs))) A) : go K W0 t Γ A := fun W σ D S c => by
  obtain ⟨W', h1, lf, S'⟩ := S.freeze hi
  rw [← h1]
  exact h W' σ D S' (c.later lf)
/-- x.append(e) -/
theorem go_append {i : Nat} {xs : List PyData} (hi : Γ[i]? = some (.l xs)) (h : wpE K W0 te Γ fun d => xs.length < 10000000 ∧ A.nx (Γ.set i (.l (xs ++ [d])))) : go K W0 (tDrop (tBM K "list" rAppend (tVar i) (tCons te tNil))) Γ A := fun W σ D S c => by
  have hsz : sizeLine = 16777216 := sizeLine_eq
  obtain ⟨a, vs, h1, h2, h3, h4, h5, h6⟩ := S.varL hi
  refine ⟨_, h1, .inl ⟨rfl, vs, .inl (.inl h5)⟩, h W σ S _ fun v W1 d e f ⟨hz, p⟩ => ?_⟩
  have S1 := S.mono e
  obtain ⟨a', vs', g1, g2, g3, g4, g5, g6⟩ := S1.varL hi
  rw [h1] at g1
  cases g1
  have hvs : vs' = vs := by
    have := e.ex _ _ h5 h4
    rw [g5] at this
    cases this
    rfl
  subst hvs
  refine ⟨a, vs', v, rfl, rfl, g5, by rw [g6.length]; omega, ?_⟩
  have lf := e.ok.mutLf (o' := .lst (vs' ++ [v])) g5 trivial g3 g4
  exact c.nx _ ⟨W1.Fz, W1.B, upd W1.H a (.lst (vs' ++ [v]))⟩ σ ((e.lf S.ok).trans lf) (S1.mutL hi h1 g2 g3 g4 g5 lf ((Dfs.mono lf _ _ g6).append (.cons (Df.mono lf _ _ f) .nil))) p

/-! loops -/
theorem go_for {wi : TI} {g : TG} (vs : List Nat)
    (h : wpI K W0 wi Γ fun ds => ∃ Iv : Nat → Gm → Prop, Iv 0 Γ ∧ (∀ i d Γ', ds[i]? = some d → Iv i Γ' → wpG K W0 vs g d Γ' fun Γ2 => go K W0 t Γ2 ⟨Iv (i + 1), A.rt, A.nx, Iv (i + 1)⟩) ∧ ∀ Γ', Iv ds.length Γ' → A.nx Γ') : go K W0 (tFor wi g t) Γ A := fun W σ D S c =>
  h W σ S _ fun W1 J ds e1 it ⟨Iv, i0, hs, hd⟩ => by
    refine ⟨fun i m σ' H => m = ds.length - i ∧ i ≤ ds.length ∧ ∃ W2 Γ', W2.H = H ∧ Lf W1 W2 ∧ Sat K W0 W2 σ' Γ' ∧ Iv i Γ', ⟨ds.length, by simp, Nat.zero_le _, W1, Γ, rfl, .refl e1.ok, S.mono e1, i0⟩, ?_⟩
    rintro i m σ' H ⟨rfl, hi, W2, Γ', rfl, f2, S2, hI⟩
    have c2 := c.later ((e1.lf S.ok).trans f2)
    by_cases hlt : i < ds.length
    · refine .inr ⟨it.go W2 i f2 hlt, fun σ' H' => ∃ W2 Γ', W2.H = H' ∧ Lf W1 W2 ∧ Sat K W0 W2 σ' Γ' ∧ Iv (i + 1) Γ', fun σ' H' q => ⟨ds.length - (i + 1), by omega, rfl, hlt, q⟩, fun x H' hy => ?_⟩
      obtain ⟨W3, rfl, e3, f3⟩ := it.yld W2 i x H' ds[i] f2 S2.ok (List.getElem?_eq_getElem hlt) hy
      refine hs i ds[i] Γ' (List.getElem?_eq_getElem hlt) hI W3 σ' (S2.mono e3) x f3 _ fun σ4 Γ4 W4 e4 S4 _ hgo => ?_
      have f4 : Lf W1 W4 := f2.trans ((e3.trans e4).lf S2.ok)
      refine hgo W4 σ4 _ S4 ⟨fun Γ5 W5 σ5 f5 S5 q => ⟨W5, Γ5, rfl, f4.trans f5, S5, q⟩, fun v W5 r e5 r5 q => c2.rt v W5 r e5 r5 q, fun Γ5 W5 σ5 f5 S5 q => c2.nx Γ5 W5 σ5 (((e3.trans e4).lf S2.ok).trans f5) S5 q, fun Γ5 W5 σ5 f5 S5 q => ⟨W5, Γ5, rfl, f4.trans f5, S5, q⟩⟩
    · have e : i = ds.length := by omega
      subst e
      exact .inl ⟨it.stop W2 _ f2 (Nat.le_refl _), c2.nx Γ' W2 σ' (.refl S2.ok) S2 (hd Γ' hI)⟩
theorem go_while (Iv : Nat → Gm → Prop) (m0 : Nat) (h0 : Iv m0 Γ)
    (hs : ∀ m Γ', Iv m Γ' → wpT K W0 tt Γ' fun b => (b = true → go K W0 t Γ' ⟨fun Γ2 => ∃ m', m' < m ∧ Iv m' Γ2, A.rt, A.nx, fun Γ2 => ∃ m', m' < m ∧ Iv m' Γ2⟩) ∧ (b = false → A.nx Γ')) : go K W0 (tWhile tt t) Γ A := fun W σ D S c => by
  refine ⟨fun m σ' H => ∃ W2 Γ', W2.H = H ∧ Lf W W2 ∧ Sat K W0 W2 σ' Γ' ∧ Iv m Γ', ⟨m0, W, Γ, rfl, .refl S.ok, S, h0⟩, ?_⟩
  rintro m σ' H ⟨W2, Γ', rfl, f2, S2, hI⟩
  have c2 := c.later f2
  refine hs m Γ' hI W2 σ' S2 _ fun W3 b e3 p => ?_
  cases b with
  | true =>
    show ∃ N : L2.St → Hp → Prop, _
    have f3 := f2.trans (e3.lf S2.ok)
    refine ⟨fun σ' H' => ∃ m', m' < m ∧ ∃ W2 Γ', W2.H = H' ∧ Lf W W2 ∧ Sat K W0 W2 σ' Γ' ∧ Iv m' Γ', fun σ' H' q => q, ?_⟩
    refine p.1 rfl W3 σ' _ (S2.mono e3) ⟨fun Γ5 W5 σ5 f5 S5 ⟨m', l, q⟩ => ⟨m', l, W5, Γ5, rfl, f3.trans f5, S5, q⟩, fun v W5 r e5 r5 q => c2.rt v W5 r e5 r5 q, fun Γ5 W5 σ5 f5 S5 q => c2.nx Γ5 W5 σ5 ((e3.lf S2.ok).trans f5) S5 q, fun Γ5 W5 σ5 f5 S5 ⟨m', l, q⟩ => ⟨m', l, W5, Γ5, rfl, f3.trans f5, S5, q⟩⟩
  | false =>
    show D.nx σ' W3.H
    exact c2.nx Γ' W3 σ' (e3.lf S2.ok) (S2.mono e3) (p.2 rfl)

/-! ### defs -/
/-- the promise of a def: of arguments (data) of which pre holds, a result of which post holds -/
def spF (K : PySem.W.Frag) (pre : List PyData → Prop) (post : List PyData → Rs → Prop) : Sp := fun vs H Q _ =>
  ∃ (W : Wd) (ds : List PyData), W.H = H ∧ Ok W ∧ Dfs K W vs ds ∧ pre ds ∧ ∀ v W' r, Le W W' → RsOk K W W' v r → post ds r → Q v W'.H
theorem wpE_call {pre : List PyData → Prop} {post : List PyData → Rs → Prop} {E : XK} {t : TA} {P : PyData → Prop}
    (h : wpA K W0 t Γ fun ds => pre ds ∧ ∀ r, post ds r → P r.data) : wpE K W0 (tCall (spF K pre post) [] E t) Γ P := fun W σ S Q k =>
  h W σ S _ fun vs W1 ds e1 f1 ⟨hp, hq⟩ => by
    refine ⟨W1, ds, rfl, e1.ok, by rw [List.append_nil]; exact f1, hp, fun v W2 r e2 r2 hr => ?_⟩
    cases r with
    | d x => exact k v W2 x (e1.trans e2) r2 (hq _ hr)
    | l xs =>
      obtain ⟨W3, h1, h2, h3⟩ := Nw.freeze e2 r2
      rw [← h1]
      exact k v W3 _ (e1.trans h2) h3 (hq _ hr)
theorem wpN_call {pre : List PyData → Prop} {post : List PyData → Rs → Prop} {E : XK} {t : TA} {P : List PyData → Prop}
    (h : wpA K W0 t Γ fun ds => pre ds ∧ ∀ r, post ds r → ∃ xs, r = .l xs ∧ P xs) : wpN K W0 (tCall (spF K pre post) [] E t) Γ P := fun W σ S Q k =>
  h W σ S _ fun vs W1 ds e1 f1 ⟨hp, hq⟩ => by
    refine ⟨W1, ds, rfl, e1.ok, by rw [List.append_nil]; exact f1, hp, fun v W2 r e2 r2 hr => ?_⟩
    obtain ⟨xs, rfl, p⟩ := hq _ hr
    exact k v W2 xs (e1.trans e2) (Nw.up S.ok e1 r2) p
def startG (N : List Str) (ds : List PyData) : Gm := ds.map Sl.d ++ List.replicate (N.length - ds.length) .no
theorem sat_start {N : List Str} {vs : List V} {ds : List PyData} (ok : Ok W) (f : Dfs K W vs ds) : Sat K W W (L2.start N vs) (startG N ds) := by
  unfold L2.start startG
  have hl := f.length
  refine ⟨.refl ok, fun i s h => ?_, fun i j xs ys a _ h _ _ _ => ?_⟩
  · by_cases hi : i < ds.length
    · rw [List.getElem?_append_left (by simpa using hi), List.getElem?_map] at h
      rw [List.getElem?_append_left (by simpa [hl] using hi), List.getElem?_map]
      rw [List.getElem?_eq_getElem hi] at h
      cases h
      obtain ⟨v, h1, h2⟩ := f.get (List.getElem?_eq_getElem hi)
      exact ⟨some v, by rw [h1]; rfl, h2⟩
    · rw [List.getElem?_append_right (by simpa using Nat.le_of_not_lt hi), List.getElem?_replicate] at h
      rw [List.getElem?_append_right (by simpa [hl] using Nat.le_of_not_lt hi), List.getElem?_replicate]
      rw [List.length_map] at h ⊢
      rw [hl]
      split at h
      · rename_i q
        cases h
        exact ⟨none, by rw [if_pos q], trivial⟩
      · cases h
  · by_cases hi : i < ds.length
    · rw [List.getElem?_append_left (by simpa using hi), List.getElem?_map, List.getElem?_eq_getElem hi] at h
      cases h
    · rw [List.getElem?_append_right (by simpa using Nat.le_of_not_lt hi), List.getElem?_replicate] at h
      split at h <;> cases h
/-- a def keeps its promise: its body as a term of rules (t), and what that comes to -/
theorem fn_ok {P : Program} {w : World} {mg : Str → Option Value} {base : Heap} {x qual : Str} {st : Stmt} {f : Addr} {fd : FuncData} {N ps : List Str} {k : Nat} {pre : List PyData → Prop} {post : List PyData → Rs → Prop}
    (F : Fun K x qual st f fd) (S : FnScope N ps (defScope st)) (len : ∀ ds, pre ds → ds.length = ps.length)
    (h : ∀ (cdv : Value) (A : Around) (outer : List PySem.Env) (s : Shared) (H : Hp) (E : XK), Room k (A.deeper (PyProof.Rows.envOfC qual (defScope st) s.heap.objs.size f cdv)) →
      ∃ t, PSs (cxOf CX0 P w K mg base N qual (defScope st) f cdv A outer s H E).nox (defBody st) t ∧ ∀ W0 ds, pre ds → go K W0 t (startG N ds) ⟨fun _ => post ds (.d .none), post ds, fun _ => False, fun _ => False⟩) :
    FnOk P w K mg base CX0 (k + 1) f fd ps (spF K pre post) := by
  refine F.ok S (fun vs H Q E hs => ?_) (fun cdv A outer s H vs Q E hr hs => ?_)
  · obtain ⟨W, ds, _, _, f, hp, _⟩ := hs
    rw [f.length, len ds hp]
  · obtain ⟨t, h1, h2⟩ := h cdv A outer s H E hr
    refine ⟨t, h1, ?_⟩
    obtain ⟨W, ds, rfl, ok, f, hp, hq⟩ := hs
    exact h2 W ds hp W _ _ (sat_start ok f) ⟨fun Γ' W' σ' _ S' q => hq .non W' (.d .none) S'.le Df.non q, fun v W' r e r' q => hq v W' r e r' q, fun _ _ _ _ _ z => z.elim, fun _ _ _ _ _ z => z.elim⟩
/-! boxes -/
theorem Df.box_inv {v : V} (h : Df K W v boxD) : ∃ a, v = .ref a ∧ W.B a := by
  unfold boxD at h
  cases h with
  | bx h => exact ⟨_, rfl, h⟩
theorem opR_box {i : Int} {P : PyData → Prop} (h0 : 0 ≤ i) (h1 : i < 3) (p : ∀ x : Int, P (.int x)) : opR K (rIx K) boxD (.int i) P := fun W v u ok f1 f2 Q k => by
  obtain ⟨a, rfl, hb⟩ := f1.box_inv
  cases f2.int_inv
  obtain ⟨x, y, z, e⟩ := ok.bx a hb
  have c : i = 0 ∨ i = 1 ∨ i = 2 := by omega
  rcases c with rfl | rfl | rfl
  · exact .inl ⟨a, _, 0, _, rfl, rfl, .inl (.inl e), rfl, k _ W _ (.refl ok) (.int x) (p x)⟩
  · exact .inl ⟨a, _, 1, _, rfl, rfl, .inl (.inl e), rfl, k _ W _ (.refl ok) (.int y) (p y)⟩
  · exact .inl ⟨a, _, 2, _, rfl, rfl, .inl (.inl e), rfl, k _ W _ (.refl ok) (.int z) (p z)⟩
theorem Ok.mutB (ok : Ok W) {a : Addr} {x y z : Int} (hb : W.B a) : Le W ⟨W.Fz, W.B, upd W.H a (.lst [.int x, .int y, .int z])⟩ := by
  refine ⟨⟨fun b f => ?_, fun b f => ?_, ok.fb⟩, fun _ h => h, fun _ h => h, fun b o e n => ?_, fun _ h n => absurd h n, fun _ h n => absurd h n⟩
  · show upd W.H a _ b ≠ none
    by_cases e : b = a
    · subst e; rw [upd_same]; exact fun z => nomatch z
    · rw [upd_ne e]; exact ok.fz b f
  · show Bx (upd W.H a _) b
    by_cases e : b = a
    · subst e; exact ⟨x, y, z, upd_same⟩
    · obtain ⟨x', y', z', q⟩ := ok.bx b f
      exact ⟨x', y', z', by rw [upd_ne e]; exact q⟩
  · show upd W.H a _ b = some o
    rw [upd_ne (fun z => n (by rw [z]; exact hb))]
    exact e
theorem go_asgBox {i : Nat} {j : Int} (hi : Γ[i]? = some (.d boxD)) (h0 : 0 ≤ j) (h1 : j < 3) (h : wpE K W0 te Γ fun d => ∃ x, d = .int x ∧ A.nx Γ) : go K W0 (tAsg te (gSub (tVar i) (tC (.int j)) rSetL)) Γ A := fun W σ D S c =>
  h W σ S _ fun v W1 d e1 f1 ⟨x', hd, p⟩ => by
    subst hd
    cases f1.int_inv
    have S1 := S.mono e1
    obtain ⟨u, h2, h3⟩ := S1.var hi
    obtain ⟨a, rfl, hb⟩ := h3.box_inv
    obtain ⟨x, y, z, e⟩ := e1.ok.bx a hb
    refine ⟨_, h2, ?_⟩
    have q : j = 0 ∨ j = 1 ∨ j = 2 := by omega
    rcases q with rfl | rfl | rfl
    · have e2 := e1.ok.mutB (x := x') (y := y) (z := z) hb
      exact ⟨a, _, 0, 0, rfl, rfl, e, rfl, c.nx Γ _ σ ((e1.trans e2).lf S.ok) (S1.mono e2) p⟩
    · have e2 := e1.ok.mutB (x := x) (y := x') (z := z) hb
      exact ⟨a, _, 1, 1, rfl, rfl, e, rfl, c.nx Γ _ σ ((e1.trans e2).lf S.ok) (S1.mono e2) p⟩
    · have e2 := e1.ok.mutB (x := x) (y := y) (z := x') hb
      exact ⟨a, _, 2, 2, rfl, rfl, e, rfl, c.nx Γ _ σ ((e1.trans e2).lf S.ok) (S1.mono e2) p⟩
/-- a new list of three ints is handed back as a box -/
theorem go_retBox (h : wpN K W0 te Γ fun ds => ∃ x y z : Int, ds = [.int x, .int y, .int z] ∧ A.rt (.d boxD)) : go K W0 (tRet te) Γ A := fun W σ D S c =>
  h W σ S _ fun v W' ds e n ⟨x, y, z, hd, p⟩ => by
    subst hd
    obtain ⟨a, vs, rfl, h2, h3, h4, h5, h6⟩ := n
    have hv : vs = [.int x, .int y, .int z] := dfs_ints (ns := [x, y, z]) h6
    subst hv
    have ok' : Ok ⟨W'.Fz, fun b => W'.B b ∨ b = a, W'.H⟩ := ⟨e.ok.fz, fun b hb => hb.elim (e.ok.bx b) (fun q => by rw [q]; exact ⟨x, y, z, h5⟩), fun b hb q => q.elim (e.ok.fb b hb) (fun q => h3 (by rw [← q]; exact hb))⟩
    have e2 : Le W ⟨W'.Fz, fun b => W'.B b ∨ b = a, W'.H⟩ := ⟨ok', e.fz, fun b hb => .inl (e.b b hb), e.ex, e.nf, fun b hb n => hb.elim (fun hb => e.nb b hb n) (fun q => by rw [q]; exact h2)⟩
    exact c.rt (.ref a) ⟨W'.Fz, fun b => W'.B b ∨ b = a, W'.H⟩ (.d boxD) (S.le.trans e2) (Df.bx (.inr rfl)) p
theorem hu64 {k : Nat} {B : Around} (hr : Room k B) : B.units + 64 < cLine := Nat.lt_of_le_of_lt (by omega) hr.un
theorem cx_K {CX : CXT} {P : Program} {w : World} {mg : Str → Option Value} {base : Heap} {N : List Str} {q : Str} {sc : Scope} {f : Addr} {cdv : Value} {B : Around} {outer : List PySem.Env} {s : Shared} {H : Hp} {E : XK} :
    (cxOf CX P w K mg base N q sc f cdv B outer s H E).nox.K = K := rfl
theorem cx_K2 {CX : CXT} {P : Program} {w : World} {mg : Str → Option Value} {base : Heap} {N : List Str} {q : Str} {sc : Scope} {f : Addr} {cdv : Value} {B : Around} {outer : List PySem.Env} {s : Shared} {H : Hp} {E : XK} :
    (cxOf CX P w K mg base N q sc f cdv B outer s H E).K = K := rfl

/-! isinstance -/
def tyN : PyData → String
  | .none => "NoneType"
  | .bool _ => "bool"
  | .int _ => "int"
  | .str _ => "str"
  | .list _ => "list"
  | .tuple _ => "tuple"
  | .dict _ => "list"
theorem Df.ty (ok : Ok W) {v : V} {d : PyData} (h : Df K W v d) : TyX K W.H v (.type (tyN d)) := by
  cases h with
  | non => exact .base .non
  | bl b => exact .base (.bl b)
  | int i => exact .base (.int i)
  | str x => exact .base (.str x)
  | bx h =>
    obtain ⟨_, _, _, e⟩ := ok.bx _ h
    exact .base (.lst e)
  | @lst a xs ds q _ =>
    have q' : SqL K W.H a xs := q.elim (fun q => .inl q.1) fun q => q _
    rcases q' with (q | ⟨o, q⟩) | ⟨o, its, n, h1, h2, _⟩
    · exact .base (.lst q)
    · exact .base (.frz q)
    · exact .kList h1 h2
  | @tup a xs ds q _ =>
    rcases q with (q | ⟨o, q⟩) | ⟨o, its, n, h1, h2, _⟩
    · exact .base (.tup q)
    · exact .fTuple q
    · exact .kTuple h1 h2
theorem wpE_isi {n : String} {P : PyData → Prop} (h : wpE K W0 te Γ fun d => ∃ b, kitB (tyN d) n = some b ∧ P (.bool b)) : wpE K W0 (tCB (rIsi K) (tCons te (tCons (tC (.ty n)) tNil))) Γ P := fun W σ S Q k =>
  h W σ S _ fun v W1 d e1 f1 ⟨b, hb, p⟩ => ⟨v, .ty n, .type (tyN d), .type n, b, rfl, .ty n, f1.ty e1.ok, kit_ty hb, k _ W1 _ e1 (.bl b) p⟩
theorem Lv.ty {v : V} {ds : List PyData} (h : Lv K W v ds) : TyX K W.H v (.type "list") := by
  obtain ⟨a, vs, rfl, q, _⟩ := h.sq
  rcases q with (q | ⟨o, q⟩) | ⟨o, its, n, h1, h2, _⟩
  · exact .base (.lst q)
  · exact .base (.frz q)
  · exact .kList h1 h2
theorem wpE_isiL {n : String} {P : PyData → Prop} (h : wpL K W0 te Γ fun _ => ∃ b, kitB "list" n = some b ∧ P (.bool b)) : wpE K W0 (tCB (rIsi K) (tCons te (tCons (tC (.ty n)) tNil))) Γ P := fun W σ S Q k =>
  h W σ S _ fun v W1 d e1 f1 ⟨b, hb, p⟩ => ⟨v, .ty n, .type "list", .type n, b, rfl, .ty n, f1.ty, kit_ty hb, k _ W1 _ e1 (.bl b) p⟩
def kit2 (t a b : String) : Option Bool := match kitB t a, kitB t b with
  | some true, _ => some true
  | some false, some r => some r
  | _, _ => none
theorem kit2_any {t a b : String} {r : Bool} (h : kit2 t a b = some r) : PySem.W.kitAny K (.type t) [.type a, .type b] = some r := by
  unfold kit2 at h
  cases e1 : kitB t a with
  | none => rw [e1] at h; cases h
  | some x =>
    rw [e1] at h
    cases x with
    | true =>
      cases h
      exact kitAny_cons (kit_ty e1) (fun z => nomatch z) (fun _ => rfl)
    | false =>
      cases e2 : kitB t b with
      | none => rw [e2] at h; cases h
      | some y =>
        rw [e2] at h
        cases h
        refine kitAny_cons (kit_ty e1) (fun _ => kitAny_cons (kit_ty e2) (fun z => ?_) (fun z => z)) (fun z => nomatch z)
        rw [z]
        rfl
theorem wpE_isi2 {a b : String} {P : PyData → Prop} (h : wpE K W0 te Γ fun d => ∃ r, kit2 (tyN d) a b = some r ∧ P (.bool r)) : wpE K W0 (tCB (rIsiT K) (tCons te (tCons (tTup (tCons (tC (.ty a)) (tCons (tC (.ty b)) tNil))) tNil))) Γ P := fun W σ S Q k =>
  h W σ S _ fun v W1 d e1 f1 ⟨r, hr, p⟩ => by
    refine ⟨by show 2 ≤ sizeLine; decide, fun q hq => ?_⟩
    have e2 := e1.ok.new (u := .tup [.ty a, .ty b]) hq
    exact ⟨v, q, [.ty a, .ty b], .type (tyN d), [.type a, .type b], r, rfl, upd_same, .cons (.ty a) (.cons (.ty b) .nil), (Df.mono (e2.lf e1.ok) _ _ f1).ty e2.ok, kit2_any hr, k _ _ _ (e1.trans e2) (.bl r) p⟩

/-! comprehensions whose items are told by a function -/
theorem wpT_yes {P : Bool → Prop} (p : P true) : wpT K W0 tYes Γ P := fun W σ S Q k => k W true (.refl S.ok) p
theorem take_succ {α : Type} {l : List α} {i : Nat} {d : α} (h : l[i]? = some d) : l.take (i + 1) = l.take i ++ [d] := by
  rw [List.take_add_one, h]
  rfl
theorem wpIc.imp {wi : TI} {P Q : List PyData → Prop} (h : wpIc K W0 wi Γ P) (i : ∀ d, P d → Q d) : wpIc K W0 wi Γ Q := fun W σ S R k => h W σ S R fun W' J d e f p => k W' J d e f (i d p)
theorem wpI.imp {wi : TI} {P Q : List PyData → Prop} (h : wpI K W0 wi Γ P) (i : ∀ d, P d → Q d) : wpI K W0 wi Γ Q := fun W σ S R k => h W σ S R fun W' J d e f p => k W' J d e f (i d p)
theorem wpG.imp {vs : List Nat} {g : TG} {d : PyData} {P Q : Gm → Prop} (h : wpG K W0 vs g d Γ P) (i : ∀ d, P d → Q d) : wpG K W0 vs g d Γ Q := fun W σ S v f R k => h W σ S v f R fun σ' Γ' W' e s w p => k σ' Γ' W' e s w (i Γ' p)
theorem wpN_map {wi : TI} {g : TG} {vs : List Nat} {P : List PyData → Prop} (f : PyData → PyData)
    (h : wpIc K W0 wi Γ fun ds => ds.length < 10000000 ∧ (∀ d, d ∈ ds → wpG K W0 vs g d (wipeG Γ vs) fun Γ' => wpE K W0 te Γ' fun y => y = f d) ∧ P (ds.map f)) : wpN K W0 (tLc wi g tYes te vs) Γ P := by
  refine wpN_lc (h.imp fun ds ⟨hz, hs, p⟩ => ⟨hz, fun i acc => acc = (ds.take i).map f, rfl, fun i d acc hd hI _ => ?_, fun acc hI _ => ?_⟩)
  · refine (hs d (List.mem_of_getElem? hd)).imp fun Γ' q => wpT_yes ⟨fun _ => q.imp fun y hy => ?_, fun z => nomatch z⟩
    show acc ++ [y] = (ds.take (i + 1)).map f
    rw [hI, hy, take_succ hd, List.map_append]
    rfl
  · rw [hI, List.take_length]
    exact p
theorem wpN_filter {wi : TI} {g : TG} {vs : List Nat} {tt : TT} {P : List PyData → Prop} (c : PyData → Bool) (f : PyData → PyData)
    (h : wpIc K W0 wi Γ fun ds => ds.length < 10000000 ∧ (∀ d, d ∈ ds → wpG K W0 vs g d (wipeG Γ vs) fun Γ' => wpT K W0 tt Γ' fun b => b = c d ∧ (b = true → wpE K W0 te Γ' fun y => y = f d)) ∧ P ((ds.filter c).map f)) : wpN K W0 (tLc wi g tt te vs) Γ P := by
  refine wpN_lc (h.imp fun ds ⟨hz, hs, p⟩ => ⟨hz, fun i acc => acc = ((ds.take i).filter c).map f, rfl, fun i d acc hd hI _ => ?_, fun acc hI _ => ?_⟩)
  · refine (hs d (List.mem_of_getElem? hd)).imp fun Γ' q => wpT_imp q fun b ⟨hb, h1⟩ => ⟨fun e => (h1 e).imp fun y hy => ?_, fun e => ?_⟩
    · show acc ++ [y] = ((ds.take (i + 1)).filter c).map f
      rw [hI, hy, take_succ hd, List.filter_append, List.filter_cons, ← hb, e, if_pos rfl, List.map_append]
      rfl
    · show acc = ((ds.take (i + 1)).filter c).map f
      rw [hI, take_succ hd, List.filter_append, List.filter_cons, ← hb, e, if_neg Bool.false_ne_true]
      simp
  · rw [hI, List.take_length]
    exact p
/-- items told by a relation -/
theorem wpN_rel {wi : TI} {g : TG} {vs : List Nat} {P : List PyData → Prop} (R : PyData → Prop)
    (h : wpIc K W0 wi Γ fun ds => ds.length < 10000000 ∧ (∀ d, d ∈ ds → wpG K W0 vs g d (wipeG Γ vs) fun Γ' => wpE K W0 te Γ' R) ∧ ∀ ys, ys.length = ds.length → (∀ y, y ∈ ys → R y) → P ys) : wpN K W0 (tLc wi g tYes te vs) Γ P := by
  refine wpN_lc (h.imp fun ds ⟨hz, hs, p⟩ => ⟨hz, fun i acc => acc.length = (ds.take i).length ∧ ∀ y, y ∈ acc → R y, ⟨rfl, fun _ h => nomatch h⟩, fun i d acc hd hI _ => ?_, fun acc hI _ => ?_⟩)
  · refine (hs d (List.mem_of_getElem? hd)).imp fun Γ' q => wpT_yes ⟨fun _ => q.imp fun y hy => ⟨?_, fun z hz => ?_⟩, fun z => nomatch z⟩
    · rw [List.length_append, hI.1, take_succ hd, List.length_append]
      rfl
    · rcases List.mem_append.mp hz with q | q
      · exact hI.2 z q
      · rw [List.mem_singleton.mp q]
        exact hy
  · have h1 : acc.length = (ds.take ds.length).length := hI.1
    rw [List.take_length] at h1
    exact p acc h1 hI.2
/-- a text's signs -/
theorem mem_signs {x : Str} {d : PyData} (h : d ∈ signsD x) : ∃ c, c ∈ x.cps.toList ∧ d = .str ⟨#[c]⟩ := by
  unfold signsD at h
  obtain ⟨c, h1, h2⟩ := List.mem_map.mp h
  exact ⟨c, h1, h2.symm⟩
theorem mem_rngD {lo : Int} {n : Nat} {d : PyData} (h : d ∈ rngD lo n) : ∃ i : Nat, i < n ∧ d = .int (lo + i) := by
  unfold rngD at h
  obtain ⟨i, h1, h2⟩ := List.mem_map.mp h
  exact ⟨i, List.mem_range.mp h1, h2.symm⟩
theorem atI_ok {α : Type} {xs : List α} {i : Int} (h0 : 0 ≤ i) (h1 : i < xs.length) : ∃ x, atI xs i = some x ∧ x ∈ xs := by
  obtain ⟨n, rfl⟩ := Int.eq_ofNat_of_zero_le h0
  have hn : n < xs.length := by omega
  exact ⟨xs[n], atI_nat (List.getElem?_eq_getElem hn), List.getElem_mem hn⟩
theorem atI_end {α : Type} {xs : List α} (h : xs ≠ []) : ∃ x, atI xs (-1) = some x ∧ x ∈ xs := by
  have e := List.dropLast_concat_getLast h
  refine ⟨xs.getLast h, ?_, List.getLast_mem h⟩
  have q := atI_last xs.dropLast (xs.getLast h)
  rw [e] at q
  exact q
/-- an item of a list at a place that is there, which isn't told -/
theorem opR_ixLany {ds : List PyData} {i : Int} {P : PyData → Prop} (h0 : 0 ≤ i) (h1 : i < ds.length) (p : ∀ d, d ∈ ds → P d) : opR K (rIx K) (.list ds) (.int i) P := by
  obtain ⟨d, h2, h3⟩ := atI_ok h0 h1
  exact opR_ixL h2 (p d h3)
theorem opLR_ixany {ds : List PyData} {i : Int} {P : PyData → Prop} (h0 : 0 ≤ i) (h1 : i < ds.length) (p : ∀ d, d ∈ ds → P d) : opLR K (rIx K) ds (.int i) P := by
  obtain ⟨d, h2, h3⟩ := atI_ok h0 h1
  exact opLR_ix h2 (p d h3)
theorem opR_ixTany {ds : List PyData} {i : Int} {P : PyData → Prop} (h0 : 0 ≤ i) (h1 : i < ds.length) (p : ∀ d, d ∈ ds → P d) : opR K (rIx K) (.tuple ds) (.int i) P := by
  obtain ⟨d, h2, h3⟩ := atI_ok h0 h1
  exact opR_ixT h2 (p d h3)
theorem opR_ixSany {z : Str} {i : Int} {P : PyData → Prop} (hz : z.length ≤ sizeLine) (h0 : 0 ≤ i) (h1 : i < z.length) (p : ∀ c, c ∈ z.cps.toList → P (.str ⟨#[c]⟩)) : opR K (rIx K) (.str z) (.int i) P := by
  obtain ⟨d, h2, h3⟩ := atI_ok (xs := z.cps.toList) h0 (by simpa [Str.length] using h1)
  exact opR_ixS hz h2 (p d h3)
theorem mem_ints {ns : List Int} {d : PyData} (h : d ∈ ns.map PyData.int) : ∃ n, d = .int n := by
  obtain ⟨n, _, h⟩ := List.mem_map.mp h
  exact ⟨n, h.symm⟩
theorem opR_ixInts {ns : List Int} {i : Int} {P : PyData → Prop} (h0 : 0 ≤ i) (h1 : i < ns.length) (p : ∀ n : Int, P (.int n)) : opR K (rIx K) (.list (ns.map PyData.int)) (.int i) P :=
  opR_ixLany h0 (by rw [List.length_map]; exact h1) fun d hd => by
    obtain ⟨n, rfl⟩ := mem_ints hd
    exact p n
theorem opR_ix01 {a c : Int} {b : Bool} {P : PyData → Prop} (p : ∀ m : Int, P (.int m)) : opR K (rIx K) (.list [.int a, .int c]) (.int (if b = true then 1 else 0)) P := by
  cases b with
  | true => exact opR_ixL (d := .int c) rfl (p c)
  | false => exact opR_ixL (d := .int a) rfl (p a)
/-- an item of a display of texts -/
def txD (n : Nat) : PyData → Bool
  | .str x => txB n x
  | _ => false
theorem opR_ixSt {ds : List PyData} {i : Int} {P : PyData → Prop} (n : Nat) (h : ds.all (txD n) = true) (h0 : 0 ≤ i) (h1 : i < ds.length) (p : ∀ x : Str, Tx n x → P (.str x)) : opR K (rIx K) (.list ds) (.int i) P :=
  opR_ixLany h0 h1 fun d hd => by
    have q := List.all_eq_true.mp h d hd
    cases d with
    | str x => exact p x (.of q)
    | _ => cases q
theorem opR_ixSt' {ds : List PyData} {i : Int} {P : PyData → Prop} (n : Nat) (h : ∀ d ∈ ds, ∃ x, d = .str x ∧ Tx n x) (h0 : 0 ≤ i) (h1 : i < ds.length) (p : ∀ x : Str, Tx n x → P (.str x)) : opR K (rIx K) (.list ds) (.int i) P :=
  opR_ixLany h0 h1 fun d hd => by
    obtain ⟨x, rfl, hx⟩ := h d hd
    exact p x hx
/-- a sign of a text -/
theorem opR_ixSx {z : Str} {i : Int} {P : PyData → Prop} (n : Nat) (hz : Tx n z) (hn : n ≤ 1000000) (h0 : 0 ≤ i) (h1 : i < z.length) (p : ∀ c, c ∈ z.cps.toList → c < 1114112 → P (.str ⟨#[c]⟩)) : opR K (rIx K) (.str z) (.int i) P :=
  opR_ixSany (by have := hz.1; have hs : sizeLine = 16777216 := sizeLine_eq; omega) h0 h1 fun c hc => p c hc (hz.2 c hc)
theorem add_tx {n m : Nat} {i j : Str} {P : PyData → Prop} (hi : Tx n i) (hj : Tx m j) (hn : n + m ≤ 1000000) (p : ∀ u, Tx (n + m) u → P (.str u)) : opR K rADD (.str i) (.str j) P :=
  add_str (by have := hi.1; have := hj.1; have hs : sizeLine = 16777216 := sizeLine_eq; omega) (p _ (hi.app hj))
theorem mul_tx {n : Nat} {z : Str} {k : Int} {P : PyData → Prop} (hz : Tx n z) (hn : n ≤ 1000) (h1 : 2 ≤ k) (h2 : k ≤ 1000) (p : ∀ u, Tx (n * k.toNat) u → P (.str u)) : opR K rMUL (.str z) (.int k) P :=
  mul_str h1 h2 (Nat.le_trans hz.1 hn) fun u hu hc => p u ⟨by rw [hu]; exact Nat.mul_le_mul_right _ hz.1, fun c h => hz.2 c (hc c h)⟩
/-- texts of one sign each, joined -/
theorem strs1_of : ∀ {ys : List PyData}, (∀ y, y ∈ ys → ∃ c, y = .str ⟨#[c]⟩ ∧ c < 1114112) → ∃ cs : List Nat, ys = (cs.map fun c => (⟨#[c]⟩ : Str)).map PyData.str ∧ ∀ c ∈ cs, c < 1114112
  | [], _ => ⟨[], rfl, fun _ h => nomatch h⟩
  | y :: ys, h => by
    obtain ⟨c, rfl, hc⟩ := h y List.mem_cons_self
    obtain ⟨cs, rfl, hcs⟩ := strs1_of fun z hz => h z (List.mem_cons_of_mem _ hz)
    exact ⟨c :: cs, rfl, fun d hd => (List.mem_cons.mp hd).elim (fun e => by rw [e]; exact hc) (hcs d)⟩
theorem sum_ones : ∀ cs : List Nat, ((cs.map fun c => (⟨#[c]⟩ : Str)).map (·.length)).sum = cs.length
  | [] => rfl
  | c :: cs => by
    rw [List.map_cons, List.map_cons, List.sum_cons, sum_ones cs, List.length_cons]
    show 1 + cs.length = cs.length + 1
    omega
theorem join_ones_cps : ∀ (cs : List Nat) (a : Array Nat), (cs.map fun c => (⟨#[c]⟩ : Str)).foldl (fun acc p => acc ++ (Str.ofString "").cps ++ p.cps) a = a ++ cs.toArray
  | [], a => by simp
  | c :: cs, a => by
    rw [List.map_cons, List.foldl_cons, join_ones_cps cs]
    show a ++ #[] ++ #[c] ++ cs.toArray = a ++ (c :: cs).toArray
    apply Array.ext'
    simp
theorem join_ones (cs : List Nat) : Txt.join (Str.ofString "") (cs.map fun c => (⟨#[c]⟩ : Str)) = ⟨cs.toArray⟩ := by
  show Builtin.Str.glued _ _ = _
  unfold Builtin.Str.glued
  cases cs with
  | nil => rfl
  | cons c cs =>
    have h := join_ones_cps cs #[c]
    show (⟨(cs.map fun c => (⟨#[c]⟩ : Str)).foldl (fun acc p => acc ++ (Str.ofString "").cps ++ p.cps) #[c]⟩ : Str) = _
    rw [h]
    congr 1
    apply Array.ext'
    simp
/-- ''.join of texts of one sign each -/
theorem wpE_join1 {P : PyData → Prop} (n : Nat) (hn : n ≤ 1000000) (h : wpL K W0 te Γ fun ds => ds.length ≤ n ∧ (∀ y, y ∈ ds → ∃ c, y = .str ⟨#[c]⟩ ∧ c < 1114112) ∧ ∀ u, Tx n u → P (.str u)) : wpE K W0 (tM1 (rJoin K) (tC (.str (Str.ofString ""))) te) Γ P := by
  refine wpE_join (wpE_str ⟨_, rfl, ?_⟩)
  intro W σ S Q k
  refine h W σ S Q fun v W' ds e l ⟨h1, h2, h3⟩ => ?_
  obtain ⟨cs, rfl, hc⟩ := strs1_of h2
  rw [List.length_map, List.length_map] at h1
  refine k v W' _ e l ⟨_, rfl, ?_, ?_⟩
  · rw [sum_ones, List.length_map, show (Str.ofString "").length = 0 from rfl]
    omega
  · rw [join_ones]
    exact h3 _ ⟨by show cs.toArray.size ≤ n; rw [List.size_toArray]; exact h1, fun c h => hc c (by simpa using h)⟩
theorem depthAll_le : ∀ (ds : List PyData) (n : Nat), (∀ d ∈ ds, d.depth ≤ n) → PyData.depthAll ds ≤ n
  | [], n, _ => Nat.zero_le _
  | d :: ds, n, h => by
    unfold PyData.depthAll
    exact Nat.max_le.mpr ⟨h d List.mem_cons_self, depthAll_le ds n fun e he => h e (List.mem_cons_of_mem _ he)⟩
theorem canLayAll_of : ∀ (ds : List PyData), (∀ d ∈ ds, d.canLay0 = true) → PyData.canLayAll0 ds = true
  | [], _ => by unfold PyData.canLayAll0; rfl
  | d :: ds, h => by
    unfold PyData.canLayAll0
    rw [h d List.mem_cons_self, canLayAll_of ds fun e he => h e (List.mem_cons_of_mem _ he)]
    rfl
theorem shaped_list {ds : List PyData} (n : Nat) (hn : n < 64) (h : ∀ d ∈ ds, d.canLay0 = true ∧ d.depth ≤ n) : SeqAt.shaped (.list ds) = true := by
  unfold SeqAt.shaped PyData.canLay0 PyData.depth
  rw [canLayAll_of ds fun d hd => (h d hd).1, Bool.true_and]
  have := depthAll_le ds n fun d hd => (h d hd).2
  exact decide_eq_true (by omega)
theorem shaped_tuple {ds : List PyData} (n : Nat) (hn : n < 64) (h : ∀ d ∈ ds, d.canLay0 = true ∧ d.depth ≤ n) : SeqAt.shaped (.tuple ds) = true := by
  unfold SeqAt.shaped PyData.canLay0 PyData.depth
  rw [canLayAll_of ds fun d hd => (h d hd).1, Bool.true_and]
  have := depthAll_le ds n fun d hd => (h d hd).2
  exact decide_eq_true (by omega)
/-- .. of whole numbers -/
def isIntD : PyData → Bool
  | .int _ => true
  | _ => false
theorem opR_ixIt {ds : List PyData} {i : Int} {P : PyData → Prop} (h : ds.all isIntD = true) (h0 : 0 ≤ i) (h1 : i < ds.length) (p : ∀ x : Int, .int x ∈ ds → P (.int x)) : opR K (rIx K) (.list ds) (.int i) P :=
  opR_ixLany h0 h1 fun d hd => by
    have q := List.all_eq_true.mp h d hd
    cases d with
    | int x => exact p x hd
    | _ => cases q
/-- xs.extend(ys), ys a new list -/
theorem go_extend {i : Nat} {xs : List PyData} (hi : Γ[i]? = some (.l xs)) (h : wpN K W0 te Γ fun ds => xs.length + ds.length < 10000000 ∧ A.nx (Γ.set i (.l (xs ++ ds)))) : go K W0 (tDrop (tBM K "list" rExtend (tVar i) (tCons te tNil))) Γ A := fun W σ D S c => by
  have hsz : sizeLine = 16777216 := sizeLine_eq
  obtain ⟨a, vs, h1, h2, h3, h4, h5, h6⟩ := S.varL hi
  refine ⟨_, h1, .inl ⟨rfl, vs, .inl (.inl h5)⟩, h W σ S _ fun v W1 d e n ⟨hz, p⟩ => ?_⟩
  have S1 := S.mono e
  obtain ⟨a', vs', g1, g2, g3, g4, g5, g6⟩ := S1.varL hi
  rw [h1] at g1
  cases g1
  obtain ⟨b, us, rfl, b2, b3, b4, b5, b6⟩ := n
  refine ⟨a, b, vs', us, rfl, rfl, g5, b5, by rw [g6.length, b6.length]; omega, ?_⟩
  have lf := e.ok.mutLf (o' := .lst (vs' ++ us)) g5 trivial g3 g4
  refine c.nx _ ⟨W1.Fz, W1.B, upd W1.H a (.lst (vs' ++ us))⟩ σ ((e.lf S.ok).trans lf) (S1.mutL hi h1 g2 g3 g4 g5 lf ((Dfs.mono lf _ _ g6).append (Dfs.mono lf _ _ b6))) p
/-- an own list is tested by its truth; popped -/
theorem wpT_truL {i : Nat} {xs : List PyData} {P : Bool → Prop} (hi : Γ[i]? = some (.l xs)) (p : P (!xs.isEmpty)) : wpT K W0 (fun σ H Q => (tVar i) σ H fun x H' => ∃ k, TruV K x H' k ∧ Q k H') Γ P := fun W σ S Q k => by
  obtain ⟨a, vs, h1, h2, h3, h4, h5, h6⟩ := S.varL hi
  refine ⟨_, h1, !xs.isEmpty, .inl ⟨vs, .inl (.inl h5), ?_⟩, k W _ (.refl S.ok) p⟩
  cases h6 <;> rfl
end

/-! ### the rules with K by its name (so that they stand in a comprehension's block, too) -/
section
variable {X : Cx} {K : PySem.W.Frag} {e o : Expr} {es : List Expr} {te to : TE} {t : TA} {tg : Expr} {pos apos cpos p : Pos}
theorem ix_K (h : X.K = K) : IxR X (rIx K) := by
  subst h
  exact ix_seq
theorem sl_K (h : X.K = K) : SlR X (rSL K) := by
  subst h
  exact sl_SL
theorem in_K (h : X.K = K) : OpR X (compareOp .In) (rIN K) := by
  subst h
  exact op_IN
theorem nin_K (h : X.K = K) : OpR X (compareOp .NotIn) (rNIN K) := by
  subst h
  exact op_NIN
theorem eq_K (h : X.K = K) (hu : X.A.units + 64 < cLine) : OpR X (compareOp .Eq) (rEqD K) := by
  subst h
  exact op_eqD hu
theorem ne_K (h : X.K = K) (hu : X.A.units + 64 < cLine) : OpR X (compareOp .NotEq) (rNeD K) := by
  subst h
  exact op_neD hu
theorem len_K (h : X.K = K) : CallR X (.builtin "len") (rLen K) := by
  subst h
  exact call_len
theorem all_K (h : X.K = K) (hc : X.calm = true) : CallR X (.builtin "all") (rAll K) := by
  subst h
  exact cr_all hc
theorem any_K (h : X.K = K) (hc : X.calm = true) : CallR X (.builtin "any") (rAny K) := by
  subst h
  exact cr_any hc
theorem isi_K (h : X.K = K) : CallR X (.builtin "isinstance") (rIsi K) := by
  subst h
  exact call_isi
theorem isiT_K (h : X.K = K) : CallR X (.builtin "isinstance") (rIsiT K) := by
  subst h
  exact call_isiT
abbrev rLof (K : PySem.W.Frag) : List V → Hp → VK → Prop := fun xs H Q => ∃ p ys, xs = [.ref p] ∧ (SqL K H p ys ∨ SqT K H p ys) ∧ ∀ l, H l = none → Q (.ref l) (upd H l (.lst ys))
theorem lof_K (h : X.K = K) : CallR X (.type "list") (rLof K) := by
  subst h
  exact call_list_of
abbrev rTof (K : PySem.W.Frag) : List V → Hp → VK → Prop := fun xs H Q => ∃ p ys, xs = [.ref p] ∧ ((SqL K H p ys ∧ ∀ l, H l = none → Q (.ref l) (upd H l (.tup ys))) ∨ (SqT K H p ys ∧ Q (.ref p) H))
theorem tof_K (h : X.K = K) : CallR X (.type "tuple") (rTof K) := by
  subst h
  exact call_tuple_of
theorem il_K (h : X.K = K) (hl : PE X e te) : PI X tg e (iList K te) := by
  subst h
  exact pi_list hl
theorem it_K (h : X.K = K) (hl : PE X e te) : PI X tg e (iTup K te) := by
  subst h
  exact pi_tup hl
theorem gt_K {es : List Expr} {k : Nat} {t : TGs} {n : Nat} (hK : X.K = K) (hc : X.calm = true) (h : PGs X es t)
    (hn : (assignEach es X.env).length = n := by rfl) (hst : (assignEach es X.env).findIdx? (·.1) = none := by rfl) : PG X (.Tuple es k pos) (gTup K n t) := by
  subst hK
  exact pg_tup hc h hn hst
theorem jn_K (h : X.K = K) (ho : PE X o to) (he : PE X e te) (hs : starEach [e] X.env = [(false, eval e X.env)] := by rfl) (hbase : attributeBase o "join" X.env (eval o X.env) = eval o X.env := by rfl) (hline : (apos.endLine == pos.line) = true := by rfl) :
    PE X (.Call (.Attribute o "join" apos) [e] [] pos) (tM1 (rJoin K) to te) := by
  subst h
  exact pe_join ho he hs hbase hline
theorem ap_K (h : X.K = K) (ho : PE X o to) (he : PE X e te)
    (hbase : attributeBase o "append" X.env (eval o X.env) = eval o X.env := by rfl) (hline : (apos.endLine == cpos.line) = true := by rfl) (hs : starEach [e] X.env = (false, eval e X.env) :: starEach [] X.env := by rfl) (hfew : ((backTo cpos (starEach [e] X.env)).all (fun x => !x.1) && (backToKw cpos (keywordEach [] X.env)).all (fun x => x.1.isSome)
      && decide ([e].length + ([] : List Keyword).length + (if ([] : List Keyword).isEmpty then 0 else 1) < 30)) = true := by rfl) (hplain : (backTo cpos (starEach [] X.env)).any (·.1) = false := by rfl) : PE X (.Call (.Attribute o "append" apos) [e] [] cpos) (tBM K "list" rAppend to (tCons te tNil)) := by
  subst h
  exact pe_bm PySem.F.plainAttrs_list PySem.F.slot_list_append PySem.F.type_list_append mt_append ho (pa_cons he pa_nil hs) hbase hfew hline hs hplain
theorem ex_K (h : X.K = K) (ho : PE X o to) (he : PE X e te)
    (hbase : attributeBase o "extend" X.env (eval o X.env) = eval o X.env := by rfl) (hline : (apos.endLine == cpos.line) = true := by rfl) (hs : starEach [e] X.env = (false, eval e X.env) :: starEach [] X.env := by rfl) (hfew : ((backTo cpos (starEach [e] X.env)).all (fun x => !x.1) && (backToKw cpos (keywordEach [] X.env)).all (fun x => x.1.isSome)
      && decide ([e].length + ([] : List Keyword).length + (if ([] : List Keyword).isEmpty then 0 else 1) < 30)) = true := by rfl) (hplain : (backTo cpos (starEach [] X.env)).any (·.1) = false := by rfl) : PE X (.Call (.Attribute o "extend" apos) [e] [] cpos) (tBM K "list" rExtend to (tCons te tNil)) := by
  subst h
  exact pe_bm PySem.F.plainAttrs_list PySem.F.slot_list_extend PySem.F.type_list_extend mt_extend ho (pa_cons he pa_nil hs) hbase hfew hline hs hplain
theorem pop_K (h : X.K = K) (ho : PE X o to)
    (hbase : attributeBase o "pop" X.env (eval o X.env) = eval o X.env := by rfl) (hline : (apos.endLine == cpos.line) = true := by rfl) : PE X (.Call (.Attribute o "pop" apos) [] [] cpos) (tBM0 K "list" rPop to) := by
  subst h
  exact pe_bm0 PySem.F.plainAttrs_list PySem.F.slot_list_pop PySem.F.type_list_pop mt_pop ho hbase hline
theorem st_K (h : X.K = K) (he : PE X e te) (hr : PA X es t) (hs : starEach (.Starred e p :: es) X.env = (true, eval e X.env) :: starEach es X.env := by rfl) : PA X (.Starred e p :: es) (StX.tStar K te t) := by
  subst h
  exact StX.pa_star he hr hs
end

/-! ### the law's own promise, at the heap behind the top -/
def preLaw (ds : List PyData) : Prop := ∃ ns : List Int, ds = [.list (ns.map PyData.int)] ∧ ns.length ≤ 63
def postLaw (_ : List PyData) (r : Rs) : Prop := r = .d (.bool true)
def spLaw (K : PySem.W.Frag) : Sp := spF K preLaw postLaw
theorem law_start {K : PySem.W.Frag} {H : Hp} {a : Addr} {ns : List Int} {E : XK} (hl : ns.length ≤ 63) (hS : SqL K H a (ns.map V.int)) : spLaw K [.ref a] H (fun v _ => v = .bl true) E := by
  refine ⟨⟨fun b => H b ≠ none, fun _ => False, H⟩, [.list (ns.map PyData.int)], rfl, ⟨fun _ h => h, fun _ h => h.elim, fun _ _ h => h⟩, .cons (.lst ?_ ints_dfs) .nil, ⟨ns, rfl, hl⟩, fun v W' r _ hr e => ?_⟩
  · rcases hS with h | h
    · refine .inl ⟨h, ?_⟩
      rcases h with h | ⟨o, h⟩ <;> · show H a ≠ none; rw [h]; exact fun z => nomatch z
    · exact .inr fun _ => .inr h
  · cases e
    exact hr.bool_inv
end G

set_option Elab.async false
set_option linter.all false
set_option autoImplicit false
set_option maxRecDepth 100000
namespace My
open PySem L2 G
def topS (i : Nat) : Stmt := PySem.Challenge.pw_leanround_k02_names.main.body.getD i (.Pass ⟨0, 0, 0, 0⟩)
abbrev s_is_name : Stmt := topS 4
abbrev N_is_name : List Str := ["text", "letter"]
abbrev P_is_name : List Str := ["text"]
theorem sc_is_name : FnScope N_is_name P_is_name (defScope s_is_name) := ⟨rfl, rfl, rfl, by decide +kernel, rfl, by decide +kernel, by decide +kernel⟩
abbrev s_box : Stmt := topS 6
abbrev N_box : List Str := ["_law_script", "_law_k", "_law_cell", "_law_seed"]
abbrev P_box : List Str := ["_law_script", "_law_k"]
theorem sc_box : FnScope N_box P_box (defScope s_box) := ⟨rfl, rfl, rfl, by decide +kernel, rfl, by decide +kernel, by decide +kernel⟩
abbrev s_take : Stmt := topS 7
abbrev N_take : List Str := ["_law_box_here", "_law_many", "_law_digit", "_law_one"]
abbrev P_take : List Str := ["_law_box_here", "_law_many"]
theorem sc_take : FnScope N_take P_take (defScope s_take) := ⟨rfl, rfl, rfl, by decide +kernel, rfl, by decide +kernel, by decide +kernel⟩
abbrev s_word : Stmt := topS 8
abbrev N_word : List Str := ["_law_box_here", "_law_letters", "_law_k"]
abbrev P_word : List Str := ["_law_box_here"]
theorem sc_word : FnScope N_word P_word (defScope s_word) := ⟨rfl, rfl, rfl, by decide +kernel, rfl, by decide +kernel, by decide +kernel⟩
abbrev s_text : Stmt := topS 9
abbrev N_text : List Str := ["_law_box_here", "_law_form", "_law_word_here", "_law_signs", "_law_at", "_law_other", "_law_sign"]
abbrev P_text : List Str := ["_law_box_here"]
theorem sc_text : FnScope N_text P_text (defScope s_text) := ⟨rfl, rfl, rfl, by decide +kernel, rfl, by decide +kernel, by decide +kernel⟩
abbrev s_due : Stmt := topS 10
abbrev N_due : List Str := ["_law_text_here", "_law_sign"]
abbrev P_due : List Str := ["_law_text_here"]
theorem sc_due : FnScope N_due P_due (defScope s_due) := ⟨rfl, rfl, rfl, by decide +kernel, rfl, by decide +kernel, by decide +kernel⟩
abbrev s_law : Stmt := topS 11
abbrev N_law : List Str := ["_law_script", "_law_texts", "_law_k", "_law_box_here", "_law_text_here", "_law_found", "_law_turn"]
abbrev P_law : List Str := ["_law_script"]
theorem sc_law : FnScope N_law P_law (defScope s_law) := ⟨rfl, rfl, rfl, by decide +kernel, rfl, by decide +kernel, by decide +kernel⟩
structure FnT (K : PySem.W.Frag) (mg : Str → Option Value) (name : Str) (st : Stmt) (ps : List Str) where
  f : Addr
  fd : FuncData
  F : Fun K name name st f fd
  b : Binds K fd ps []
  m : mg name = some (.ref f)
structure Top (K : PySem.W.Frag) (mg : Str → Option Value) where
  b_all : mg "all" = none
  b_bool : mg "bool" = none
  b_int : mg "int" = none
  b_isinstance : mg "isinstance" = none
  b_len : mg "len" = none
  b_max : mg "max" = none
  b_min : mg "min" = none
  b_range : mg "range" = none
  t_LETTERS : Tok
  m_LETTERS : mg "LETTERS" = some (.str "abcdefghijklmnopqrstuvwxyz" t_LETTERS)
  t_LONGEST : Tok
  m_LONGEST : mg "LONGEST" = some (.int 8 t_LONGEST)
  a_WORDS : Addr
  m_WORDS : mg "WORDS" = some (.ref a_WORDS)
  k_WORDS : ∀ H, SqT K H a_WORDS [.str "if", .str "to", .str "lefts"]
  x_is_name : FnT K mg "is_name" s_is_name P_is_name
  x_box : FnT K mg "_law_box" s_box P_box
  x_take : FnT K mg "_law_take" s_take P_take
  x_word : FnT K mg "_law_word" s_word P_word
  x_text : FnT K mg "_law_text" s_text P_text
  x_due : FnT K mg "_law_due" s_due P_due
  x_law : FnT K mg "law" s_law P_law

def preTake (ds : List PyData) : Prop := ∃ n : Int, ds = [boxD, .int n] ∧ 0 < n ∧ n.natAbs < 2 ^ 200
def postTake (ds : List PyData) (r : Rs) : Prop := ∃ n x : Int, ds = [boxD, .int n] ∧ r = .d (.int x) ∧ 0 ≤ x ∧ x < n
section
variable {K : PySem.W.Frag} {W0 : Wd} {Γ : Gm} {E : XK} {te : TE}
theorem w_take' {i : Nat} {P : PyData → Prop} (hi : Γ[i]? = some (.d boxD)) (h : wpE K W0 te Γ fun d => ∃ n : Int, d = .int n ∧ 0 < n ∧ n.natAbs < 2 ^ 200 ∧ ∀ x : Int, 0 ≤ x → x < n → P (.int x)) :
    wpE K W0 (tCall (spF K preTake postTake) [] E (tCons (tVar i) (tCons te tNil))) Γ P := by
  refine wpE_call (wpA_cons (wpE_var hi (wpA_cons (h.imp fun d ⟨n, e, h0, h1, p⟩ => wpA_nil ⟨⟨n, by rw [e], h0, h1⟩, ?_⟩))))
  rintro r ⟨n', x, e', rfl, q0, q1⟩
  rw [e] at e'
  cases e'
  exact p x q0 q1
theorem w_take {i : Nat} {n : Int} {P : PyData → Prop} (hi : Γ[i]? = some (.d boxD)) (h0 : 0 < n) (h1 : n.natAbs < 2 ^ 200) (p : ∀ x : Int, 0 ≤ x → x < n → P (.int x)) :
    wpE K W0 (tCall (spF K preTake postTake) [] E (tCons (tVar i) (tCons (tC (.int n)) tNil))) Γ P := w_take' hi (wpE_int ⟨n, rfl, h0, h1, p⟩)
end
local macro_rules | `(tactic| walk_at "ar") => `(tactic| ((try simp only [List.length_map, List.length_cons, List.length_nil, decide_eq_true_eq, decide_eq_false_iff_not, Int.natCast_add] at *); omega))
local macro_rules | `(tactic| walk_at "na") => `(tactic| ((refine Nat.lt_of_lt_of_le (m := 1000000000000) ?_ (by decide)); (try simp only [Str.length_append]); omega))
local macro_rules | `(tactic| walk_at "ln") => `(tactic| ((have hsz : sizeLine = 16777216 := sizeLine_eq); (try simp only [Str.length_append]); first | omega | decide | decide +kernel | (refine Nat.le_trans (Nat.add_le_add (b := 1000000) (d := 1000000) ?_ ?_) (by decide +kernel) <;> first | omega | decide +kernel | (show 1 ≤ 1000000; decide))))
/-! steps: walk_at "g" takes one step where it is plain which -/
local macro_rules | `(tactic| walk_at "g") => `(tactic| first
  | with_reducible refine go_seq ?_
  | (with_reducible refine go_if ?_)
  | (with_reducible refine go_par ?_)
  | (with_reducible refine go_retN ?_)
  | (with_reducible refine go_retL (wpN_lst ?_))
  | (with_reducible refine go_ret ?_)
  | ((with_reducible refine' go_asgBox ?k1 ?k2 ?k3 ?_); (case k1 => rfl); (case k2 => decide); (case k3 => decide))
  | (with_reducible refine go_asgN (wpN_lst ?_))
  | (with_reducible refine go_asg ?_)
  | (with_reducible refine go_next ?_)
  | (with_reducible refine go_brk ?_)
  | (with_reducible refine go_cont ?_)
  | ((with_reducible refine' go_append ?k1 ?_); (case k1 => rfl))
  | ((with_reducible refine' go_extend ?k1 ?_); (case k1 => rfl))
  | (with_reducible refine go_drop ?_)
  | (with_reducible refine wpT_test ?_)
  | (with_reducible refine wpT_B ?_)
  | (with_reducible refine wpT_not ?_)
  | (with_reducible refine wpT_and ?_)
  | (with_reducible refine wpT_or ?_)
  | (with_reducible refine wpE_int ?_)
  | (with_reducible refine wpE_str ?_)
  | (with_reducible refine wpE_bl ?_)
  | (with_reducible refine wpE_non ?_)
  | ((with_reducible refine' wpE_var ?k1 ?_); (case k1 => rfl))
  | (with_reducible refine wpE_chain ?_)
  | (with_reducible refine wpE_andV ?_)
  | (with_reducible refine wpE_orV ?_)
  | (with_reducible refine wpE_notV ?_)
  | (with_reducible refine wpE_if ?_)
  | (with_reducible refine wpE_tup ?_)
  | ((with_reducible refine' wpE_opL (wpL_var ?k1 ?_)); (case k1 => rfl))
  | (with_reducible refine wpE_op (wpE_of_N (wpN_lst ?_)))
  | (with_reducible refine wpE_op ?_)
  | (with_reducible refine wpE_un ?_)
  | ((with_reducible refine' wpE_lenL (wpL_var ?k1 ?_)); (case k1 => rfl))
  | ((with_reducible refine' w_take ?k1 ?k2 ?k3 ?_); (case k1 => rfl); (case k2 => decide); (case k3 => decide); intro x hx0 hx1)
  | ((with_reducible refine' w_take' ?k1 ?_); (case k1 => rfl))
  | (with_reducible refine wpE_call ?_)
  | (with_reducible refine wpN_call ?_)
  | (with_reducible refine wpE_isi ?_)
  | (with_reducible refine wpE_isi2 ?_)
  | (with_reducible refine wpE_all ?_)
  | (with_reducible refine wpE_any ?_)
  | (with_reducible refine wpL_of_N (wpN_lst ?_))
  | (with_reducible refine wpE_slS ?_)
  | (with_reducible refine wpE_CB ?_)
  | (with_reducible refine wpA_nil ?_)
  | (with_reducible refine wpA_cons ?_)
  | (with_reducible refine add_int ?_)
  | ((with_reducible refine' add_str ?k1 ?_); (case k1 => walk_at "ln"))
  | (with_reducible refine mul_int ?_ ?_)
  | (with_reducible refine opR_I0I ?_)
  | (with_reducible refine opR_I0B ?_)
  | (with_reducible refine opR_II ?_ ?_)
  | ((with_reducible refine' opR_box ?k1 ?k2 ?_); (case k1 => decide); (case k2 => decide); intro _)
  | (with_reducible refine opR_inS ?_)
  | (with_reducible refine opR_inT ?_)
  | (with_reducible refine opR_ninS ?_)
  | (with_reducible refine eq_int ?_)
  | (with_reducible refine ne_int ?_)
  | (with_reducible refine opR_eqD ?_ ?_ ?_)
  | (with_reducible refine opR_neD ?_ ?_ ?_)

  | ((with_reducible refine opR_ix01 ?_); intro _)
  | ((with_reducible refine' opC_lenS ?k1 ?_); (case k1 => walk_at "ln"))
  | (with_reducible refine opC_lenT ?_)
  | (with_reducible refine opC_lenL ?_)
  | (with_reducible refine opC_intB ?_)
  | (with_reducible refine opC_II ?_)
  | (with_reducible refine opU_neg ?_)
  | (with_reducible refine Exists.intro _ (And.intro rfl ?_))
  | (with_reducible refine Exists.intro _ (Exists.intro _ (And.intro rfl ?_)))
  | ((with_reducible show CMul _ _); first | exact Or.inl ⟨by decide, by decide⟩ | exact Or.inr ⟨by decide, by decide⟩ | exact Or.inl ⟨by omega, by omega⟩ | exact Or.inr ⟨by omega, by omega⟩)
  | ((with_reducible show CDivW _ _); first | exact wide_div (b := 64) (by decide) (by decide) (by decide) (by decide))
  | ((with_reducible show CPow _ _); exact ⟨by decide, by decide, by decide⟩)
  | ((with_reducible show (0 : Int) < _); first | decide | omega)
  | ((with_reducible refine And.intro (fun (hb : _ = true) => ?_) (fun (hb : _ = false) => ?_)) <;> try contradiction)
  | (with_reducible refine And.intro (Nat.le_of_ble_eq_true rfl : List.length _ ≤ sizeLine) ?_)
  | ((with_reducible refine' And.intro (?k1 : (0:Int) < _) (And.intro (?k2 : Int.natAbs _ < 2 ^ 200) ?_)); (case k1 => walk_at "ar"); (case k2 => walk_at "na"); intro x hx0 hx1)
  | ((with_reducible refine' Exists.intro _ (And.intro (And.intro (?k1 : Tx _ _) (?k2 : _ ≤ 1000000)) ?_)); (case k1 => assumption); (case k2 => decide))
  | ((with_reducible refine' And.intro (?k1 : Str.length _ ≤ sizeLine) ?_); (case k1 => walk_at "ln"))
  | (with_reducible refine wpO_no ?_)
  | (with_reducible refine wpO_some ?_)
  | dsimp only [List.set, wipeG])

section
variable {P : Program} {w : World} {K : PySem.W.Frag} {mg : Str → Option Value} {base : Heap}
/-! ### box, take -/
def preBox (ds : List PyData) : Prop := ∃ (ns : List Int) (k : Int), ds = [.list (ns.map PyData.int), .int k] ∧ 0 ≤ k
def postBox (_ : List PyData) (r : Rs) : Prop := r = .d boxD
theorem ok_box (T : Top K mg) : FnOk P w K mg base CX0 1 T.x_box.f T.x_box.fd P_box (spF K preBox postBox) := by
  have nd := sc_box.nd
  refine fn_ok T.x_box.F sc_box (fun ds h => ?_) (fun cdv A outer s H E hr => ⟨_, (pss_cons (ps_set (i := 2) nd rfl (by first | exact Or.inl rfl | exact Or.inr rfl) (pe_op op_ADD (pe_op op_MUL pe_int (pv 1)) pe_int))
    (pss_cons (ps_if (pt_cmpR op_lt (pv 1) (pe_callB (len_K (K := K) rfl) (by rfl) T.b_len (by decide +kernel) (pa_cons (pv 0) pa_nil)) (nomark _)) (pss_one (ps_set (i := 2) nd rfl (by first | exact Or.inl rfl | exact Or.inr rfl) (pe_callB (call_max2 rfl) (by rfl) T.b_max (by decide +kernel) (pa_cons (pe_ix (ix_K (K := K) rfl) (pv 0) (pv 1) (fun _ _ => rfl)) (pa_cons (pe_op op_sub pe_int (pe_ix (ix_K (K := K) rfl) (pv 0) (pv 1) (fun _ _ => rfl))) pa_nil))))) (pss_one (ps_if (pt_cmpR op_gt (pe_callB (len_K (K := K) rfl) (by rfl) T.b_len (by decide +kernel) (pa_cons (pv 0) pa_nil)) pe_int (nomark _)) (pss_one (ps_set (i := 2) nd rfl (by first | exact Or.inl rfl | exact Or.inr rfl) (pe_op op_ADD (pv 2) (pe_op op_MUL (pe_op op_mod (pe_ix (ix_K (K := K) rfl) (pv 0) (pe_op op_mod (pv 1) (pe_callB (len_K (K := K) rfl) (by rfl) T.b_len (by decide +kernel) (pa_cons (pv 0) pa_nil))) (fun _ _ => rfl)) pe_int) pe_int)))) pss_nil)))
    (pss_cons (ps_set (i := 3) nd rfl (by first | exact Or.inl rfl | exact Or.inr rfl) (pe_op op_ADD (pe_op op_mod (pe_op op_ADD (pe_op op_ADD (pe_op op_MUL (pe_op op_mod (pv 2) pe_int) pe_int) (pe_op op_MUL pe_int (pv 1))) pe_int) pe_int) pe_int))
    (pss_one (ps_ret (pe_lst (pa_cons (pe_ix (ix_K (K := K) rfl) (pe_lst (pa_cons pe_int (pa_cons (pv 2) pa_nil))) (pe_callTy call_int1 (by rfl) T.b_int (by decide +kernel) (pa_cons (pe_cmpR op_ge (pv 2) (pe_op op_pow pe_int pe_int) (nomark _)) pa_nil)) (fun _ _ => rfl)) (pa_cons (pv 3) (pa_cons pe_int pa_nil))))))))), fun W0 ds hp => ?_⟩)
  · obtain ⟨ns, k, rfl, _⟩ := h
    rfl
  obtain ⟨ns, k, rfl, h0⟩ := hp
  simp only [cx_K, cx_K2, startG, List.map, List.length, List.replicate, List.append, List.cons_append, List.nil_append]
  repeat' (first | (with_reducible refine go_retBox (wpN_lst ?_)) | walk_at "g")
  · refine opR_ixInts h0 (by walk_at "ar") fun n => ?_
    repeat' (first | (with_reducible refine go_retBox (wpN_lst ?_)) | walk_at "g")
    refine opR_ixInts h0 (by walk_at "ar") fun n => ?_
    repeat' (first | (with_reducible refine go_retBox (wpN_lst ?_)) | walk_at "g")
    exact ⟨_, _, _, rfl, rfl⟩
  · walk_at "ar"
  · rename_i hb
    have hn : 0 < (ns.length : Int) := by walk_at "ar"
    rw [List.length_map]
    refine opR_ixInts (Int.emod_nonneg _ (by omega)) (Int.emod_lt_of_pos _ hn) fun n => ?_
    repeat' (first | (with_reducible refine go_retBox (wpN_lst ?_)) | walk_at "g")
    exact ⟨_, _, _, rfl, rfl⟩
  · exact ⟨_, _, _, rfl, rfl⟩
theorem ok_take (T : Top K mg) : FnOk P w K mg base CX0 1 T.x_take.f T.x_take.fd P_take (spF K preTake postTake) := by
  have nd := sc_take.nd
  refine fn_ok T.x_take.F sc_take (fun ds h => ?_) (fun cdv A outer s H E hr => ⟨_, (pss_cons (ps_if (pt_cmpR op_gt (pe_ix (ix_K (K := K) rfl) (pv 0) pe_int (fun _ _ => rfl)) pe_int (nomark _)) (pss_cons (ps_set (i := 2) nd rfl (by first | exact Or.inl rfl | exact Or.inr rfl) (pe_op op_mod (pe_ix (ix_K (K := K) rfl) (pv 0) pe_int (fun _ _ => rfl)) (pv 1)))
    (pss_cons (ps_asg (pe_op op_fdivW (pe_ix (ix_K (K := K) rfl) (pv 0) pe_int (fun _ _ => rfl)) (pv 1)) (pg_sub (pv 0) pe_int set_list))
    (pss_one (ps_ret (pv 2))))) pss_nil)
    (pss_cons (ps_asg (pe_op op_ADD (pe_ix (ix_K (K := K) rfl) (pv 0) pe_int (fun _ _ => rfl)) pe_int) (pg_sub (pv 0) pe_int set_list))
    (pss_cons (ps_set (i := 3) nd rfl (by first | exact Or.inl rfl | exact Or.inr rfl) (pe_op op_mod (pe_op op_MUL (pe_op op_ADD (pe_ix (ix_K (K := K) rfl) (pv 0) pe_int (fun _ _ => rfl)) (pe_op op_MUL pe_int (pe_ix (ix_K (K := K) rfl) (pv 0) pe_int (fun _ _ => rfl)))) pe_int) pe_int))
    (pss_cons (ps_asg (pe_op op_ADD (pe_op op_mod (pe_op op_ADD (pe_op op_MUL (pv 3) pe_int) pe_int) pe_int) pe_int) (pg_sub (pv 0) pe_int set_list))
    (pss_one (ps_ret (pe_op op_mod (pe_op op_fdivW (pe_op op_ADD (pe_op op_MUL (pv 3) pe_int) (pe_ix (ix_K (K := K) rfl) (pv 0) pe_int (fun _ _ => rfl))) pe_int) (pv 1)))))))), fun W0 ds hp => ?_⟩)
  · obtain ⟨n, rfl, _⟩ := h
    rfl
  obtain ⟨n, rfl, h0, h1⟩ := hp
  simp only [cx_K, cx_K2, startG, List.map, List.length, List.replicate, List.append, List.cons_append, List.nil_append]
  repeat' (walk_at "g")
  · exact wide_div h0 h1 (by decide) (by decide)
  · exact ⟨n, _, rfl, rfl, Int.emod_nonneg _ (by omega), Int.emod_lt_of_pos _ h0⟩
  · exact ⟨n, _, rfl, rfl, Int.emod_nonneg _ (by omega), Int.emod_lt_of_pos _ h0⟩
/-! ### texts -/
def preB (ds : List PyData) : Prop := ds = [boxD]
def postTx (n : Nat) (_ : List PyData) (r : Rs) : Prop := ∃ x : Str, r = .d (.str x) ∧ Tx n x
theorem letters_ok : ∀ c ∈ (Str.ofString "abcdefghijklmnopqrstuvwxyz").cps.toList, c < 1114112 := by decide +kernel
theorem ok_word (T : Top K mg) : FnOk P w K mg base CX0 2 T.x_word.f T.x_word.fd P_word (spF K preB (postTx 8)) := by
  have nd := sc_word.nd
  have G_take := ok_take (P := P) (w := w) (base := base) T
  refine fn_ok T.x_word.F sc_word (fun ds h => ?_) (fun cdv A outer s H E hr => ⟨_, (pss_cons (ps_set (i := 1) nd rfl (by first | exact Or.inl rfl | exact Or.inr rfl) pe_str)
    (pss_one (ps_ret (jn_K (K := K) rfl pe_str (pe_lc (own := [("_law_k", 2)]) (by rfl) nd (pi_range1 (by rfl) T.b_range (pa_cons (pe_op op_ADD pe_int (pe_call G_take (hr.mono (by decide)) (by rfl) T.x_take.m T.x_take.F.kp T.x_take.b .nil pass0 (pa_cons (pv 0) (pa_cons pe_int pa_nil)))) pa_nil)) (blkOk_by (by with_unfolding_all rfl)) (fun _ _ _ _ _ => (pg_name (i := 2) nd rfl (by first | exact Or.inl rfl | exact Or.inr rfl))) (fun _ _ _ _ _ => pts_nil) (fun _ _ _ _ _ => (pe_ix (ix_K (K := K) rfl) (pv 1) (pe_call G_take (hr.mono (by decide)) (by rfl) T.x_take.m T.x_take.F.kp T.x_take.b .nil pass0 (pa_cons (pv 0) (pa_cons pe_int pa_nil))) (fun _ _ => rfl)))))))), fun W0 ds hp => ?_⟩)
  · rw [show ds = [boxD] from h]
    rfl
  rw [show ds = [boxD] from hp]
  simp only [cx_K, cx_K2, startG, List.map, List.length, List.replicate, List.append, List.cons_append, List.nil_append]
  repeat' (walk_at "g")
  refine wpE_join1 8 (by decide) ?_
  refine wpL_of_N (wpN_rel (fun y => ∃ c, y = .str ⟨#[c]⟩ ∧ c < 1114112) (wpIc_of (wpI_rng1 ?_)))
  repeat' (walk_at "g")
  rename_i x hx0 hx1
  refine ⟨by omega, by omega, by rw [rngD_len]; omega, fun d hd => ?_, fun ys hl hy => ?_⟩
  · refine wpG_name (by decide) ?_
    repeat' (walk_at "g")
    exact opR_ixSany (by decide) (by assumption) (by assumption) fun c hc => ⟨c, rfl, letters_ok c hc⟩
  · rw [rngD_len] at hl
    exact ⟨by omega, hy, fun u hu => ⟨u, rfl, hu⟩⟩
theorem w_word {W0 : Wd} {Γ : Gm} {E : XK} {i : Nat} {P : PyData → Prop} (hi : Γ[i]? = some (.d boxD)) (p : ∀ x : Str, Tx 8 x → P (.str x)) : wpE K W0 (tCall (spF K preB (postTx 8)) [] E (tCons (tVar i) tNil)) Γ P := by
  refine wpE_call (wpA_cons (wpE_var hi (wpA_nil ⟨rfl, ?_⟩)))
  rintro r ⟨x, rfl, h⟩
  exact p x h
local macro_rules | `(tactic| walk_at "h") => `(tactic| first
  | ((with_reducible refine' w_word ?k1 ?_); (case k1 => rfl); intro x hx)
  | (with_reducible refine wpE_slA ?_)
  | (with_reducible refine fun (u : Str) (hu : Tx _ _) => ?_)
  | ((with_reducible refine' mul_tx ?k1 ?k2 ?k3 ?k4 ?_); (case k1 => assumption); (case k2 => decide); (case k3 => decide); (case k4 => decide))
  | ((with_reducible refine' add_tx ?k1 ?k2 ?k3 ?_); (case k1 => first | assumption | exact Tx.of (n := 100) (by decide +kernel)); (case k2 => first | assumption | exact Tx.of (n := 100) (by decide +kernel)); (case k3 => decide))
  | walk_at "g")
theorem ok_text (T : Top K mg) : FnOk P w K mg base CX0 3 T.x_text.f T.x_text.fd P_text (spF K preB (postTx 1000)) := by
  have nd := sc_text.nd
  have G_take := ok_take (P := P) (w := w) (base := base) T
  have G_word := ok_word (P := P) (w := w) (base := base) T
  refine fn_ok T.x_text.F sc_text (fun ds h => ?_) (fun cdv A outer s H E hr => ⟨_, (pss_cons (ps_par (i := 1) (j := 2) (by rfl) nd rfl rfl (by decide) rfl rfl (pa_cons (pe_call G_take (hr.mono (by decide)) (by rfl) T.x_take.m T.x_take.F.kp T.x_take.b .nil pass0 (pa_cons (pv 0) (pa_cons pe_int pa_nil))) (pa_cons (pe_call G_word (hr.mono (by decide)) (by rfl) T.x_word.m T.x_word.F.kp T.x_word.b .nil pass0 (pa_cons (pv 0) pa_nil)) pa_nil)) (by rfl))
    (pss_cons (ps_set (i := 3) nd rfl (by first | exact Or.inl rfl | exact Or.inr rfl) pe_str)
    (pss_cons (ps_if (pt_cmpR (eq_K (K := K) rfl (hu64 hr)) (pv 1) pe_int (nomark _)) (pss_one (ps_ret (pe_slice (sl_K (K := K) rfl) (pe_op op_MUL (pv 2) pe_int) po_none (po_some (pe_op op_ADD pe_int (pe_call G_take (hr.mono (by decide)) (by rfl) T.x_take.m T.x_take.F.kp T.x_take.b .nil pass0 (pa_cons (pv 0) (pa_cons pe_int pa_nil)))))))) pss_nil)
    (pss_cons (ps_if (pt_cmpR (eq_K (K := K) rfl (hu64 hr)) (pv 1) pe_int (nomark _)) (pss_one (ps_ret (pe_ix (ix_K (K := K) rfl) (pe_lst (pa_cons pe_str (pa_cons pe_str (pa_cons pe_str (pa_cons pe_str pa_nil))))) (pe_call G_take (hr.mono (by decide)) (by rfl) T.x_take.m T.x_take.F.kp T.x_take.b .nil pass0 (pa_cons (pv 0) (pa_cons pe_int pa_nil))) (fun _ _ => rfl)))) pss_nil)
    (pss_cons (ps_if (pt_cmpR op_lt (pv 1) pe_int (nomark _)) (pss_cons (ps_set (i := 2) nd rfl (by first | exact Or.inl rfl | exact Or.inr rfl) (pe_ix (ix_K (K := K) rfl) (pe_lst (pa_cons pe_str (pa_cons pe_str (pa_cons pe_str pa_nil)))) (pe_call G_take (hr.mono (by decide)) (by rfl) T.x_take.m T.x_take.F.kp T.x_take.b .nil pass0 (pa_cons (pv 0) (pa_cons pe_int pa_nil))) (fun _ _ => rfl)))
    (pss_cons (ps_set (i := 4) nd rfl (by first | exact Or.inl rfl | exact Or.inr rfl) (pe_call G_take (hr.mono (by decide)) (by rfl) T.x_take.m T.x_take.F.kp T.x_take.b .nil pass0 (pa_cons (pv 0) (pa_cons (pe_op op_ADD (pe_callB (len_K (K := K) rfl) (by rfl) T.b_len (by decide +kernel) (pa_cons (pv 2) pa_nil)) pe_int) pa_nil))))
    (pss_cons (ps_set (i := 5) nd rfl (by first | exact Or.inl rfl | exact Or.inr rfl) (pe_ix (ix_K (K := K) rfl) (pe_lst (pa_cons pe_str (pa_cons (pe_ix (ix_K (K := K) rfl) pe_str (pe_call G_take (hr.mono (by decide)) (by rfl) T.x_take.m T.x_take.F.kp T.x_take.b .nil pass0 (pa_cons (pv 0) (pa_cons pe_int pa_nil))) (fun _ _ => rfl)) pa_nil))) (pe_call G_take (hr.mono (by decide)) (by rfl) T.x_take.m T.x_take.F.kp T.x_take.b .nil pass0 (pa_cons (pv 0) (pa_cons pe_int pa_nil))) (fun _ _ => rfl)))
    (pss_one (ps_ret (pe_op op_ADD (pe_op op_ADD (pe_slice (sl_K (K := K) rfl) (pv 2) po_none (po_some (pv 4))) (pv 5)) (pe_slice (sl_K (K := K) rfl) (pv 2) (po_some (pe_op op_ADD (pv 4) (pe_call G_take (hr.mono (by decide)) (by rfl) T.x_take.m T.x_take.F.kp T.x_take.b .nil pass0 (pa_cons (pv 0) (pa_cons pe_int pa_nil))))) po_none))))))) pss_nil)
    (pss_cons (ps_if (pt_cmpR op_lt (pv 1) pe_int (nomark _)) (pss_cons (ps_set (i := 6) nd rfl (by first | exact Or.inl rfl | exact Or.inr rfl) (pe_ix (ix_K (K := K) rfl) (pv 3) (pe_call G_take (hr.mono (by decide)) (by rfl) T.x_take.m T.x_take.F.kp T.x_take.b .nil pass0 (pa_cons (pv 0) (pa_cons (pe_callB (len_K (K := K) rfl) (by rfl) T.b_len (by decide +kernel) (pa_cons (pv 3) pa_nil)) pa_nil))) (fun _ _ => rfl)))
    (pss_cons (ps_if (pt_cmpR (eq_K (K := K) rfl (hu64 hr)) (pe_call G_take (hr.mono (by decide)) (by rfl) T.x_take.m T.x_take.F.kp T.x_take.b .nil pass0 (pa_cons (pv 0) (pa_cons pe_int pa_nil))) pe_int (nomark _)) (pss_one (ps_set (i := 6) nd rfl (by first | exact Or.inl rfl | exact Or.inr rfl) pe_str)) pss_nil)
    (pss_cons (ps_set (i := 4) nd rfl (by first | exact Or.inl rfl | exact Or.inr rfl) (pe_ix (ix_K (K := K) rfl) (pe_lst (pa_cons (pe_callB (len_K (K := K) rfl) (by rfl) T.b_len (by decide +kernel) (pa_cons (pv 2) pa_nil)) (pa_cons (pe_call G_take (hr.mono (by decide)) (by rfl) T.x_take.m T.x_take.F.kp T.x_take.b .nil pass0 (pa_cons (pv 0) (pa_cons (pe_op op_ADD (pe_callB (len_K (K := K) rfl) (by rfl) T.b_len (by decide +kernel) (pa_cons (pv 2) pa_nil)) pe_int) pa_nil))) pa_nil))) (pe_call G_take (hr.mono (by decide)) (by rfl) T.x_take.m T.x_take.F.kp T.x_take.b .nil pass0 (pa_cons (pv 0) (pa_cons pe_int pa_nil))) (fun _ _ => rfl)))
    (pss_one (ps_ret (pe_op op_ADD (pe_op op_ADD (pe_slice (sl_K (K := K) rfl) (pv 2) po_none (po_some (pv 4))) (pv 6)) (pe_slice (sl_K (K := K) rfl) (pv 2) (po_some (pe_op op_ADD (pv 4) (pe_call G_take (hr.mono (by decide)) (by rfl) T.x_take.m T.x_take.F.kp T.x_take.b .nil pass0 (pa_cons (pv 0) (pa_cons pe_int pa_nil))))) po_none))))))) pss_nil)
    (pss_one (ps_ret (pv 2))))))))), fun W0 ds hp => ?_⟩)
  · rw [show ds = [boxD] from h]
    rfl
  rw [show ds = [boxD] from hp]
  simp only [cx_K, cx_K2, startG, List.map, List.length, List.replicate, List.append, List.cons_append, List.nil_append]
  repeat' (walk_at "h")
  · exact ⟨_, rfl, Tx.le (by assumption) (by decide)⟩
  · exact opR_ixSt 5 (by decide +kernel) (by assumption) (by assumption) fun y hy => ⟨_, rfl, hy.le (by decide)⟩
  · refine opR_ixSt 5 (by decide +kernel) (by assumption) (by assumption) fun y hy => ?_
    have hy' := hy.1
    repeat' (walk_at "h")
    refine opR_ixSx 26 (.of (by decide +kernel)) (by decide) (by assumption) (by assumption) fun c _ hc => ?_
    repeat' (walk_at "h")
    refine opR_ixSt' 5 ?_ (by assumption) (by assumption) fun z hz => ?_
    · intro d hd
      rcases List.mem_cons.mp hd with rfl | hd
      · exact ⟨_, rfl, .of (by decide +kernel)⟩
      · rw [List.mem_singleton.mp hd]
        exact ⟨_, rfl, (Tx.one hc).le (by decide)⟩
    repeat' (walk_at "h")
    exact ⟨_, rfl, Tx.le (by assumption) (by decide)⟩
  · have el : Tx 95 (Str.ofString " !\"#$&'()*+,-./0123456789:;<=>?@ABCDEFGHIJKLMNOPQRSTUVWXYZ[\\]^_`abcdefghijklmnopqrstuvwxyz{|}~\n") := .of (by decide +kernel)
    have el2 : 0 < (Str.ofString " !\"#$&'()*+,-./0123456789:;<=>?@ABCDEFGHIJKLMNOPQRSTUVWXYZ[\\]^_`abcdefghijklmnopqrstuvwxyz{|}~\n").length := by decide +kernel
    generalize Str.ofString " !\"#$&'()*+,-./0123456789:;<=>?@ABCDEFGHIJKLMNOPQRSTUVWXYZ[\\]^_`abcdefghijklmnopqrstuvwxyz{|}~\n" = signs at *
    have el' := el.1
    rename_i x hx _ _ _ _
    have hx' := hx.1
    repeat' (walk_at "h")
    refine opR_ixSx 95 el (by decide) (by assumption) (by assumption) fun c _ hc => ?_
    have hc1 := Tx.one hc
    repeat' (walk_at "h")
    all_goals (refine opR_ixIt rfl (by assumption) (by assumption) fun z hz => ?_)
    all_goals (repeat' (walk_at "h"))
    all_goals exact ⟨_, rfl, Tx.le (by assumption) (by decide)⟩
  · exact ⟨_, rfl, Tx.le (by assumption) (by decide)⟩
/-! ### the name's two readings -/
def isName (x : Str) : Bool := if (!(decide (1 ≤ (x.length : Int)) && decide ((x.length : Int) ≤ 8)) || decide (x ∈ ([("if" : Str), "to", "lefts"] : List Str))) = true then false else (x.cps.toList.map fun c => decide (c ∈ (Str.ofString "abcdefghijklmnopqrstuvwxyz").cps.toList)).all id
def preS (ds : List PyData) : Prop := ∃ x : Str, ds = [.str x] ∧ Tx 1000 x
def postN (ds : List PyData) (r : Rs) : Prop := ∃ x : Str, ds = [.str x] ∧ r = .d (.bool (isName x))
theorem ok_is_name (T : Top K mg) : FnOk P w K mg base CX0 1 T.x_is_name.f T.x_is_name.fd P_is_name (spF K preS postN) := by
  have nd := sc_is_name.nd
  refine fn_ok T.x_is_name.F sc_is_name (fun ds h => ?_) (fun cdv A outer s H E hr => ⟨_, (pss_cons (ps_if (PW.pt (pw_or (pt_not (pt_chain op_le op_le pe_int (pe_callB (len_K (K := K) rfl) (by rfl) T.b_len (by decide +kernel) (pa_cons (pv 0) pa_nil)) (pe_glob (v := .int 8) rfl T.m_LONGEST ⟨_, rfl⟩))) (pw_or1 (pt_cmpR (in_K (K := K) rfl) (pv 0) (pe_glob (v := .ref T.a_WORDS) rfl T.m_WORDS rfl) (by rfl))))) (pss_one (ps_ret pe_bl)) pss_nil)
    (pss_one (ps_ret (pe_callB (all_K (K := K) rfl rfl) (by rfl) T.b_all (by decide +kernel) (pa_cons (pe_lc (own := [("letter", 1)]) (by rfl) nd (pi_str (pv 0)) (blkOk_by (by with_unfolding_all rfl)) (fun _ _ _ _ _ => (pg_name (i := 1) nd rfl (by first | exact Or.inl rfl | exact Or.inr rfl))) (fun _ _ _ _ _ => pts_nil) (fun _ _ _ _ _ => (pe_cmpR (in_K (K := K) rfl) (pv 1) (pe_glob (v := .str "abcdefghijklmnopqrstuvwxyz") rfl T.m_LETTERS ⟨_, rfl⟩) (by rfl)))) pa_nil))))), fun W0 ds hp => ?_⟩)
  · obtain ⟨x, rfl, _⟩ := h
    rfl
  obtain ⟨x, rfl, hT⟩ := hp
  have hx := hT.1
  simp only [cx_K, cx_K2, startG, List.map, List.length, List.replicate, List.append, List.cons_append, List.nil_append]
  repeat' (walk_at "g")
  all_goals (try (refine wpE_kt (ss := ["if", "to", "lefts"]) T.k_WORDS ?_))
  all_goals (repeat' (walk_at "g"))
  · exact ⟨x, rfl, by simp_all [isName]⟩
  · exact ⟨x, rfl, by simp_all [isName]⟩
  · refine wpL_of_N (wpN_map (fun d => match d with | .str y => .bool (decide (y.cps.getD 0 0 ∈ (Str.ofString "abcdefghijklmnopqrstuvwxyz").cps.toList)) | _ => .none) (wpIc_of (wpI_str (wpE_var rfl ⟨x, rfl, ?_, fun d hd => ?_, ?_⟩))))
    · have e : (signsD x).length = x.length := by simp [signsD, Str.length]
      omega
    · obtain ⟨c, _, rfl⟩ := mem_signs hd
      refine wpG_name (by decide) ?_
      repeat' (walk_at "g")
      rfl
    · refine ⟨x.cps.toList.map fun c => decide (c ∈ (Str.ofString "abcdefghijklmnopqrstuvwxyz").cps.toList), ?_, x, rfl, ?_⟩
      · unfold signsD
        rw [List.map_map, List.map_map]
        rfl
      · simp_all [isName]
  · exact ⟨x, rfl, by simp_all [isName]⟩
def dueS (x : Str) : Bool := if (decide (x ∈ ([("if" : Str), "to", "lefts"] : List Str)) || !(decide (0 < (x.length : Int)) && decide ((x.length : Int) < 9))) = true then false else PyData.eqv (.list ((x.cps.toList.filter fun c => !decide (c ∈ (Str.ofString "abcdefghijklmnopqrstuvwxyz").cps.toList)).map fun c => .str ⟨#[c]⟩)) (.list [])
def postD (ds : List PyData) (r : Rs) : Prop := ∃ x : Str, ds = [.str x] ∧ r = .d (.bool (dueS x))
theorem ok_due (T : Top K mg) : FnOk P w K mg base CX0 1 T.x_due.f T.x_due.fd P_due (spF K preS postD) := by
  have nd := sc_due.nd
  refine fn_ok T.x_due.F sc_due (fun ds h => ?_) (fun cdv A outer s H E hr => ⟨_, (pss_cons (ps_if (PW.pt (pw_or (pt_cmpR (in_K (K := K) rfl) (pv 0) (pe_tup (pa_cons pe_str (pa_cons pe_str (pa_cons pe_str pa_nil)))) (by rfl)) (pw_or1 (pt_not (pt_chain op_lt op_lt pe_int (pe_callB (len_K (K := K) rfl) (by rfl) T.b_len (by decide +kernel) (pa_cons (pv 0) pa_nil)) pe_int))))) (pss_one (ps_ret pe_bl)) pss_nil)
    (pss_one (ps_ret (pe_cmpR (eq_K (K := K) rfl (hu64 hr)) (pe_lc (own := [("_law_sign", 1)]) (by rfl) nd (pi_str (pv 0)) (blkOk_by (by with_unfolding_all rfl)) (fun _ _ _ _ _ => (pg_name (i := 1) nd rfl (by first | exact Or.inl rfl | exact Or.inr rfl))) (fun _ _ _ _ _ => (pts_one (pt_cmpR (nin_K (K := K) rfl) (pv 1) pe_str (by rfl)))) (fun _ _ _ _ _ => (pv 1))) (pe_lst pa_nil) (nomark _))))), fun W0 ds hp => ?_⟩)
  · obtain ⟨x, rfl, _⟩ := h
    rfl
  obtain ⟨x, rfl, hT⟩ := hp
  have hx := hT.1
  simp only [cx_K, cx_K2, startG, List.map, List.length, List.replicate, List.append, List.cons_append, List.nil_append]
  repeat' (walk_at "g")
  refine opR_inT (xs := ["if", "to", "lefts"]) ?_
  repeat' (walk_at "g")
  · exact ⟨x, rfl, by simp_all [dueS]⟩
  · exact ⟨x, rfl, by simp_all [dueS]⟩
  · refine wpE_of_N (wpN_filter (fun d => match d with | .str y => !decide (y.cps.getD 0 0 ∈ (Str.ofString "abcdefghijklmnopqrstuvwxyz").cps.toList) | _ => false) (fun d => d) (wpIc_of (wpI_str ?_)))
    refine wpE_var rfl ⟨x, rfl, ?_, fun d hd => ?_, ?_⟩
    · have e : (signsD x).length = x.length := by simp [signsD, Str.length]
      omega
    · obtain ⟨c, _, rfl⟩ := mem_signs hd
      refine wpG_name (by decide) ?_
      repeat' (walk_at "g")
      refine ⟨rfl, fun _ => ?_⟩
      repeat' (walk_at "g")
    · refine wpE_of_N (wpN_lst (wpA_nil ⟨Nat.zero_le _, ?_⟩))
      have e : ((signsD x).filter fun d => match d with | .str y => !decide (y.cps.getD 0 0 ∈ (Str.ofString "abcdefghijklmnopqrstuvwxyz").cps.toList) | _ => false).map (fun d => d) =
          ((x.cps.toList.filter fun c => !decide (c ∈ (Str.ofString "abcdefghijklmnopqrstuvwxyz").cps.toList)).map fun c => PyData.str ⟨#[c]⟩) := by
        unfold signsD
        rw [List.filter_map, List.map_id']
        rfl
      rw [e]
      refine opR_eqD (shaped_list 0 (by decide) fun d hd => ?_) rfl ⟨x, rfl, ?_⟩
      · obtain ⟨c, hc, rfl⟩ := List.mem_map.mp hd
        exact ⟨(Tx.one (hT.2 c (List.mem_filter.mp hc).1)).ok, Nat.le_refl 0⟩
      · simp_all [dueS]
  · exact ⟨x, rfl, by simp_all [dueS]⟩
theorem eqv_nil (xs : List PyData) : PyData.eqv (.list xs) (.list []) = xs.isEmpty := by
  cases xs with
  | nil => rfl
  | cons x xs => simp [PyData.eqv, PyData.eqvAll]
/-- THE LAW'S HEART: both say the same of every text -/
theorem both_same (x : Str) : isName x = dueS x := by
  unfold isName dueS
  rw [eqv_nil]
  have e1 : (decide (1 ≤ (x.length : Int)) && decide ((x.length : Int) ≤ 8)) = (decide (0 < (x.length : Int)) && decide ((x.length : Int) < 9)) := by
    rw [Bool.eq_iff_iff]
    simp only [Bool.and_eq_true, decide_eq_true_eq]
    omega
  rw [e1, Bool.or_comm]
  have e2 : (x.cps.toList.map fun c => decide (c ∈ (Str.ofString "abcdefghijklmnopqrstuvwxyz").cps.toList)).all id = ((x.cps.toList.filter fun c => !decide (c ∈ (Str.ofString "abcdefghijklmnopqrstuvwxyz").cps.toList)).map fun c => PyData.str ⟨#[c]⟩).isEmpty := by
    generalize x.cps.toList = l
    induction l with
    | nil => rfl
    | cons c l ih =>
      rw [List.map_cons, List.all_cons, ih, List.filter_cons]
      by_cases h : c ∈ (Str.ofString "abcdefghijklmnopqrstuvwxyz").cps.toList
      · simp [h]
      · simp [h]
  rw [e2]
/-! ### the law -/
def isTx (d : PyData) : Prop := ∃ x, d = .str x ∧ Tx 1000 x
theorem ok_law (T : Top K mg) : FnOk P w K mg base CX0 4 T.x_law.f T.x_law.fd P_law (spF K preLaw postLaw) := by
  have nd := sc_law.nd
  have G_box := ok_box (P := P) (w := w) (base := base) T
  have G_text := ok_text (P := P) (w := w) (base := base) T
  have G_is_name := ok_is_name (P := P) (w := w) (base := base) T
  have G_due := ok_due (P := P) (w := w) (base := base) T
  refine fn_ok T.x_law.F sc_law (fun ds h => ?_) (fun cdv A outer s H E hr => ⟨_, (pss_cons (ps_set (i := 1) nd rfl (by first | exact Or.inl rfl | exact Or.inr rfl) (pe_lst pa_nil))
    (pss_cons (ps_for PassesOwn.never rfl (pi_range1 (by rfl) T.b_range (pa_cons (pe_callB (call_max2 rfl) (by rfl) T.b_max (by decide +kernel) (pa_cons pe_int (pa_cons (pe_callB (call_min2 rfl) (by rfl) T.b_min (by decide +kernel) (pa_cons pe_int (pa_cons (pe_callB (len_K (K := K) rfl) (by rfl) T.b_len (by decide +kernel) (pa_cons (pv 0) pa_nil)) pa_nil))) pa_nil))) pa_nil)) (pg_name (i := 2) nd rfl (by first | exact Or.inl rfl | exact Or.inr rfl))
      (pss_cons (ps_set (i := 3) nd rfl (by first | exact Or.inl rfl | exact Or.inr rfl) (pe_call G_box (hr.mono (by decide)) (by rfl) T.x_box.m T.x_box.F.kp T.x_box.b .nil pass0 (pa_cons (pv 0) (pa_cons (pv 2) pa_nil))))
    (pss_one (ps_expr (ex_K (K := K) rfl (pv 1) (pe_lc (own := [("_law_turn", 6)]) (by rfl) nd (pi_range1 (by rfl) T.b_range (pa_cons pe_int pa_nil)) (blkOk_by (by with_unfolding_all rfl)) (fun _ _ _ _ _ => (pg_name (i := 6) nd rfl (by first | exact Or.inl rfl | exact Or.inr rfl))) (fun _ _ _ _ _ => pts_nil) (fun _ _ _ _ _ => (pe_call G_text (hr.mono (by decide)) (by rfl) T.x_text.m T.x_text.F.kp T.x_text.b .nil pass0 (pa_cons (pv 3) pa_nil)))))))))
    (pss_cons (ps_for PassesOwn.never rfl (il_K (K := K) rfl (pe_op op_ADD (pv 1) (pe_slice (sl_K (K := K) rfl) (pv 1) po_none (po_some pe_int)))) (pg_name (i := 4) nd rfl (by first | exact Or.inl rfl | exact Or.inr rfl))
      (pss_cons (ps_set (i := 5) nd rfl (by first | exact Or.inl rfl | exact Or.inr rfl) (pe_call G_is_name (hr.mono (by decide)) (by rfl) T.x_is_name.m T.x_is_name.F.kp T.x_is_name.b .nil pass0 (pa_cons (pv 4) pa_nil)))
    (pss_one (ps_if (PW.pt (pw_or (pt_not (pt_val (pe_callB (isi_K (K := K) rfl) (by rfl) T.b_isinstance (by decide +kernel) (pa_cons (pv 5) (pa_cons (pe_bltn (v := .ty "bool") (by rfl) T.b_bool (by decide +kernel) rfl) pa_nil))))) (pw_or1 (pt_cmpR (ne_K (K := K) rfl (hu64 hr)) (pv 5) (pe_call G_due (hr.mono (by decide)) (by rfl) T.x_due.m T.x_due.F.kp T.x_due.b .nil pass0 (pa_cons (pv 4) pa_nil)) (nomark _))))) (pss_one (ps_ret pe_bl)) pss_nil))))
    (pss_one (ps_ret (pe_cmpR (eq_K (K := K) rfl (hu64 hr)) (pe_call G_is_name (hr.mono (by decide)) (by rfl) T.x_is_name.m T.x_is_name.F.kp T.x_is_name.b .nil pass0 (pa_cons (pe_ix (ix_K (K := K) rfl) (pv 1) (pe_un un_neg pe_int) (fun _ _ => rfl)) pa_nil)) (pe_call G_due (hr.mono (by decide)) (by rfl) T.x_due.m T.x_due.F.kp T.x_due.b .nil pass0 (pa_cons (pe_ix (ix_K (K := K) rfl) (pv 1) (pe_un un_neg pe_int) (fun _ _ => rfl)) pa_nil)) (nomark _))))))), fun W0 ds hp => ?_⟩)
  · obtain ⟨ns, rfl, _⟩ := h
    rfl
  obtain ⟨ns, rfl, hn⟩ := hp
  simp only [cx_K, cx_K2, startG, List.map, List.length, List.replicate, List.append, List.cons_append, List.nil_append]
  repeat' (walk_at "g")
  refine go_for [2] (wpI_rng1 ?_)
  repeat' (walk_at "g")
  simp only [List.length_map]
  generalize hm : (if (if (ns.length : Int) < 5 then (ns.length : Int) else 5) > 1 then (if (ns.length : Int) < 5 then (ns.length : Int) else 5) else 1) = m
  have hm1 : 1 ≤ m ∧ m ≤ 5 := by
    rw [← hm]
    split <;> split <;> omega
  refine ⟨by omega, by omega, fun i Γ' => ∃ ds x2 x3, Γ' = [.d (.list (ns.map PyData.int)), .l ds, x2, x3, .no, .no, .no] ∧ ds.length = 4 * i ∧ ∀ d ∈ ds, isTx d, ⟨[], .no, .no, rfl, rfl, fun _ h => nomatch h⟩, ?_, ?_⟩
  · rintro i d Γ' hd ⟨ds, x2, x3, rfl, hl, hT⟩
    obtain ⟨hi, rfl⟩ := rngD_get hd
    refine wpG_name (by decide) ?_
    repeat' (walk_at "g")
    refine ⟨⟨ns, _, rfl, by omega⟩, fun r hr => ?_⟩
    cases hr
    repeat' (walk_at "g")
    refine wpN_rel isTx (wpIc_of (wpI_rng1 ?_))
    repeat' (walk_at "g")
    refine ⟨by omega, by omega, by rw [rngD_len]; omega, fun d hd => ?_, fun ys hy1 hy2 => ?_⟩
    · refine wpG_name (by decide) ?_
      repeat' (walk_at "g")
      refine ⟨rfl, fun r hr => ?_⟩
      obtain ⟨x, rfl, hx⟩ := hr
      exact ⟨x, rfl, hx⟩
    · rw [rngD_len] at hy1
      refine ⟨by omega, ds ++ ys, _, _, rfl, by rw [List.length_append]; omega, fun d hd => ?_⟩
      rcases List.mem_append.mp hd with hd | hd
      · exact hT d hd
      · exact hy2 d hd
  · rintro Γ' ⟨ds, x2, x3, rfl, hl, hT⟩
    rw [rngD_len] at hl
    repeat' (walk_at "g")
    refine go_for [4] (wpI_list (wpE_of_N (wpN_addVL rfl (wpN_slL (wpL_var rfl ?_)))))
    repeat' (walk_at "g")
    have hcut : ∀ d, d ∈ cutD ds none (some 1) → d ∈ ds := fun d hd => by
      unfold cutD at hd
      exact List.mem_of_mem_drop (List.mem_of_mem_take hd)
    have hcl : (cutD ds none (some 1)).length ≤ ds.length := by
      unfold cutD
      rw [List.length_take, List.length_drop]
      omega
    refine ⟨by have hs : sizeLine = 16777216 := sizeLine_eq; omega, _, rfl, fun i Γ' => ∃ x4 x5, Γ' = [.d (.list (ns.map PyData.int)), .l ds, x2, x3, x4, x5, .no], ⟨_, _, rfl⟩, ?_, ?_⟩
    · rintro i d Γ' hd ⟨x4, x5, rfl⟩
      have hm := List.mem_of_getElem? hd
      obtain ⟨x, rfl, hx⟩ : isTx d := (List.mem_append.mp hm).elim (hT d) fun h => hT d (hcut d h)
      refine wpG_name (by decide) ?_
      repeat' (walk_at "g")
      refine ⟨⟨x, rfl, hx⟩, fun r hr => ?_⟩
      obtain ⟨x', e, rfl⟩ := hr
      cases e
      repeat' (walk_at "g")
      refine ⟨⟨x, rfl, hx⟩, fun r hr => ?_⟩
      obtain ⟨x', e, rfl⟩ := hr
      cases e
      rw [both_same]
      refine opR_neD rfl rfl ?_
      refine ⟨_, rfl, fun hb => ?_, fun hb => ?_⟩
      · exfalso
        revert hb
        cases dueS x <;> decide
      · repeat' (walk_at "g")
        exact ⟨_, _, rfl⟩
    · rintro Γ' ⟨x4, x5, rfl⟩
      repeat' (walk_at "g")
      have hne : ds ≠ [] := fun z => by
        rw [z] at hl
        simp at hl
        omega
      obtain ⟨d, hd, hm⟩ := atI_end hne
      obtain ⟨x, rfl, hx⟩ := hT d hm
      refine opLR_ix hd ?_
      repeat' (walk_at "g")
      refine ⟨⟨x, rfl, hx⟩, fun r hr => ?_⟩
      obtain ⟨x', e, rfl⟩ := hr
      cases e
      repeat' (walk_at "g")
      refine opLR_ix hd ?_
      repeat' (walk_at "g")
      refine ⟨⟨x, rfl, hx⟩, fun r hr => ?_⟩
      obtain ⟨x', e, rfl⟩ := hr
      cases e
      rw [both_same]
      refine opR_eqD rfl rfl ?_
      show Rs.d (.bool (dueS x == dueS x)) = Rs.d (.bool true)
      rw [beq_self_eq_true]
/-! ### what the top has written; the row -/
theorem top_mk {K : PySem.W.Frag} {h : Heap} {mg : Str → Option Value} (X : K.In h) (G : h.Ns mainGlobals mg)
    {f0 : Addr} {od0 an0 : Option Addr} {sl0 : Array (Option Value)} {oc0 kV0 dc0 pm0 cd0 ct0 : Value} {f1 : Addr} {od1 an1 : Option Addr} {sl1 : Array (Option Value)} {oc1 kV1 dc1 pm1 cd1 ct1 : Value} {f2 : Addr} {od2 an2 : Option Addr} {sl2 : Array (Option Value)} {oc2 kV2 dc2 pm2 cd2 ct2 : Value} {f3 : Addr} {od3 an3 : Option Addr} {sl3 : Array (Option Value)} {oc3 kV3 dc3 pm3 cd3 ct3 : Value} {f4 : Addr} {od4 an4 : Option Addr} {sl4 : Array (Option Value)} {oc4 kV4 dc4 pm4 cd4 ct4 : Value} {f5 : Addr} {od5 an5 : Option Addr} {sl5 : Array (Option Value)} {oc5 kV5 dc5 pm5 cd5 ct5 : Value} {f6 : Addr} {od6 an6 : Option Addr} {sl6 : Array (Option Value)} {oc6 kV6 dc6 pm6 cd6 ct6 : Value}
    (a0 : PySem.W.nsIn K mainGlobals "is_name" = some (some (.ref f0))) (l0 : K.lookup f0 = some ⟨oc0, od0, .func (PySem.W.fnOf "is_name" "is_name" (defArgs s_is_name) (defBody s_is_name) (defScope s_is_name) .none kV0 dc0 pm0 an0 cd0 ct0), sl0⟩) (c0 : PySem.W.codeIn K cd0 "is_name" = true) (k0 : PySem.W.keepIn K (.ref f0) = true)
    (a1 : PySem.W.nsIn K mainGlobals "_law_box" = some (some (.ref f1))) (l1 : K.lookup f1 = some ⟨oc1, od1, .func (PySem.W.fnOf "_law_box" "_law_box" (defArgs s_box) (defBody s_box) (defScope s_box) .none kV1 dc1 pm1 an1 cd1 ct1), sl1⟩) (c1 : PySem.W.codeIn K cd1 "_law_box" = true) (k1 : PySem.W.keepIn K (.ref f1) = true)
    (a2 : PySem.W.nsIn K mainGlobals "_law_take" = some (some (.ref f2))) (l2 : K.lookup f2 = some ⟨oc2, od2, .func (PySem.W.fnOf "_law_take" "_law_take" (defArgs s_take) (defBody s_take) (defScope s_take) .none kV2 dc2 pm2 an2 cd2 ct2), sl2⟩) (c2 : PySem.W.codeIn K cd2 "_law_take" = true) (k2 : PySem.W.keepIn K (.ref f2) = true)
    (a3 : PySem.W.nsIn K mainGlobals "_law_word" = some (some (.ref f3))) (l3 : K.lookup f3 = some ⟨oc3, od3, .func (PySem.W.fnOf "_law_word" "_law_word" (defArgs s_word) (defBody s_word) (defScope s_word) .none kV3 dc3 pm3 an3 cd3 ct3), sl3⟩) (c3 : PySem.W.codeIn K cd3 "_law_word" = true) (k3 : PySem.W.keepIn K (.ref f3) = true)
    (a4 : PySem.W.nsIn K mainGlobals "_law_text" = some (some (.ref f4))) (l4 : K.lookup f4 = some ⟨oc4, od4, .func (PySem.W.fnOf "_law_text" "_law_text" (defArgs s_text) (defBody s_text) (defScope s_text) .none kV4 dc4 pm4 an4 cd4 ct4), sl4⟩) (c4 : PySem.W.codeIn K cd4 "_law_text" = true) (k4 : PySem.W.keepIn K (.ref f4) = true)
    (a5 : PySem.W.nsIn K mainGlobals "_law_due" = some (some (.ref f5))) (l5 : K.lookup f5 = some ⟨oc5, od5, .func (PySem.W.fnOf "_law_due" "_law_due" (defArgs s_due) (defBody s_due) (defScope s_due) .none kV5 dc5 pm5 an5 cd5 ct5), sl5⟩) (c5 : PySem.W.codeIn K cd5 "_law_due" = true) (k5 : PySem.W.keepIn K (.ref f5) = true)
    (a6 : PySem.W.nsIn K mainGlobals "law" = some (some (.ref f6))) (l6 : K.lookup f6 = some ⟨oc6, od6, .func (PySem.W.fnOf "law" "law" (defArgs s_law) (defBody s_law) (defScope s_law) .none kV6 dc6 pm6 an6 cd6 ct6), sl6⟩) (c6 : PySem.W.codeIn K cd6 "law" = true) (k6 : PySem.W.keepIn K (.ref f6) = true)
    (z_all : PySem.W.nsIn K mainGlobals "all" = some none)
    (z_bool : PySem.W.nsIn K mainGlobals "bool" = some none)
    (z_int : PySem.W.nsIn K mainGlobals "int" = some none)
    (z_isinstance : PySem.W.nsIn K mainGlobals "isinstance" = some none)
    (z_len : PySem.W.nsIn K mainGlobals "len" = some none)
    (z_max : PySem.W.nsIn K mainGlobals "max" = some none)
    (z_min : PySem.W.nsIn K mainGlobals "min" = some none)
    (z_range : PySem.W.nsIn K mainGlobals "range" = some none)
    {t_LETTERS : Tok} (q_LETTERS : PySem.W.nsIn K mainGlobals "LETTERS" = some (some (.str "abcdefghijklmnopqrstuvwxyz" t_LETTERS)))
    {t_LONGEST : Tok} (q_LONGEST : PySem.W.nsIn K mainGlobals "LONGEST" = some (some (.int 8 t_LONGEST)))
    {r_WORDS : Addr} {t0_WORDS t1_WORDS t2_WORDS : Tok} {dd_WORDS : Option Addr} {n_WORDS : Nat} {sl_WORDS : Array (Option Value)} (q_WORDS : PySem.W.nsIn K mainGlobals "WORDS" = some (some (.ref r_WORDS))) (l_WORDS : K.lookup r_WORDS = some ⟨.type "tuple", dd_WORDS, .seq #[.str "if" t0_WORDS, .str "to" t1_WORDS, .str "lefts" t2_WORDS] n_WORDS, sl_WORDS⟩)
    : ∃ T : Top K mg, ∀ (s : Shared) (v : Value), BindsTo s T.x_law.fd ⟨[v], []⟩ [("_law_script", v)] :=
  ⟨⟨PySem.W.mg_none_of X G z_all,
    PySem.W.mg_none_of X G z_bool,
    PySem.W.mg_none_of X G z_int,
    PySem.W.mg_none_of X G z_isinstance,
    PySem.W.mg_none_of X G z_len,
    PySem.W.mg_none_of X G z_max,
    PySem.W.mg_none_of X G z_min,
    PySem.W.mg_none_of X G z_range,
    t_LETTERS,
    PySem.W.mg_of X G q_LETTERS,
    t_LONGEST,
    PySem.W.mg_of X G q_LONGEST,
    r_WORDS,
    PySem.W.mg_of X G q_WORDS,
    fun H => .inr ⟨_, _, _, l_WORDS, rfl, rfl, by show 3 ≤ sizeLine; decide, (.cons ⟨_, rfl⟩ (.cons ⟨_, rfl⟩ (.cons ⟨_, rfl⟩ .nil)))⟩,
    ⟨f0, _, fun_mk (st := s_is_name) l0 c0 k0, (fun_mk (st := s_is_name) l0 c0 k0).binds (ps := P_is_name) fun _ _ _ _ _ _ us hl => match us, hl with | [_], _ => rfl, PySem.W.mg_of X G a0⟩,
    ⟨f1, _, fun_mk (st := s_box) l1 c1 k1, (fun_mk (st := s_box) l1 c1 k1).binds (ps := P_box) fun _ _ _ _ _ _ us hl => match us, hl with | [_, _], _ => rfl, PySem.W.mg_of X G a1⟩,
    ⟨f2, _, fun_mk (st := s_take) l2 c2 k2, (fun_mk (st := s_take) l2 c2 k2).binds (ps := P_take) fun _ _ _ _ _ _ us hl => match us, hl with | [_, _], _ => rfl, PySem.W.mg_of X G a2⟩,
    ⟨f3, _, fun_mk (st := s_word) l3 c3 k3, (fun_mk (st := s_word) l3 c3 k3).binds (ps := P_word) fun _ _ _ _ _ _ us hl => match us, hl with | [_], _ => rfl, PySem.W.mg_of X G a3⟩,
    ⟨f4, _, fun_mk (st := s_text) l4 c4 k4, (fun_mk (st := s_text) l4 c4 k4).binds (ps := P_text) fun _ _ _ _ _ _ us hl => match us, hl with | [_], _ => rfl, PySem.W.mg_of X G a4⟩,
    ⟨f5, _, fun_mk (st := s_due) l5 c5 k5, (fun_mk (st := s_due) l5 c5 k5).binds (ps := P_due) fun _ _ _ _ _ _ us hl => match us, hl with | [_], _ => rfl, PySem.W.mg_of X G a5⟩,
    ⟨f6, _, fun_mk (st := s_law) l6 c6 k6, (fun_mk (st := s_law) l6 c6 k6).binds (ps := P_law) fun _ _ _ _ _ _ us hl => match us, hl with | [_], _ => rfl, PySem.W.mg_of X G a6⟩⟩, fun s v => .of_eq rfl⟩

end
end My
open PySem PySem.W PyProof.Rows
set_option maxHeartbeats 0 in
theorem PySem.Challenge.cw_leanround_k02_names_holds : PySem.Challenge.rw_leanround_k02_names.Holds := by
  w_on; o_law; k_head; (case hw => w_witness2)
  k_fill
  refine L2.walk_ofK (l := PySem.Challenge.rw_leanround_k02_names) (n := 63) (k := 4) (x := "_law_script") (CX := L2.CX0) (sp := G.spLaw) rfl (by decide) rfl ⟨rfl, by decide, by decide⟩ (fun w h Y => PySem.W.kIn_of Y) ?F (fun K H a ns hl _ hS => G.law_start hl hS) (fun _ _ _ _ h => h)
  case F =>
    intro w mg fa h KX G hmg
    refine' Exists.elim (My.top_mk KX G ?a0 ?l0 ?c0 ?k0 ?a1 ?l1 ?c1 ?k1 ?a2 ?l2 ?c2 ?k2 ?a3 ?l3 ?c3 ?k3 ?a4 ?l4 ?c4 ?k4 ?a5 ?l5 ?c5 ?k5 ?a6 ?l6 ?c6 ?k6 ?z_all ?z_bool ?z_int ?z_isinstance ?z_len ?z_max ?z_min ?z_range ?q_LETTERS ?q_LONGEST ?q_WORDS ?l_WORDS) ?go
    (case a0 => k_is)
    (case l0 => k_is)
    (case c0 => k_is)
    (case k0 => k_is)
    (case a1 => k_is)
    (case l1 => k_is)
    (case c1 => k_is)
    (case k1 => k_is)
    (case a2 => k_is)
    (case l2 => k_is)
    (case c2 => k_is)
    (case k2 => k_is)
    (case a3 => k_is)
    (case l3 => k_is)
    (case c3 => k_is)
    (case k3 => k_is)
    (case a4 => k_is)
    (case l4 => k_is)
    (case c4 => k_is)
    (case k4 => k_is)
    (case a5 => k_is)
    (case l5 => k_is)
    (case c5 => k_is)
    (case k5 => k_is)
    (case a6 => k_is)
    (case l6 => k_is)
    (case c6 => k_is)
    (case k6 => k_is)
    (case z_all => k_is)
    (case z_bool => k_is)
    (case z_int => k_is)
    (case z_isinstance => k_is)
    (case z_len => k_is)
    (case z_max => k_is)
    (case z_min => k_is)
    (case z_range => k_is)
    (case q_LETTERS => k_is)
    (case q_LONGEST => k_is)
    (case q_WORDS => k_is)
    (case l_WORDS => k_is)
    intro T hb
    have e := hmg.symm.trans T.x_law.m
    cases e
    exact ⟨T.x_law.fd, hb, fun base _ _ => My.ok_law T⟩


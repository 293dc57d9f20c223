import PyProof.Rows.All
import Wide.All
import OpenK.AllK
import Wide.FinOn
import KE.KStateDown
import Lean
import HandS.ForMost
import HandS.Defaults
import HandS.WordsExc
import HandS.Head0
import HandS.Head1
import HandS.Head2
import HandS.HeadEnd
import HandS.HeadHook1
import HandS.HeadHook2
import HandS.TupAny
import HandS.TupMul
import HandS.Zip
import HandS.IsInst
import HandS.OwnEq
import HandS.Style
import HandS.NoneIn
import HandS.Wide
import HandS.ClsMeth
import HandS.Gcd
import HandS.Lambda
import KE.GoesEnum
import KE.KTupSum
import PyProof.InstNe
import HandS.HeadNt
import PyProof.SliceList
import HandS.Iter
import HandS.ExcInit
import HandS.ExcIs
import HandS.ExcValue
import HandS.FStr
import HandS.More
import KE.KExcIs
import HandS.ExcField
import HandS.Deep
import HandS.HeadHook4
import HandS.HeadWalk
import KE.KNestM
import KE.KDictZip
import HandS.SetFor
import HandS.Strs
import HandS.Conv
import PySem.Challenge.RW_spanalike_k14_cross_spans
import HandS.Head3
set_option Elab.async false
set_option linter.all false
set_option maxRecDepth 100000
set_option maxHeartbeats 4000001
/-! Deep data over the abstract heap: what a value is, all the way in; readings as transformers of facts about such data. -/
namespace Dp
open PySem PySem.Spec PyProof.Rows L2

/-- what stands in an attribute of an object that is being made -/
inductive FV where
  | int (i : Int) | bl (b : Bool) | str (x : Str) | tup (ns : List Int)
/-- data all the way in; a list that is owned (its content stands in the store); the tray of a law -/
inductive D where
  | non | bl (b : Bool) | int (i : Int) | str (x : Str)
  | lst (xs : List D) | tup (xs : List D)
  | row (ns : List Int)
  | own (p : Addr)
  | pen
  | ty (n : String)
  | adr (a : Addr)
  | obj (C : Addr) (fs : List (Str × FV))
  | dic
  | exc (C : Addr) (ks : List Str) (xs : List D)
abbrev Env := List (Option D)
abbrev Mu := List (Addr × List D)
abbrev St := L2.St
/-- no table of code objects -/
abbrev Nt (o : HO) : Prop := ∀ ps, o ≠ .tbl ps
/-- the fragment, Row's class, the cells of the script -/
structure Cb where
  K : PySem.W.Frag
  R : Addr
  cells : List Int
  T : List (Addr × Str) := []
/-- .. and what is told of a def's entry (where what it raises goes) -/
structure Cn extends Cb where
  A : Addr → Hp → Hp → Prop
  up : ∀ t H0 G0 G1, A t H0 G0 → Same G0 G1 → (∀ b o, Nt o → H0 b = some o → G0 b = none → G1 b = none) → A t H0 G1
instance : Coe Cn Cb := ⟨Cn.toCb⟩
/-- nothing is told -/
abbrev Cb.n (c : Cb) : Cn := ⟨c, fun _ _ _ => True, fun _ _ _ _ _ _ _ => trivial⟩

def marksFrom : Nat → List Int → List Int
  | _, [] => []
  | k, n :: r => if n = 0 then marksFrom (k + 1) r else (k : Int) :: marksFrom (k + 1) r
def marksOf (ns : List Int) : List Int := marksFrom 0 ns
def isLot (ns : List Int) : Bool := ns.all fun n => n == 0 || n == 1
def rowFs (tn tm : Addr) (ns : List Int) : List (Str × V) :=
  [("numbers", .ref tn), ("many", .int ns.length), ("total", .int ns.sum), ("marks", .ref tm), ("is_lot", .bl (isLot ns))]

/-- an exception that was caught: of the class at C, its dict at dx -/
def exq (a C dx : Addr) : HO := .ext fun h => ∃ (o : Obj) (vs : Array Value), h.get? a = some o ∧ o.cls = .ref C ∧ o.dict = some dx ∧ o.data = .fields vs
def FvR (K : PySem.W.Frag) (G : Hp) : FV → V → Prop
  | .int i, v => v = .int i
  | .bl b, v => v = .bl b
  | .str x, v => v = .str x
  | .tup ns, v => ∃ a, v = .ref a ∧ SqT K G a (ns.map V.int)
def FsR (K : PySem.W.Frag) (G : Hp) : List (Str × FV) → List (Str × V) → Prop
  | [], vs => vs = []
  | (f, d) :: fs, vs => ∃ v r, vs = (f, v) :: r ∧ FvR K G d v ∧ FsR K G fs r
mutual
def Rp (c : Cb) (t : Addr) (G : Hp) : D → V → Prop
  | .non, v => v = .non
  | .bl b, v => v = .bl b
  | .int i, v => v = .int i
  | .str x, v => v = .str x
  | .lst xs, v => ∃ a vs, v = .ref a ∧ G a = some (.lst vs) ∧ RpL c t G xs vs
  | .tup xs, v => ∃ a vs, v = .ref a ∧ SqT c.K G a vs ∧ RpL c t G xs vs
  | .row ns, v => ∃ a dx tn tm, v = .ref a ∧ G a = some (.ins c.R dx (rowFs tn tm ns)) ∧ SqT c.K G tn (ns.map V.int) ∧ SqT c.K G tm ((marksOf ns).map V.int)
  | .own p, v => v = .ref p
  | .pen, v => v = .ref t
  | .ty n, v => v = .ty n
  | .adr a, v => v = .ref a
  | .obj C fs, v => ∃ a dx vs, v = .ref a ∧ G a = some (.ins C dx vs) ∧ FsR c.K G fs vs
  | .dic, v => ∃ a, v = .ref a ∧ G a = some (.dK [])
  | .exc C ks xs, v => ∃ a dx vs, v = .ref a ∧ G a = some (exq a C dx) ∧ G dx = some (.xd (ks.zip vs)) ∧ ks.length = vs.length ∧ RpL c t G xs vs
def RpL (c : Cb) (t : Addr) (G : Hp) : List D → List V → Prop
  | [], vs => vs = []
  | d :: ds, vs => ∃ v r, vs = v :: r ∧ Rp c t G d v ∧ RpL c t G ds r
end

theorem Same.tup {K : PySem.W.Frag} {H H' : Hp} {a : Addr} {xs : List V} (e : Same H H') (h : SqT K H a xs) : SqT K H' a xs := by
  rcases h with (h | ⟨o, h⟩) | h
  · exact .inl (.inl (e _ _ h))
  · exact .inl (.inr ⟨o, e _ _ h⟩)
  · exact .inr h
theorem FvR.mono {K : PySem.W.Frag} {G G' : Hp} (e : Same G G') {d : FV} {v : V} (h : FvR K G d v) : FvR K G' d v := by
  cases d <;> simp only [FvR] at h ⊢ <;> first | exact h | skip
  obtain ⟨a, h1, h2⟩ := h
  exact ⟨a, h1, Same.tup e h2⟩
theorem FsR.mono {K : PySem.W.Frag} {G G' : Hp} (e : Same G G') : ∀ {fs : List (Str × FV)} {vs : List (Str × V)}, FsR K G fs vs → FsR K G' fs vs
  | [], vs, h => by simpa only [FsR] using h
  | (f, d) :: fs, vs, h => by
    simp only [FsR] at h ⊢
    obtain ⟨v, r, h1, h2, h3⟩ := h
    exact ⟨v, r, h1, h2.mono e, FsR.mono e h3⟩
section
variable {c : Cb} {t : Addr} {G G' H H' : Hp}
mutual
theorem Rp.mono (e : Same G G') : ∀ (d : D) (v : V), Rp c t G d v → Rp c t G' d v
  | .non, v, h => by simpa only [Rp] using h
  | .bl b, v, h => by simpa only [Rp] using h
  | .int i, v, h => by simpa only [Rp] using h
  | .str x, v, h => by simpa only [Rp] using h
  | .lst xs, v, h => by
    simp only [Rp] at h ⊢
    obtain ⟨a, vs, h1, h2, h3⟩ := h
    exact ⟨a, vs, h1, e _ _ h2, RpL.mono e xs vs h3⟩
  | .tup xs, v, h => by
    simp only [Rp] at h ⊢
    obtain ⟨a, vs, h1, h2, h3⟩ := h
    exact ⟨a, vs, h1, Same.tup e h2, RpL.mono e xs vs h3⟩
  | .row ns, v, h => by
    simp only [Rp] at h ⊢
    obtain ⟨a, dx, tn, tm, h1, h2, h3, h4⟩ := h
    exact ⟨a, dx, tn, tm, h1, e _ _ h2, Same.tup e h3, Same.tup e h4⟩
  | .own p, v, h => by simpa only [Rp] using h
  | .pen, v, h => by simpa only [Rp] using h
  | .ty n, v, h => by simpa only [Rp] using h
  | .adr a, v, h => by simpa only [Rp] using h
  | .obj C fs, v, h => by
    simp only [Rp] at h ⊢
    obtain ⟨a, dx, vs, h1, h2, h3⟩ := h
    exact ⟨a, dx, vs, h1, e _ _ h2, h3.mono e⟩
  | .dic, v, h => by
    simp only [Rp] at h ⊢
    obtain ⟨a, h1, h2⟩ := h
    exact ⟨a, h1, e _ _ h2⟩
  | .exc C ks xs, v, h => by
    simp only [Rp] at h ⊢
    obtain ⟨a, dx, vs, h1, h2, h3, h4, h5⟩ := h
    exact ⟨a, dx, vs, h1, e _ _ h2, e _ _ h3, h4, RpL.mono e xs vs h5⟩
theorem RpL.mono (e : Same G G') : ∀ (ds : List D) (vs : List V), RpL c t G ds vs → RpL c t G' ds vs
  | [], vs, h => by simpa only [RpL] using h
  | d :: ds, vs, h => by
    simp only [RpL] at h ⊢
    obtain ⟨v, r, h1, h2, h3⟩ := h
    exact ⟨v, r, h1, Rp.mono e d v h2, RpL.mono e ds r h3⟩
end
theorem RpL.len : ∀ {ds : List D} {vs : List V}, RpL c t G ds vs → vs.length = ds.length
  | [], vs, h => by simp only [RpL] at h; subst h; rfl
  | d :: ds, vs, h => by
    simp only [RpL] at h
    obtain ⟨v, r, rfl, _, h3⟩ := h
    simp only [List.length_cons, RpL.len h3]
theorem RpL.get : ∀ {ds : List D} {vs : List V} {i : Nat} {d : D}, RpL c t G ds vs → ds[i]? = some d → ∃ v, vs[i]? = some v ∧ Rp c t G d v
  | [], vs, i, d, _, e => by simp at e
  | x :: ds, vs, 0, d, h, e => by
    simp only [RpL] at h
    obtain ⟨v, r, rfl, h2, h3⟩ := h
    simp at e; subst e
    exact ⟨v, rfl, h2⟩
  | x :: ds, vs, i + 1, d, h, e => by
    simp only [RpL] at h
    obtain ⟨v, r, rfl, h2, h3⟩ := h
    obtain ⟨u, h4, h5⟩ := RpL.get (i := i) h3 (by simpa using e)
    exact ⟨u, by simpa using h4, h5⟩
theorem RpL.append : ∀ {ds es : List D} {vs us : List V}, RpL c t G ds vs → RpL c t G es us → RpL c t G (ds ++ es) (vs ++ us)
  | [], es, vs, us, h, g => by simp only [RpL] at h; subst h; exact g
  | d :: ds, es, vs, us, h, g => by
    simp only [RpL, List.cons_append] at h ⊢
    obtain ⟨v, r, rfl, h2, h3⟩ := h
    exact ⟨v, r ++ us, rfl, h2, RpL.append h3 g⟩
theorem RpL.one {d : D} {v : V} (h : Rp c t G d v) : RpL c t G [d] [v] := by
  simp only [RpL]; exact ⟨v, [], rfl, h, rfl⟩
theorem RpL.nil : RpL c t G [] [] := by simp only [RpL]
theorem RpL.cons {d : D} {ds : List D} {v : V} {vs : List V} (h : Rp c t G d v) (g : RpL c t G ds vs) : RpL c t G (d :: ds) (v :: vs) := by
  simp only [RpL]; exact ⟨v, vs, rfl, h, g⟩
theorem RpL.take : ∀ {ds : List D} {vs : List V} (n : Nat), RpL c t G ds vs → RpL c t G (ds.take n) (vs.take n)
  | _, _, 0, _ => by simp only [List.take_zero]; exact RpL.nil
  | [], vs, n + 1, h => by simp only [RpL] at h; subst h; exact RpL.nil
  | d :: ds, vs, n + 1, h => by
    simp only [RpL] at h
    obtain ⟨v, r, rfl, h2, h3⟩ := h
    simp only [List.take_succ_cons]
    exact RpL.cons h2 (RpL.take n h3)
theorem RpL.drop : ∀ {ds : List D} {vs : List V} (n : Nat), RpL c t G ds vs → RpL c t G (ds.drop n) (vs.drop n)
  | ds, vs, 0, h => h
  | [], vs, n + 1, h => by simp only [RpL] at h; subst h; exact RpL.nil
  | d :: ds, vs, n + 1, h => by
    simp only [RpL] at h
    obtain ⟨v, r, rfl, h2, h3⟩ := h
    simp only [List.drop_succ_cons]
    exact RpL.drop n h3
theorem RpL.set : ∀ {ds : List D} {vs : List V} (n : Nat) {d : D} {v : V}, Rp c t G d v → RpL c t G ds vs → RpL c t G (ds.set n d) (vs.set n v)
  | [], vs, n, d, v, _, h => by simp only [RpL] at h; subst h; simp only [List.set_nil]; exact RpL.nil
  | x :: ds, vs, 0, d, v, hd, h => by
    simp only [RpL] at h
    obtain ⟨u, r, rfl, h2, h3⟩ := h
    simp only [List.set_cons_zero]
    exact RpL.cons hd h3
  | x :: ds, vs, n + 1, d, v, hd, h => by
    simp only [RpL] at h
    obtain ⟨u, r, rfl, h2, h3⟩ := h
    simp only [List.set_cons_succ]
    exact RpL.cons h2 (RpL.set n hd h3)
theorem RpL.rep {ds : List D} {vs : List V} (h : RpL c t G ds vs) : ∀ n : Nat, RpL c t G (List.replicate n ds).flatten (List.replicate n vs).flatten
  | 0 => by simp only [List.replicate_zero, List.flatten_nil]; exact RpL.nil
  | n + 1 => by
    simp only [List.replicate_succ, List.flatten_cons]
    exact RpL.append h (RpL.rep h n)
theorem rpl_ints : ∀ {ns : List Int} {vs : List V}, RpL c t G (ns.map D.int) vs ↔ vs = ns.map V.int
  | [], vs => by simp only [List.map_nil, RpL]
  | n :: ns, vs => by
    simp only [List.map_cons, RpL, Rp]
    constructor
    · rintro ⟨v, r, rfl, rfl, h⟩; rw [rpl_ints.mp h]
    · rintro rfl; exact ⟨_, _, rfl, rfl, rpl_ints.mpr rfl⟩
theorem rpl_bls : ∀ {ns : List Bool} {vs : List V}, RpL c t G (ns.map D.bl) vs ↔ vs = ns.map V.bl
  | [], vs => by simp only [List.map_nil, RpL]
  | n :: ns, vs => by
    simp only [List.map_cons, RpL, Rp]
    constructor
    · rintro ⟨v, r, rfl, rfl, h⟩; rw [rpl_bls.mp h]
    · rintro rfl; exact ⟨_, _, rfl, rfl, rpl_bls.mpr rfl⟩
theorem rpl_strs : ∀ {ns : List Str} {vs : List V}, RpL c t G (ns.map D.str) vs ↔ vs = ns.map V.str
  | [], vs => by simp only [List.map_nil, RpL]
  | n :: ns, vs => by
    simp only [List.map_cons, RpL, Rp]
    constructor
    · rintro ⟨v, r, rfl, rfl, h⟩; rw [rpl_strs.mp h]
    · rintro rfl; exact ⟨_, _, rfl, rfl, rpl_strs.mpr rfl⟩
end

/-! ### the state -/
/-- what a step may change, of what was there: the tray, the tables of code objects -/
abbrev Fx (c : Cb) (t b : Addr) : Prop := b = t ∨ b ∈ c.T.map (·.1)
/-- the tables of code objects -/
abbrev TabsO (c : Cb) (H : Hp) : Prop := LamX.Tabs c.T H
structure PenOk (c : Cb) (t : Addr) (H G : Hp) (n : Nat) : Prop where
  ex : ∃ (a : Addr) (spot rest : Int), H t = some (.lst [.ref a, .int spot, .int rest]) ∧ G a = some (.lst (c.cells.map V.int)) ∧ 0 ≤ spot ∧ spot + n ≤ 1000000 ∧ 0 ≤ rest
  tab : TabsO c H
  nt : ∀ b o, G b = some o → Nt o
/-- entry: H0, G0; now: H, of which G stays as it is; owned lists; how many draws are left -/
structure Sb (c : Cb) (t : Addr) (H0 G0 H G : Hp) (μ : Mu) (n : Nat) : Prop where
  gh : Same G H
  gt : ∀ b, Fx c t b → G b = none
  pen : PenOk c t H G n
  own : ∀ e ∈ μ, e.1 ≠ t ∧ G e.1 = none ∧ (∀ o, Nt o → H0 e.1 ≠ some o) ∧ ∃ vs, H e.1 = some (.lst vs) ∧ RpL c t G e.2 vs
  g0 : Same G0 G
  h0 : ∀ b o, ¬ Fx c t b → Nt o → H0 b = some o → H b = some o
  n0 : ∀ b o, Nt o → H0 b = some o → G0 b = none → G b = none
structure S (c : Cn) (t : Addr) (H0 G0 H G : Hp) (μ : Mu) (n : Nat) : Prop extends Sb c.toCb t H0 G0 H G μ n where
  adm : c.A t H0 G0
/-- a step that changes the tray and the tables alone, of what was there -/
structure Stp (c : Cb) (t : Addr) (H G H' G' : Hp) (n' : Nat) : Prop where
  g : Same G G'
  gh : Same G' H'
  gt : ∀ b, Fx c t b → G' b = none
  pen : PenOk c t H' G' n'
  h : ∀ b o, ¬ Fx c t b → Nt o → H b = some o → H' b = some o
  n : ∀ b o, Nt o → H b = some o → G b = none → G' b = none
section
variable {c : Cb} {t : Addr} {H0 G0 H G H' G' : Hp} {μ : Mu} {n n' : Nat}
theorem PenOk.at (p : PenOk c t H G n) : ∃ o, H t = some o := by
  obtain ⟨a, spot, rest, h, _⟩ := p.ex; exact ⟨_, h⟩
theorem tabs_at (T : LamX.Tabs c.T H) {b : Addr} (h : b ∈ c.T.map (·.1)) : ∃ ps, H b = some (.tbl ps) := by
  obtain ⟨e, he, rfl⟩ := List.mem_map.mp h
  obtain ⟨ps, h1, _⟩ := T e he
  exact ⟨ps, h1⟩
/-- a list is no table -/
theorem PenOk.lst (p : PenOk c t H G n) {b : Addr} {vs : List V} (hb : b ≠ t) (h : H b = some (.lst vs)) : ¬ Fx c t b := fun z => by
  rcases z with z | z
  · exact hb z
  · obtain ⟨ps, e⟩ := tabs_at p.tab z
    rw [h] at e; cases e
theorem PenOk.fresh (p : PenOk c t H G n) {b : Addr} (h : H b = none) : ¬ Fx c t b := fun z => by
  rcases z with z | z
  · obtain ⟨o, e⟩ := p.at
    rw [← z, h] at e; cases e
  · obtain ⟨ps, e⟩ := tabs_at p.tab z
    rw [h] at e; cases e
theorem nt_lst {vs : List V} : Nt (.lst vs) := fun _ z => by cases z
theorem nt_upd {p : Addr} {o : HO} (no : Nt o) (T : ∀ b u, G b = some u → Nt u) : ∀ b u, upd G p o b = some u → Nt u := fun b u e => by
  by_cases hb : b = p
  · rw [hb, upd_same] at e; cases e; exact no
  · rw [upd_ne hb] at e; exact T b u e
theorem tabs_put {p : Addr} {o : HO} {vs : List V} (T : TabsO c H) (h : H p = some (.lst vs)) : TabsO c (upd H p o) := fun e he => by
  obtain ⟨ps, h1, h2, h3⟩ := T e he
  refine ⟨ps, by rw [upd_ne (fun z => by rw [z, h] at h1; cases h1)]; exact h1, h2, fun pos cv hc => ?_⟩
  obtain ⟨a, e1, e2⟩ := h3 pos cv hc
  exact ⟨a, e1, by rw [upd_ne (fun z => by rw [z, h] at e2; unfold LamX.CodeO at e2; cases e2)]; exact e2⟩
theorem PenOk.less {m : Nat} (p : PenOk c t H G n) (h : m ≤ n) : PenOk c t H G m := by
  obtain ⟨a, spot, rest, h1, h3, h6, h7, h8⟩ := p.ex
  exact ⟨⟨a, spot, rest, h1, h3, h6, by omega, h8⟩, p.tab, p.nt⟩
theorem Sb.fx (s : Sb c t H0 G0 H G μ n) {e : Addr × List D} (he : e ∈ μ) : ¬ Fx c t e.1 := by
  obtain ⟨h1, h2, h3, vs, h4, h5⟩ := s.own e he
  exact s.pen.lst h1 h4
theorem Sb.step (s : Sb c t H0 G0 H G μ n) (p : Stp c t H G H' G' n') : Sb c t H0 G0 H' G' μ n' where
  gh := p.gh
  gt := p.gt
  pen := p.pen
  own := fun e he => by
    obtain ⟨h1, h2, h3, vs, h4, h5⟩ := s.own e he
    exact ⟨h1, p.n _ _ nt_lst h4 h2, h3, vs, p.h _ _ (s.fx he) nt_lst h4, RpL.mono p.g _ _ h5⟩
  g0 := Same.trans s.g0 p.g
  h0 := fun b o hb no e => p.h b o hb no (s.h0 b o hb no e)
  n0 := fun b o no hb hg => by
    by_cases hbt : Fx c t b
    · exact p.gt b hbt
    · exact p.n b o no (s.h0 b o hbt no hb) (s.n0 b o no hb hg)
theorem Sb.same (s : Sb c t H0 G0 H G μ n) : Stp c t H G H G n := ⟨Same.refl _, s.gh, s.gt, s.pen, fun _ _ _ _ h => h, fun _ _ _ _ h => h⟩
theorem Sb.less {m : Nat} (s : Sb c t H0 G0 H G μ n) (h : m ≤ n) : Sb c t H0 G0 H G μ m := ⟨s.gh, s.gt, s.pen.less h, s.own, s.g0, s.h0, s.n0⟩
theorem same_new {H : Hp} {p : Addr} {o : HO} (h : H p = none) : Same H (upd H p o) := fun b u e => by
  rw [upd_ne (ne_of_none e h)]; exact e
theorem PenOk.keep (p : PenOk c t H G n) (k : ∀ o, H t = some o → H' t = some o) (g : Same G G') (kt : TabsO c H → TabsO c H') (kn : (∀ b o, G b = some o → Nt o) → ∀ b o, G' b = some o → Nt o) : PenOk c t H' G' n := by
  obtain ⟨a, spot, rest, h1, h3, h4⟩ := p.ex
  exact ⟨⟨a, spot, rest, k _ h1, g _ _ h3, h4⟩, kt p.tab, kn p.nt⟩
theorem tabs_new {p : Addr} {o : HO} (hp : H p = none) (T : TabsO c H) : TabsO c (upd H p o) := T.ext fun b u e => same_new hp b u e
/-- a new object that stays as it is -/
theorem Sb.new {p : Addr} {o : HO} (s : Sb c t H0 G0 H G μ n) (hp : H p = none) (no : Nt o := by intro _ z; cases z) : Stp c t H G (upd H p o) (upd G p o) n := by
  have gp : G p = none := s.gh.free hp
  have nf := s.pen.fresh hp
  refine ⟨same_new gp, fun b u e => ?_, fun b hb => ?_, s.pen.keep (same_new hp _) (same_new gp) (tabs_new hp) (nt_upd no), fun b u hb _ e => same_new hp _ _ e, fun b u nu hb hg => ?_⟩
  · unfold upd at e ⊢
    by_cases hb : b = p
    · rw [if_pos hb] at e ⊢; exact e
    · rw [if_neg hb] at e ⊢; exact s.gh _ _ e
  · have : b ≠ p := fun z => nf (z ▸ hb)
    rw [upd_ne this]; exact s.gt b hb
  · have : b ≠ p := fun e => by rw [e, hp] at hb; cases hb
    rw [upd_ne this]; exact hg
/-- a new list that is owned -/
theorem Sb.newOwn {p : Addr} {vs : List V} {xs : List D} (s : Sb c t H0 G0 H G μ n) (hp : H p = none) (r : RpL c t G xs vs) : Sb c t H0 G0 (upd H p (.lst vs)) G ((p, xs) :: μ) n := by
  have gp : G p = none := s.gh.free hp
  have k := same_new (o := .lst vs) hp
  have nf := s.pen.fresh hp
  refine ⟨fun b u e => k _ _ (s.gh _ _ e), s.gt, s.pen.keep (k _) (Same.refl _) (tabs_new hp) (fun z => z), fun e he => ?_, s.g0, fun b o hb no e => k _ _ (s.h0 b o hb no e), s.n0⟩
  rcases List.mem_cons.mp he with rfl | he
  · refine ⟨fun z => nf (.inl z), gp, fun o no q => ?_, vs, upd_same, r⟩
    have := s.h0 p o nf no q
    rw [hp] at this; cases this
  · obtain ⟨h1, h2, h3, us, h4, h5⟩ := s.own e he
    exact ⟨h1, h2, h3, us, k _ _ h4, h5⟩
/-- an owned list is changed -/
def muSet (μ : Mu) (p : Addr) (ys : List D) : Mu := μ.map fun e => if e.1 = p then (p, ys) else e
theorem Sb.setOwn {p : Addr} {us : List V} {ys : List D} {xs : List D} (s : Sb c t H0 G0 H G μ n) (hm : (p, xs) ∈ μ) (r : RpL c t G ys us) : Sb c t H0 G0 (upd H p (.lst us)) G (muSet μ p ys) n := by
  obtain ⟨h1, h2, h3, vs, h4, h5⟩ := s.own _ hm
  simp only at h1 h2 h3 h4
  refine ⟨fun b u e => ?_, s.gt, s.pen.keep (fun o e => by rw [upd_ne (Ne.symm h1)]; exact e) (Same.refl _) (fun T => tabs_put T h4) (fun z => z), fun e he => ?_, s.g0, fun b o hb no e => ?_, s.n0⟩
  · rw [upd_ne (ne_of_none e h2)]; exact s.gh _ _ e
  · obtain ⟨e0, he0, rfl⟩ := List.mem_map.mp he
    by_cases hp : e0.1 = p
    · rw [if_pos hp]; exact ⟨h1, h2, h3, us, upd_same, r⟩
    · rw [if_neg hp]
      obtain ⟨q1, q2, q3, ws, q4, q5⟩ := s.own _ he0
      exact ⟨q1, q2, q3, ws, by rw [upd_ne hp]; exact q4, q5⟩
  · have : b ≠ p := fun z => h3 o no (by rw [← z]; exact e)
    rw [upd_ne this]; exact s.h0 b o hb no e
/-- the owned lists become lists that stay -/
def muG (μ : Mu) (H G : Hp) : Hp := fun b => if b ∈ μ.map (·.1) then H b else G b
theorem Sb.freeze (s : Sb c t H0 G0 H G μ n) : Sb c t H0 G0 H (muG μ H G) [] n ∧ Same G (muG μ H G) ∧ ∀ e ∈ μ, ∀ v, v = V.ref e.1 → Rp c t (muG μ H G) (.lst e.2) v := by
  have sg : Same G (muG μ H G) := fun b o e => by
    unfold muG
    by_cases hb : b ∈ μ.map (·.1)
    · rw [if_pos hb]; exact s.gh _ _ e
    · rw [if_neg hb]; exact e
  refine ⟨⟨fun b o e => ?_, fun b hx => ?_, s.pen.keep (fun _ h => h) sg (fun T => T) (fun N b o e => ?_), fun e he => (by cases he), Same.trans s.g0 sg, s.h0, fun b o no hb hg => ?_⟩, sg, fun e he v hv => ?_⟩
  · unfold muG at e
    by_cases hb : b ∈ μ.map (·.1)
    · rw [if_pos hb] at e; exact e
    · rw [if_neg hb] at e; exact s.gh _ _ e
  · unfold muG
    rw [if_neg]
    · exact s.gt b hx
    · intro hm
      obtain ⟨e, he, q⟩ := List.mem_map.mp hm
      exact s.fx he (q ▸ hx)
  · unfold muG at e
    by_cases hb : b ∈ μ.map (·.1)
    · rw [if_pos hb] at e
      obtain ⟨e', he, q⟩ := List.mem_map.mp hb
      obtain ⟨_, _, _, vs, h4, _⟩ := s.own e' he
      rw [← q, h4] at e; cases e; exact nt_lst
    · rw [if_neg hb] at e; exact N b o e
  · unfold muG
    rw [if_neg]
    · exact s.n0 b o no hb hg
    · intro hm
      obtain ⟨e, he, q⟩ := List.mem_map.mp hm
      exact (s.own e he).2.2.1 o no (by rw [q]; exact hb)
  · obtain ⟨h1, h2, h3, vs, h4, h5⟩ := s.own e he
    simp only [Rp]
    refine ⟨e.1, vs, hv, ?_, RpL.mono sg _ _ h5⟩
    unfold muG
    rw [if_pos (List.mem_map.mpr ⟨e, he, rfl⟩)]; exact h4
end
section
variable {c : Cn} {t : Addr} {H0 G0 H G H' G' : Hp} {μ : Mu} {n n' : Nat}
theorem S.step (s : S c t H0 G0 H G μ n) (p : Stp c t H G H' G' n') : S c t H0 G0 H' G' μ n' := ⟨s.toSb.step p, s.adm⟩
theorem S.less {m : Nat} (s : S c t H0 G0 H G μ n) (h : m ≤ n) : S c t H0 G0 H G μ m := ⟨s.toSb.less h, s.adm⟩
theorem S.newOwn {p : Addr} {vs : List V} {xs : List D} (s : S c t H0 G0 H G μ n) (hp : H p = none) (r : RpL c t G xs vs) : S c t H0 G0 (upd H p (.lst vs)) G ((p, xs) :: μ) n := ⟨s.toSb.newOwn hp r, s.adm⟩
theorem S.setOwn {p : Addr} {us : List V} {ys : List D} {xs : List D} (s : S c t H0 G0 H G μ n) (hm : (p, xs) ∈ μ) (r : RpL c t G ys us) : S c t H0 G0 (upd H p (.lst us)) G (muSet μ p ys) n := ⟨s.toSb.setOwn hm r, s.adm⟩
theorem S.freeze (s : S c t H0 G0 H G μ n) : S c t H0 G0 H (muG μ H G) [] n ∧ Same G (muG μ H G) ∧ ∀ e ∈ μ, ∀ v, v = V.ref e.1 → Rp c t (muG μ H G) (.lst e.2) v :=
  let ⟨a, b, d⟩ := s.toSb.freeze
  ⟨⟨a, s.adm⟩, b, d⟩
/-- the entry's known part grows -/
theorem S.root {μ' : Mu} (s1 : S c t H0 G0 H' G' μ' n') {H3 G3 : Hp} (s3 : S c t H0 G0 H3 G3 μ n) (g : Same G' G3) : S c t H0 G' H3 G3 μ n := by
  refine ⟨⟨s3.gh, s3.gt, s3.pen, s3.own, g, s3.h0, fun b o no hb hg1 => ?_⟩, c.up _ _ _ _ s1.adm s1.g0 s1.n0⟩
  by_cases hbt : Fx c t b
  · exact s3.gt b hbt
  · refine s3.n0 b o no hb ?_
    cases e : G0 b with
    | none => rfl
    | some o => rw [s1.g0 _ _ e] at hg1; cases hg1
theorem S.unroot {μ' : Mu} (s1 : S c t H0 G0 H' G' μ' n') {H3 G3 : Hp} (s3 : S c t H0 G' H3 G3 μ n) : S c t H0 G0 H3 G3 μ n :=
  ⟨⟨s3.gh, s3.gt, s3.pen, s3.own, Same.trans s1.g0 s3.g0, s3.h0, fun b o no hb hg0 => s3.n0 b o no hb (s1.n0 b o no hb hg0)⟩, s1.adm⟩
end
end Dp

set_option Elab.async false
set_option linter.all false
set_option maxRecDepth 100000
set_option maxHeartbeats 4000001
namespace Dp
open PySem PySem.Spec PyProof.Rows L2
/-! ### readings over data -/
abbrev KD := D → Mu → Nat → Prop
abbrev WE := Env → Mu → Nat → KD → Prop
abbrev WT := Env → Mu → Nat → (Bool → Mu → Nat → Prop) → Prop
abbrev WA := Env → Mu → Nat → (List D → Mu → Nat → Prop) → Prop
structure DEnds where
  nx : Env → Mu → Nat → Prop
  rt : D → Nat → Prop
  bk : Env → Mu → Nat → Prop := fun _ _ _ => False
  ct : Env → Mu → Nat → Prop := fun _ _ _ => False
abbrev WS := DEnds → Env → Mu → Nat → Prop
def RpS (c : Cb) (t : Addr) (G : Hp) (σ : St) (ds : Env) : Prop := σ.length = ds.length ∧ ∀ (i : Nat) (d : D), ds[i]? = some (some d) → ∃ v, σ[i]? = some (some v) ∧ Rp c t G d v
section
variable {c : Cb} {t : Addr} {H0 G0 H G H' G' : Hp} {μ μ' : Mu} {n n' : Nat} {σ : St} {ds : Env}
theorem RpS.mono (e : Same G G') (r : RpS c t G σ ds) : RpS c t G' σ ds := ⟨r.1, fun i d h => by
  obtain ⟨v, h1, h2⟩ := r.2 i d h
  exact ⟨v, h1, Rp.mono e _ _ h2⟩⟩
theorem RpS.set {i : Nat} {d : D} {v : V} (r : RpS c t G σ ds) (h : Rp c t G d v) : RpS c t G (σ.set i (some v)) (ds.set i (some d)) := by
  refine ⟨by rw [List.length_set, List.length_set]; exact r.1, fun j e he => ?_⟩
  rw [List.getElem?_set] at he
  by_cases hij : i = j
  · subst hij
    rw [if_pos rfl] at he
    by_cases hl : i < ds.length
    · rw [if_pos hl] at he
      have : d = e := by simpa using he
      subst this
      exact ⟨v, by rw [List.getElem?_set, if_pos rfl, if_pos (by rw [r.1]; exact hl)], h⟩
    · rw [if_neg hl] at he; cases he
  · rw [if_neg hij] at he
    obtain ⟨u, h1, h2⟩ := r.2 j e he
    exact ⟨u, by rw [List.getElem?_set, if_neg hij]; exact h1, h2⟩
theorem dummy_ : True := trivial
def wipeD (ds : Env) (vs : List Nat) : Env := vs.foldl (fun d i => d.set i none) ds
end

def Kt (c : Cn) (t : Addr) (H0 G0 G : Hp) (Qd : KD) (Q : VK) : Prop := ∀ v H' G' d μ' n', S c t H0 G0 H' G' μ' n' → Same G G' → Rp c t G' d v → Qd d μ' n' → Q v H'
def Snd (c : Cn) (te : TE) (W : WE) : Prop := ∀ t H0 G0 H G σ ds μ n (Q : VK) (Qd : KD), RpS c t G σ ds → S c t H0 G0 H G μ n → W ds μ n Qd → Kt c t H0 G0 G Qd Q → te σ H Q
def SndT (c : Cn) (tt : TT) (W : WT) : Prop := ∀ t H0 G0 H G σ ds μ n (Q : Bool → Hp → Prop) (Qd : Bool → Mu → Nat → Prop), RpS c t G σ ds → S c t H0 G0 H G μ n → W ds μ n Qd →
  (∀ b H' G' μ' n', S c t H0 G0 H' G' μ' n' → Same G G' → Qd b μ' n' → Q b H') → tt σ H Q
def SndA (c : Cn) (ta : TA) (W : WA) : Prop := ∀ t H0 G0 H G σ ds μ n (Q : List V → Hp → Prop) (Qd : List D → Mu → Nat → Prop), RpS c t G σ ds → S c t H0 G0 H G μ n → W ds μ n Qd →
  (∀ vs H' G' xs μ' n', S c t H0 G0 H' G' μ' n' → Same G G' → RpL c t G' xs vs → Qd xs μ' n' → Q vs H') → ta σ H Q
def SndR (c : Cn) (r : R2) (rd : D → D → Mu → Nat → KD → Prop) : Prop := ∀ t H0 G0 H G x y dx dy μ n (Q : VK) (Qd : KD), S c t H0 G0 H G μ n → Rp c t G dx x → Rp c t G dy y → rd dx dy μ n Qd → Kt c t H0 G0 G Qd Q → r x y H Q
def SndU (c : Cn) (r : V → Hp → VK → Prop) (rd : D → Mu → Nat → KD → Prop) : Prop := ∀ t H0 G0 H G x dx μ n (Q : VK) (Qd : KD), S c t H0 G0 H G μ n → Rp c t G dx x → rd dx μ n Qd → Kt c t H0 G0 G Qd Q → r x H Q
def SndC (c : Cn) (r : List V → Hp → VK → Prop) (rd : List D → Mu → Nat → KD → Prop) : Prop := ∀ t H0 G0 H G xs ds μ n (Q : VK) (Qd : KD), S c t H0 G0 H G μ n → RpL c t G ds xs → rd ds μ n Qd → Kt c t H0 G0 G Qd Q → r xs H Q

section
variable {c : Cn} {te ta tb : TE} {tt tu tA tB' : TT} {ta' tr : TA} {wa wb wc : WE} {wt wu : WT} {ws wr : WA}
theorem Kt.mono {t : Addr} {H0 G0 G G' : Hp} {Qd : KD} {Q : VK} (k : Kt c t H0 G0 G Qd Q) (e : Same G G') : Kt c t H0 G0 G' Qd Q :=
  fun v H' G2 d μ' n' s g r q => k v H' G2 d μ' n' s (Same.trans e g) r q
theorem Kt.now {t : Addr} {H0 G0 H G : Hp} {Qd : KD} {Q : VK} {v : V} {d : D} {μ : Mu} {n : Nat} (k : Kt c t H0 G0 G Qd Q) (s : S c t H0 G0 H G μ n) (r : Rp c t G d v) (q : Qd d μ n) : Q v H := k v H G d μ n s (Same.refl _) r q

def wVar (i : Nat) : WE := fun ds μ n Q => ∃ d, ds[i]? = some (some d) ∧ Q d μ n
theorem snd_var {i : Nat} : Snd c (tVar i) (wVar i) := fun t H0 G0 H G σ ds μ n Q Qd r s ⟨d, hd, q⟩ k => by
  obtain ⟨v, h1, h2⟩ := r.2 i d hd
  exact ⟨v, h1, k.now s h2 q⟩
def wC (d : D) : WE := fun _ μ n Q => Q d μ n
theorem snd_int {i : Int} : Snd c (tC (.int i)) (wC (.int i)) := fun t H0 G0 H G σ ds μ n Q Qd r s q k => k.now s (by simp only [Rp]) q
theorem snd_bl {i : Bool} : Snd c (tC (.bl i)) (wC (.bl i)) := fun t H0 G0 H G σ ds μ n Q Qd r s q k => k.now s (by simp only [Rp]) q
theorem snd_str {i : Str} : Snd c (tC (.str i)) (wC (.str i)) := fun t H0 G0 H G σ ds μ n Q Qd r s q k => k.now s (by simp only [Rp]) q
theorem snd_ty {n : String} : Snd c (tC (.ty n)) (wC (.ty n)) := fun t H0 G0 H G σ ds μ n Q Qd r s q k => k.now s (by simp only [Rp]) q
theorem snd_adr {a : Addr} : Snd c (tC (.ref a)) (wC (.adr a)) := fun t H0 G0 H G σ ds μ n Q Qd r s q k => k.now s (by simp only [Rp]) q
theorem snd_non : Snd c (tC .non) (wC .non) := fun t H0 G0 H G σ ds μ n Q Qd r s q k => k.now s (by simp only [Rp]) q
def wOp (rd : D → D → Mu → Nat → KD → Prop) (wa wb : WE) : WE := fun ds μ n Q => wa ds μ n fun x μ1 n1 => wb ds μ1 n1 fun y μ2 n2 => rd x y μ2 n2 Q
theorem snd_op {r : R2} {rd : D → D → Mu → Nat → KD → Prop} (hr : SndR c r rd) (ha : Snd c ta wa) (hb : Snd c tb wb) : Snd c (tOp r ta tb) (wOp rd wa wb) := fun t H0 G0 H G σ ds μ n Q Qd r s w k =>
  ha t H0 G0 H G σ ds μ n _ _ r s w fun x H1 G1 dx μ1 n1 s1 g1 rx w1 =>
    hb t H0 G0 H1 G1 σ ds μ1 n1 _ _ (r.mono g1) s1 w1 fun y H2 G2 dy μ2 n2 s2 g2 ry w2 =>
      hr t H0 G0 H2 G2 x y dx dy μ2 n2 _ _ s2 (Rp.mono g2 _ _ rx) ry w2 (k.mono (Same.trans g1 g2))
def wUn (rd : D → Mu → Nat → KD → Prop) (wa : WE) : WE := fun ds μ n Q => wa ds μ n fun x μ1 n1 => rd x μ1 n1 Q
theorem snd_un {r : V → Hp → VK → Prop} {rd : D → Mu → Nat → KD → Prop} (hr : SndU c r rd) (ha : Snd c ta wa) : Snd c (tUn r ta) (wUn rd wa) := fun t H0 G0 H G σ ds μ n Q Qd r s w k =>
  ha t H0 G0 H G σ ds μ n _ _ r s w fun x H1 G1 dx μ1 n1 s1 g1 rx w1 => hr t H0 G0 H1 G1 x dx μ1 n1 _ _ s1 rx w1 (k.mono g1)

/-! ### tests, truths -/
def asBl (w : WE) : WT := fun ds μ n Q => w ds μ n fun d μ1 n1 => ∃ b, d = .bl b ∧ Q b μ1 n1
theorem sndT_test (h : Snd c te wa) : SndT c (tTest te) (asBl wa) := fun t H0 G0 H G σ ds μ n Q Qd r s w k =>
  h t H0 G0 H G σ ds μ n _ _ r s w fun v H1 G1 d μ1 n1 s1 g1 rv ⟨b, hb, q⟩ => by
    subst hb
    simp only [Rp] at rv
    exact ⟨b, rv, k b H1 G1 μ1 n1 s1 g1 q⟩
theorem sndT_B (h : Snd c te wa) : SndT c (tB te) (asBl wa) := fun t H0 G0 H G σ ds μ n Q Qd r s w k =>
  h t H0 G0 H G σ ds μ n _ _ r s w fun v H1 G1 d μ1 n1 s1 g1 rv ⟨b, hb, q⟩ => by
    subst hb
    simp only [Rp] at rv
    exact ⟨b, rv, k b H1 G1 μ1 n1 s1 g1 q⟩
def wAnd (wt wu : WT) : WT := fun ds μ n Q => wt ds μ n fun b μ1 n1 => if b = true then wu ds μ1 n1 Q else Q false μ1 n1
def wOr (wt wu : WT) : WT := fun ds μ n Q => wt ds μ n fun b μ1 n1 => if b = true then Q true μ1 n1 else wu ds μ1 n1 Q
def wNot (wt : WT) : WT := fun ds μ n Q => wt ds μ n fun b μ1 n1 => Q (!b) μ1 n1
theorem sndT_and (h : SndT c tt wt) (g : SndT c tu wu) : SndT c (tAnd tt tu) (wAnd wt wu) := fun t H0 G0 H G σ ds μ n Q Qd r s w k =>
  h t H0 G0 H G σ ds μ n _ _ r s w fun b H1 G1 μ1 n1 s1 g1 w1 => by
    cases b with
    | true => exact iteT (g t H0 G0 H1 G1 σ ds μ1 n1 _ _ (r.mono g1) s1 (by simpa only [if_true] using w1) fun b H2 G2 μ2 n2 s2 g2 q => k b H2 G2 μ2 n2 s2 (Same.trans g1 g2) q)
    | false => exact iteF (k false H1 G1 μ1 n1 s1 g1 (by simpa using w1))
theorem sndT_or (h : SndT c tt wt) (g : SndT c tu wu) : SndT c (tOr tt tu) (wOr wt wu) := fun t H0 G0 H G σ ds μ n Q Qd r s w k =>
  h t H0 G0 H G σ ds μ n _ _ r s w fun b H1 G1 μ1 n1 s1 g1 w1 => by
    cases b with
    | false => exact iteF (g t H0 G0 H1 G1 σ ds μ1 n1 _ _ (r.mono g1) s1 (by simpa using w1) fun b H2 G2 μ2 n2 s2 g2 q => k b H2 G2 μ2 n2 s2 (Same.trans g1 g2) q)
    | true => exact iteT (k true H1 G1 μ1 n1 s1 g1 (by simpa only [if_true] using w1))
theorem sndT_not (h : SndT c tt wt) : SndT c (tNot tt) (wNot wt) := fun t H0 G0 H G σ ds μ n Q Qd r s w k =>
  h t H0 G0 H G σ ds μ n _ _ r s w fun b H1 G1 μ1 n1 s1 g1 w1 => k (!b) H1 G1 μ1 n1 s1 g1 w1
def wAndV (wa wb : WE) : WE := fun ds μ n Q => wa ds μ n fun d μ1 n1 => ∃ b, d = .bl b ∧ if b = true then wb ds μ1 n1 Q else Q (.bl false) μ1 n1
def wOrV (wa wb : WE) : WE := fun ds μ n Q => wa ds μ n fun d μ1 n1 => ∃ b, d = .bl b ∧ if b = true then Q (.bl true) μ1 n1 else wb ds μ1 n1 Q
def wNotV (wa : WE) : WE := fun ds μ n Q => wa ds μ n fun d μ1 n1 => ∃ b, d = .bl b ∧ Q (.bl (!b)) μ1 n1
theorem snd_andV (h : Snd c ta wa) (g : Snd c tb wb) : Snd c (tAndV ta tb) (wAndV wa wb) := fun t H0 G0 H G σ ds μ n Q Qd r s w k =>
  h t H0 G0 H G σ ds μ n _ _ r s w fun v H1 G1 d μ1 n1 s1 g1 rv ⟨b, hb, w1⟩ => by
    subst hb
    simp only [Rp] at rv
    refine ⟨b, rv, ?_⟩
    cases b with
    | true => exact iteT (g t H0 G0 H1 G1 σ ds μ1 n1 _ _ (r.mono g1) s1 (by simpa only [if_true] using w1) (k.mono g1))
    | false => exact iteF (k (.bl false) H1 G1 (.bl false) μ1 n1 s1 g1 (by simp only [Rp]) (by simpa using w1))
theorem snd_orV (h : Snd c ta wa) (g : Snd c tb wb) : Snd c (tOrV ta tb) (wOrV wa wb) := fun t H0 G0 H G σ ds μ n Q Qd r s w k =>
  h t H0 G0 H G σ ds μ n _ _ r s w fun v H1 G1 d μ1 n1 s1 g1 rv ⟨b, hb, w1⟩ => by
    subst hb
    simp only [Rp] at rv
    refine ⟨b, rv, ?_⟩
    cases b with
    | false => exact iteF (g t H0 G0 H1 G1 σ ds μ1 n1 _ _ (r.mono g1) s1 (by simpa using w1) (k.mono g1))
    | true => exact iteT (k (.bl true) H1 G1 (.bl true) μ1 n1 s1 g1 (by simp only [Rp]) (by simpa only [if_true] using w1))
theorem snd_notV (h : Snd c ta wa) : Snd c (tNotV ta) (wNotV wa) := fun t H0 G0 H G σ ds μ n Q Qd r s w k =>
  h t H0 G0 H G σ ds μ n _ _ r s w fun v H1 G1 d μ1 n1 s1 g1 rv ⟨b, hb, w1⟩ => by
    subst hb
    simp only [Rp] at rv
    exact ⟨b, rv, k (.bl (!b)) H1 G1 (.bl (!b)) μ1 n1 s1 g1 (by simp only [Rp]) w1⟩
def wIf (wt : WT) (wa wb : WE) : WE := fun ds μ n Q => wt ds μ n fun b μ1 n1 => if b = true then wa ds μ1 n1 Q else wb ds μ1 n1 Q
theorem snd_if (h : SndT c tt wt) (g : Snd c ta wa) (g' : Snd c tb wb) : Snd c (tIf tt ta tb) (wIf wt wa wb) := fun t H0 G0 H G σ ds μ n Q Qd r s w k =>
  h t H0 G0 H G σ ds μ n _ _ r s w fun b H1 G1 μ1 n1 s1 g1 w1 => by
    cases b with
    | true => exact iteT (g t H0 G0 H1 G1 σ ds μ1 n1 _ _ (r.mono g1) s1 (by simpa only [if_true] using w1) (k.mono g1))
    | false => exact iteF (g' t H0 G0 H1 G1 σ ds μ1 n1 _ _ (r.mono g1) s1 (by simpa using w1) (k.mono g1))

/-! ### arguments, displays, built-ins -/
def wNil : WA := fun _ μ n Q => Q [] μ n
def wCons (wa : WE) (wr : WA) : WA := fun ds μ n Q => wa ds μ n fun d μ1 n1 => wr ds μ1 n1 fun xs μ2 n2 => Q (d :: xs) μ2 n2
theorem sndA_nil : SndA c tNil wNil := fun t H0 G0 H G σ ds μ n Q Qd r s w k => k [] H G [] μ n s (Same.refl _) RpL.nil w
theorem sndA_cons (h : Snd c ta wa) (g : SndA c tr wr) : SndA c (tCons ta tr) (wCons wa wr) := fun t H0 G0 H G σ ds μ n Q Qd r s w k =>
  h t H0 G0 H G σ ds μ n _ _ r s w fun v H1 G1 d μ1 n1 s1 g1 rv w1 =>
    g t H0 G0 H1 G1 σ ds μ1 n1 _ _ (r.mono g1) s1 w1 fun vs H2 G2 xs μ2 n2 s2 g2 rs w2 =>
      k (v :: vs) H2 G2 (d :: xs) μ2 n2 s2 (Same.trans g1 g2) (RpL.cons (Rp.mono g2 _ _ rv) rs) w2
def wTup (wr : WA) : WE := fun ds μ n Q => wr ds μ n fun xs μ1 n1 => xs.length ≤ 100000 ∧ Q (.tup xs) μ1 n1
def wLst (wr : WA) : WE := fun ds μ n Q => wr ds μ n fun xs μ1 n1 => xs.length ≤ 100000 ∧ Q (.lst xs) μ1 n1
theorem sz_of {n : Nat} (h : n ≤ 100000) : n ≤ sizeLine := Nat.le_trans h (by decide)
theorem sz_lt {n : Nat} (h : n < 100000) : n < sizeLine := Nat.lt_of_lt_of_le h (by decide)
theorem Rp.lstNew {t p : Addr} {G : Hp} {vs : List V} {xs : List D} (h : G p = some (.lst vs)) (r : RpL c t G xs vs) : Rp c t G (.lst xs) (.ref p) := by
  simp only [Rp]; exact ⟨p, vs, rfl, h, r⟩
theorem Rp.tupNew {t p : Addr} {G : Hp} {vs : List V} {xs : List D} (h : G p = some (.tup vs)) (r : RpL c t G xs vs) : Rp c t G (.tup xs) (.ref p) := by
  simp only [Rp]; exact ⟨p, vs, rfl, SqT.of h, r⟩
theorem kt_lst {t p : Addr} {H0 G0 H G : Hp} {Qd : KD} {Q : VK} {vs : List V} {xs : List D} {μ : Mu} {n : Nat} (k : Kt c t H0 G0 G Qd Q) (s : S c t H0 G0 H G μ n) (r : RpL c t G xs vs) (hp : H p = none) (q : Qd (.lst xs) μ n) : Q (.ref p) (upd H p (.lst vs)) :=
  let st := s.new (o := .lst vs) hp
  k _ _ _ _ _ _ (s.step st) st.g (Rp.lstNew upd_same (RpL.mono st.g _ _ r)) q
theorem kt_tup {t p : Addr} {H0 G0 H G : Hp} {Qd : KD} {Q : VK} {vs : List V} {xs : List D} {μ : Mu} {n : Nat} (k : Kt c t H0 G0 G Qd Q) (s : S c t H0 G0 H G μ n) (r : RpL c t G xs vs) (hp : H p = none) (q : Qd (.tup xs) μ n) : Q (.ref p) (upd H p (.tup vs)) :=
  let st := s.new (o := .tup vs) hp
  k _ _ _ _ _ _ (s.step st) st.g (Rp.tupNew upd_same (RpL.mono st.g _ _ r)) q
theorem snd_tup (h : SndA c tr wr) : Snd c (tTup tr) (wTup wr) := fun t H0 G0 H G σ ds μ n Q Qd r s w k =>
  h t H0 G0 H G σ ds μ n _ _ r s w fun vs H1 G1 xs μ1 n1 s1 g1 rs ⟨hl, w1⟩ => ⟨by rw [RpL.len rs]; exact sz_of hl, fun p hp => kt_tup (k.mono g1) s1 rs hp w1⟩
theorem snd_lst (h : SndA c tr wr) : Snd c (tLst tr) (wLst wr) := fun t H0 G0 H G σ ds μ n Q Qd r s w k =>
  h t H0 G0 H G σ ds μ n _ _ r s w fun vs H1 G1 xs μ1 n1 s1 g1 rs ⟨hl, w1⟩ => ⟨by rw [RpL.len rs]; exact sz_of hl, fun p hp => kt_lst (k.mono g1) s1 rs hp w1⟩
/-- the display is a list that is owned -/
def wLstO (wr : WA) : WE := fun ds μ n Q => wr ds μ n fun xs μ1 n1 => xs.length ≤ 100000 ∧ ∀ p, (∀ e ∈ μ1, e.1 ≠ p) → Q (.own p) ((p, xs) :: μ1) n1
theorem S.fresh_own {t : Addr} {H0 G0 H G : Hp} {μ : Mu} {n : Nat} (s : S c t H0 G0 H G μ n) {p : Addr} (hp : H p = none) : ∀ e ∈ μ, e.1 ≠ p := fun e he z => by
  obtain ⟨_, _, _, vs, h, _⟩ := s.own e he
  rw [z, hp] at h; cases h
theorem kt_own {t p : Addr} {H0 G0 H G : Hp} {Qd : KD} {Q : VK} {vs : List V} {xs : List D} {μ : Mu} {n : Nat} (k : Kt c t H0 G0 G Qd Q) (s : S c t H0 G0 H G μ n) (r : RpL c t G xs vs) (hp : H p = none) (q : ∀ p, (∀ e ∈ μ, e.1 ≠ p) → Qd (.own p) ((p, xs) :: μ) n) : Q (.ref p) (upd H p (.lst vs)) :=
  k _ _ G _ _ _ (s.newOwn hp r) (Same.refl _) (by simp only [Rp]) (q p (s.fresh_own hp))
theorem snd_lstO (h : SndA c tr wr) : Snd c (tLst tr) (wLstO wr) := fun t H0 G0 H G σ ds μ n Q Qd r s w k =>
  h t H0 G0 H G σ ds μ n _ _ r s w fun vs H1 G1 xs μ1 n1 s1 g1 rs ⟨hl, w1⟩ => ⟨by rw [RpL.len rs]; exact sz_of hl, fun p hp => kt_own (k.mono g1) s1 rs hp w1⟩
def wCB (rd : List D → Mu → Nat → KD → Prop) (wr : WA) : WE := fun ds μ n Q => wr ds μ n fun xs μ1 n1 => rd xs μ1 n1 Q
theorem snd_cb {r : List V → Hp → VK → Prop} {rd : List D → Mu → Nat → KD → Prop} (hr : SndC c r rd) (h : SndA c tr wr) : Snd c (tCB r tr) (wCB rd wr) := fun t H0 G0 H G σ ds μ n Q Qd r s w k =>
  h t H0 G0 H G σ ds μ n _ _ r s w fun vs H1 G1 xs μ1 n1 s1 g1 rs w1 => hr t H0 G0 H1 G1 vs xs μ1 n1 _ _ s1 rs w1 (k.mono g1)
end

/-! ### promises of defs -/
abbrev FD := List D → Nat → (D → Nat → Prop) → Prop
def spD (c : Cb) (k : Nat) (F : FD) : Sp := fun vs H Q _ => ∃ t G ds n Qd, vs.length = k ∧ RpL c t G ds vs ∧ Same G H ∧ (∀ b, Fx c t b → G b = none) ∧ PenOk c t H G n ∧ F ds n Qd ∧
  ∀ v H' G' d n', Stp c t H G H' G' n' → Rp c t G' d v → Qd d n' → Q v H'
section
variable {c : Cn} {tr tk : TA} {wr wk : WA} {ta : TE} {wa : WE}
/-- a call -/
def wCall (F : FD) (wr : WA) : WE := fun ds μ n Q => wr ds μ n fun xs μ1 n1 => F xs n1 fun d n2 => Q d μ1 n2
theorem snd_call {k : Nat} {F : FD} {E : XK} (hF : ∀ ds n Q, F ds n Q → ds.length = k) (h : SndA c tr wr) : Snd c (tCall (spD c k F) [] E tr) (wCall F wr) := fun t H0 G0 H G σ ds μ n Q Qd r s w kk =>
  h t H0 G0 H G σ ds μ n _ _ r s w fun vs H1 G1 xs μ1 n1 s1 g1 rs w1 => by
    rw [List.append_nil]
    refine ⟨t, G1, xs, n1, _, (RpL.len rs).trans (hF _ _ _ w1), rs, s1.gh, s1.gt, s1.pen, w1, fun v H2 G2 d n2 st rv q => kk v H2 G2 d μ1 n2 (s1.step st) (Same.trans g1 st.g) rv q⟩
def wCallK (F : FD) (g : List D → List D → List D) (wr wk : WA) : WE := fun ds μ n Q => wr ds μ n fun xs μ1 n1 => wk ds μ1 n1 fun ys μ2 n2 => F (g xs ys) n2 fun d n3 => Q d μ2 n3
theorem snd_callK {k : Nat} {F : FD} {E : XK} {gV : List V → List V → List V} {gD : List D → List D → List D} (hg : ∀ t G xs ys vs us, RpL c t G xs vs → RpL c t G ys us → RpL c t G (gD xs ys) (gV vs us))
    (hF : ∀ ds n Q, F ds n Q → ds.length = k) (h : SndA c tr wr) (h2 : SndA c tk wk) : Snd c (tCallK (spD c k F) gV E tr tk) (wCallK F gD wr wk) := fun t H0 G0 H G σ ds μ n Q Qd r s w kk =>
  h t H0 G0 H G σ ds μ n _ _ r s w fun vs H1 G1 xs μ1 n1 s1 g1 rs w1 =>
    h2 t H0 G0 H1 G1 σ ds μ1 n1 _ _ (r.mono g1) s1 w1 fun us H2 G2 ys μ2 n2 s2 g2 rs2 w2 => by
      have rr := hg t G2 xs ys vs us (RpL.mono g2 _ _ rs) rs2
      exact ⟨t, G2, gD xs ys, n2, _, (RpL.len rr).trans (hF _ _ _ w2), rr, s2.gh, s2.gt, s2.pen, w2, fun v H3 G3 d n3 st rv q => kk v H3 G3 d μ2 n3 (s2.step st) (Same.trans g1 (Same.trans g2 st.g)) rv q⟩
end

/-! ### statements -/
def SndS (c : Cn) (ts : TS) (W : WS) : Prop := ∀ t H0 G0 H G σ ds μ n (De : DEnds) (E : Ends), RpS c t G σ ds → S c t H0 G0 H G μ n →
  (∀ σ' H' G' ds' μ' n', RpS c t G' σ' ds' → S c t H0 G0 H' G' μ' n' → De.nx ds' μ' n' → E.nx σ' H') →
  (∀ v H' G' d n', S c t H0 G0 H' G' [] n' → Rp c t G' d v → De.rt d n' → E.rt v H') →
  (∀ σ' H' G' ds' μ' n', RpS c t G' σ' ds' → S c t H0 G0 H' G' μ' n' → De.bk ds' μ' n' → E.bk σ' H') →
  (∀ σ' H' G' ds' μ' n', RpS c t G' σ' ds' → S c t H0 G0 H' G' μ' n' → De.ct ds' μ' n' → E.ct σ' H') →
  W De ds μ n → ts E σ H
mutual
def frz (μ : Mu) : D → D
  | .own p => match μ.lookup p with
    | some xs => .lst xs
    | none => .own p
  | .lst xs => .lst (frzL μ xs)
  | .tup xs => .tup (frzL μ xs)
  | d => d
def frzL (μ : Mu) : List D → List D
  | [] => []
  | d :: ds => frz μ d :: frzL μ ds
end
theorem lookup_mem {μ : Mu} {p : Addr} {xs : List D} (h : μ.lookup p = some xs) : (p, xs) ∈ μ := by
  induction μ with
  | nil => cases h
  | cons e r ih =>
    obtain ⟨a, ys⟩ := e
    rw [List.lookup_cons] at h
    by_cases hp : p = a
    · subst hp
      rw [beq_self_eq_true] at h
      cases h
      exact List.mem_cons_self
    · rw [beq_false_of_ne hp] at h
      exact List.mem_cons_of_mem _ (ih h)
section
variable {c : Cn} {t : Addr} {H0 G0 H G : Hp} {μ : Mu} {n : Nat}
mutual
theorem frz_ok (sg : Same G (muG μ H G)) (hm : ∀ e ∈ μ, ∀ v, v = V.ref e.1 → Rp c t (muG μ H G) (.lst e.2) v) : ∀ (d : D) (v : V), Rp c t G d v → Rp c t (muG μ H G) (frz μ d) v
  | .non, v, h => by simpa only [frz, Rp] using h
  | .bl b, v, h => by simpa only [frz, Rp] using h
  | .int i, v, h => by simpa only [frz, Rp] using h
  | .str x, v, h => by simpa only [frz, Rp] using h
  | .lst xs, v, h => by
    simp only [frz, Rp] at h ⊢
    obtain ⟨a, vs, h1, h2, h3⟩ := h
    exact ⟨a, vs, h1, sg _ _ h2, frzL_ok sg hm xs vs h3⟩
  | .tup xs, v, h => by
    simp only [frz, Rp] at h ⊢
    obtain ⟨a, vs, h1, h2, h3⟩ := h
    exact ⟨a, vs, h1, Same.tup sg h2, frzL_ok sg hm xs vs h3⟩
  | .row ns, v, h => by simpa only [frz] using Rp.mono sg _ _ h
  | .own p, v, h => by
    simp only [frz]
    cases e : μ.lookup p with
    | none => simpa only [Rp] using h
    | some xs => exact hm (p, xs) (lookup_mem e) v (by simpa only [Rp] using h)
  | .pen, v, h => by simpa only [frz, Rp] using h
  | .ty n, v, h => by simpa only [frz, Rp] using h
  | .adr a, v, h => by simpa only [frz, Rp] using h
  | .obj C fs, v, h => by simpa only [frz] using Rp.mono sg _ _ h
  | .dic, v, h => by simpa only [frz] using Rp.mono sg _ _ h
  | .exc C ks xs, v, h => by simpa only [frz] using Rp.mono sg _ _ h
theorem frzL_ok (sg : Same G (muG μ H G)) (hm : ∀ e ∈ μ, ∀ v, v = V.ref e.1 → Rp c t (muG μ H G) (.lst e.2) v) : ∀ (ds : List D) (vs : List V), RpL c t G ds vs → RpL c t (muG μ H G) (frzL μ ds) vs
  | [], vs, h => by simpa only [frzL, RpL] using h
  | d :: ds, vs, h => by
    simp only [frzL, RpL] at h ⊢
    obtain ⟨v, r, h1, h2, h3⟩ := h
    exact ⟨v, r, h1, frz_ok sg hm d v h2, frzL_ok sg hm ds r h3⟩
end
end
section
variable {c : Cn} {te ta tb ti : TE} {tt : TT} {tr : TA} {ts tu : TS} {we wa wb wi' : WE} {wt : WT} {wr : WA} {ws wu : WS}
def wNext : WS := fun De ds μ n => De.nx ds μ n
def wSeq (ws wu : WS) : WS := fun De ds μ n => ws { De with nx := wu De } ds μ n
theorem sndS_next : SndS c tNext wNext := fun t H0 G0 H G σ ds μ n De E r s k1 k2 k3 k4 w => k1 σ H G ds μ n r s w
theorem sndS_seq (h : SndS c ts ws) (g : SndS c tu wu) : SndS c (tSeq ts tu) (wSeq ws wu) := fun t H0 G0 H G σ ds μ n De E r s k1 k2 k3 k4 w =>
  h t H0 G0 H G σ ds μ n { De with nx := wu De } { E with nx := tu E } r s (fun σ' H' G' ds' μ' n' r' s' w' => g t H0 G0 H' G' σ' ds' μ' n' De E r' s' k1 k2 k3 k4 w') k2 k3 k4 w
def wRet (we : WE) : WS := fun De ds μ n => we ds μ n fun d μ1 n1 => De.rt (frz μ1 d) n1
theorem sndS_ret (h : Snd c te we) : SndS c (tRet te) (wRet we) := fun t H0 G0 H G σ ds μ n De E r s k1 k2 k3 k4 w =>
  h t H0 G0 H G σ ds μ n _ _ r s w fun v H1 G1 d μ1 n1 s1 g1 rv w1 =>
    let ⟨s2, sg, hm⟩ := s1.freeze
    k2 v H1 _ (frz μ1 d) n1 s2 (frz_ok sg hm d v rv) w1
def wRetN : WS := fun De _ _ n => De.rt .non n
theorem sndS_retN : SndS c tRetN wRetN := fun t H0 G0 H G σ ds μ n De E r s k1 k2 k3 k4 w => k2 .non H _ .non n s.freeze.1 (by simp only [Rp]) w
def wNever : WS := fun _ _ _ _ => False
theorem sndS_never : SndS c tNever wNever := fun t H0 G0 H G σ ds μ n De E r s k1 k2 k3 k4 w => w.elim
def wBreak : WS := fun De ds μ n => De.bk ds μ n
def wCont : WS := fun De ds μ n => De.ct ds μ n
theorem sndS_break : SndS c tBreak wBreak := fun t H0 G0 H G σ ds μ n De E r s k1 k2 k3 k4 w => k3 σ H G ds μ n r s w
theorem sndS_cont : SndS c tCont wCont := fun t H0 G0 H G σ ds μ n De E r s k1 k2 k3 k4 w => k4 σ H G ds μ n r s w
def wDrop (we : WE) : WS := fun De ds μ n => we ds μ n fun _ μ1 n1 => De.nx ds μ1 n1
theorem sndS_drop (h : Snd c te we) : SndS c (tDrop te) (wDrop we) := fun t H0 G0 H G σ ds μ n De E r s k1 k2 k3 k4 w =>
  h t H0 G0 H G σ ds μ n _ _ r s w fun v H1 G1 d μ1 n1 s1 g1 rv w1 => k1 σ H1 G1 ds μ1 n1 (r.mono g1) s1 w1
def wIfS (wt : WT) (ws wu : WS) : WS := fun De ds μ n => wt ds μ n fun b μ1 n1 => if b = true then ws De ds μ1 n1 else wu De ds μ1 n1
theorem sndS_if (h : SndT c tt wt) (g : SndS c ts ws) (g' : SndS c tu wu) : SndS c (tIfS tt ts tu) (wIfS wt ws wu) := fun t H0 G0 H G σ ds μ n De E r s k1 k2 k3 k4 w =>
  h t H0 G0 H G σ ds μ n _ _ r s w fun b H1 G1 μ1 n1 s1 g1 w1 => by
    cases b with
    | true => exact iteT (g t H0 G0 H1 G1 σ ds μ1 n1 De E (r.mono g1) s1 k1 k2 k3 k4 (by simpa only [if_true] using w1))
    | false => exact iteF (g' t H0 G0 H1 G1 σ ds μ1 n1 De E (r.mono g1) s1 k1 k2 k3 k4 (by simpa using w1))
/-! targets -/
abbrev WG := D → Env → (Env → Prop) → Prop
def SndG (c : Cn) (g : TG) (W : WG) : Prop := ∀ t (H G : Hp) σ ds v d (Q : St → Hp → Prop) (Qd : Env → Prop), RpS c t G σ ds → Same G H → Rp c t G d v → W d ds Qd → (∀ σ' ds', RpS c t G σ' ds' → Qd ds' → Q σ' H) → g v σ H Q
def gwName (i : Nat) : WG := fun d ds Q => Q (ds.set i (some d))
theorem sndG_name {i : Nat} : SndG c (gName i) (gwName i) := fun t H G σ ds v d Q Qd r gh rv w k => k _ _ (r.set rv) w
abbrev WGs := List D → Env → (Env → Prop) → Prop
def SndGs (c : Cn) (g : TGs) (W : WGs) : Prop := ∀ t (H G : Hp) σ ds vs xs (Q : St → Hp → Prop) (Qd : Env → Prop), RpS c t G σ ds → Same G H → RpL c t G xs vs → W xs ds Qd → (∀ σ' ds', RpS c t G σ' ds' → Qd ds' → Q σ' H) → g vs σ H Q
def gwNil : WGs := fun xs ds Q => xs = [] ∧ Q ds
def gwCons (g : WG) (gs : WGs) : WGs := fun xs ds Q => ∃ d r, xs = d :: r ∧ g d ds fun ds' => gs r ds' Q
theorem sndGs_nil : SndGs c gNil gwNil := fun t H G σ ds vs xs Q Qd r gh rv w k => by
  obtain ⟨rfl, w⟩ := w
  simp only [RpL] at rv
  exact ⟨rv, k _ _ r w⟩
theorem sndGs_cons {g : TG} {gs : TGs} {w : WG} {ws : WGs} (h : SndG c g w) (h2 : SndGs c gs ws) : SndGs c (gCons g gs) (gwCons w ws) := fun t H G σ ds vs xs Q Qd r gh rv w k => by
  obtain ⟨d, xr, rfl, w⟩ := w
  simp only [RpL] at rv
  obtain ⟨v, vr, rfl, h3, h4⟩ := rv
  exact ⟨v, vr, rfl, h t H G σ ds v d _ _ r gh h3 w fun σ' ds' r' w' => h2 t H G σ' ds' vr xr _ _ r' gh h4 w' k⟩
def gwTup (m : Nat) (gs : WGs) : WG := fun d ds Q => ∃ xs, d = .tup xs ∧ xs.length = m ∧ gs xs ds Q
theorem sndG_tup {m : Nat} {gs : TGs} {ws : WGs} (h : SndGs c gs ws) : SndG c (gTup c.K m gs) (gwTup m ws) := fun t H G σ ds v d Q Qd r gh rv w k => by
  obtain ⟨xs, rfl, hl, w⟩ := w
  simp only [Rp] at rv
  obtain ⟨a, vs, rfl, h1, h2⟩ := rv
  exact ⟨a, vs, rfl, Same.tup gh h1, (RpL.len h2).trans hl, h t H G σ ds vs xs _ _ r gh h2 w k⟩
def wAsg (we : WE) (g : WG) : WS := fun De ds μ n => we ds μ n fun d μ1 n1 => g d ds fun ds' => De.nx ds' μ1 n1
theorem sndS_asg {g : TG} {wg : WG} (h : Snd c te we) (hg : SndG c g wg) : SndS c (tAsg te g) (wAsg we wg) := fun t H0 G0 H G σ ds μ n De E r s k1 k2 k3 k4 w =>
  h t H0 G0 H G σ ds μ n _ _ r s w fun v H1 G1 d μ1 n1 s1 g1 rv w1 =>
    hg t H1 G1 σ ds v d _ _ (r.mono g1) s1.gh rv w1 fun σ' ds' r' w' => k1 σ' H1 G1 ds' μ1 n1 r' s1 w'
def wPar (i j : Nat) (wr : WA) : WS := fun De ds μ n => wr ds μ n fun xs μ1 n1 => ∃ x y, xs = [x, y] ∧ De.nx ((ds.set i (some x)).set j (some y)) μ1 n1
theorem sndS_par {i j : Nat} (h : SndA c tr wr) : SndS c (tPar i j tr) (wPar i j wr) := fun t H0 G0 H G σ ds μ n De E r s k1 k2 k3 k4 w =>
  h t H0 G0 H G σ ds μ n _ _ r s w fun vs H1 G1 xs μ1 n1 s1 g1 rs ⟨x, y, hx, w1⟩ => by
    subst hx
    simp only [RpL] at rs
    obtain ⟨v, _, rfl, h1, u, _, rfl, h2, rfl⟩ := rs
    exact ⟨v, u, rfl, k1 _ H1 G1 _ μ1 n1 (((r.mono g1).set h1).set h2) s1 w1⟩
def wPar3 (i j l : Nat) (wr : WA) : WS := fun De ds μ n => wr ds μ n fun xs μ1 n1 => ∃ x y z, xs = [x, y, z] ∧ De.nx (((ds.set i (some x)).set j (some y)).set l (some z)) μ1 n1
theorem sndS_par3 {i j l : Nat} (h : SndA c tr wr) : SndS c (tPar3 i j l tr) (wPar3 i j l wr) := fun t H0 G0 H G σ ds μ n De E r s k1 k2 k3 k4 w =>
  h t H0 G0 H G σ ds μ n _ _ r s w fun vs H1 G1 xs μ1 n1 s1 g1 rs ⟨x, y, z, hx, w1⟩ => by
    subst hx
    simp only [RpL] at rs
    obtain ⟨v, _, rfl, h1, u, _, rfl, h2, q, _, rfl, h3, rfl⟩ := rs
    exact ⟨v, u, q, rfl, k1 _ H1 G1 _ μ1 n1 ((((r.mono g1).set h1).set h2).set h3) s1 w1⟩
def wAug (i : Nat) (we : WE) (f : Int → Int → Int) : WS := fun De ds μ n => ∃ a, ds[i]? = some (some (.int a)) ∧ we ds μ n fun d μ1 n1 => ∃ b, d = .int b ∧ De.nx (ds.set i (some (.int (f a b)))) μ1 n1
theorem sndS_aug {i : Nat} {f : Int → Int → Int} (h : Snd c te we) : SndS c (tAug i te (ipI f)) (wAug i we f) := fun t H0 G0 H G σ ds μ n De E r s k1 k2 k3 k4 ⟨a, ha, w⟩ => by
  obtain ⟨v, h1, h2⟩ := r.2 i _ ha
  simp only [Rp] at h2
  subst h2
  refine ⟨_, h1, h t H0 G0 H G σ ds μ n _ _ r s w fun u H1 G1 d μ1 n1 s1 g1 rv ⟨b, hb, w1⟩ => ?_⟩
  subst hb
  simp only [Rp] at rv
  subst rv
  exact ⟨a, b, rfl, rfl, k1 _ H1 G1 _ μ1 n1 ((r.mono g1).set (by simp only [Rp])) s1 w1⟩
end
end Dp

set_option Elab.async false
set_option linter.all false
set_option maxRecDepth 100000
set_option maxHeartbeats 4000001
namespace Dp
open PySem PySem.Spec PyProof.Rows L2
/-! ### operations -/
section
variable {X : Cx}
theorem opImp {f : Value → Value → Sem Value} {r r' : R2} (h : OpR X f r) (i : ∀ x y H Q, r' x y H Q → r x y H Q) : OpR X f r' := fun pins s σ H x y v u Q I rx ry q => h pins s σ H x y v u Q I rx ry (i _ _ _ _ q)
def rAdd (K : PySem.W.Frag) : R2 := fun x y H Q => rI0 (fun i j => .int (i + j)) x y H Q ∨ rCat x y H Q ∨ rCatA K x y H Q ∨ (∃ i j, x = .str i ∧ y = .str j ∧ i.length + j.length ≤ sizeLine ∧ Q (.str (i ++ j)) H)
theorem opAdd : OpR X (binaryOp .Add) (rAdd X.K) := op_add.or (op_cat.or (op_catA.or op_add_str))
def rMul (K : PySem.W.Frag) : R2 := fun x y H Q => rI (fun i j => CMul i j ∨ CMulW i j) (fun i j => .int (i * j)) x y H Q ∨ rRep x y H Q ∨ rRepT K x y H Q
theorem opMulI : OpR X (binaryOp .Mult) (rI (fun i j => CMul i j ∨ CMulW i j) fun i j => .int (i * j)) := opImp (op_mul.or op_mulW) fun x y H Q ⟨i, j, h1, h2, h3, q⟩ => h3.elim (fun h => .inl ⟨i, j, h1, h2, h, q⟩) fun h => .inr ⟨i, j, h1, h2, h, q⟩
theorem opMul : OpR X (binaryOp .Mult) (rMul X.K) := opMulI.or (op_rep.or op_repT)
def rSub : R2 := rI0 fun i j => .int (i - j)
theorem opSub : OpR X (binaryOp .Sub) rSub := op_sub
def rDiv : R2 := rI (fun i j => (0 < j ∧ j < 1073741824) ∨ CDivW i j) fun i j => .int (i / j)
theorem opDiv : OpR X (binaryOp .FloorDiv) rDiv := opImp (op_fdiv.or op_fdivW) fun x y H Q ⟨i, j, h1, h2, h3, q⟩ => h3.elim (fun h => .inl ⟨i, j, h1, h2, h, q⟩) fun h => .inr ⟨i, j, h1, h2, h, q⟩
def rMod : R2 := rI (fun _ j => 0 < j) fun i j => .int (i % j)
theorem opMod : OpR X (binaryOp .Mod) rMod := op_mod
def rPow : R2 := rI CPow fun i j => .int (i ^ j.toNat)
theorem opPow : OpR X (binaryOp .Pow) rPow := op_pow
def rLt : R2 := rI0 fun i j => .bl (decide (i < j))
def rLe : R2 := rI0 fun i j => .bl (decide (i ≤ j))
def rGt : R2 := rI0 fun i j => .bl (decide (j < i))
def rGe : R2 := rI0 fun i j => .bl (decide (j ≤ i))
theorem opLt : OpR X (compareOp .Lt) rLt := op_lt
theorem opLe : OpR X (compareOp .LtE) rLe := op_le
theorem opGt : OpR X (compareOp .Gt) rGt := op_gt
theorem opGe : OpR X (compareOp .GtE) rGe := op_ge
def rNeg : V → Hp → VK → Prop := rU fun i => .int (-i)
theorem unNeg : UnR X (unaryOp .USub) rNeg := un_neg
end
def seqOf (μ : Mu) : D → Option (List D)
  | .lst xs => some xs
  | .tup xs => some xs
  | .own p => μ.lookup p
  | _ => none
def rdAdd : D → D → Mu → Nat → KD → Prop
  | .int i, .int j, μ, n, Q => Q (.int (i + j)) μ n
  | .lst xs, .lst ys, μ, n, Q => xs.length + ys.length ≤ 100000 ∧ Q (.lst (xs ++ ys)) μ n
  | .tup xs, .tup ys, μ, n, Q => xs.length + ys.length ≤ 100000 ∧ Q (.tup (xs ++ ys)) μ n
  | .str x, .str y, μ, n, Q => x.length + y.length ≤ 100000 ∧ Q (.str (x ++ y)) μ n
  | _, _, _, _, _ => False
section
variable {c : Cn}
theorem rp_tup_ref {t : Addr} {G H : Hp} {a : Addr} {vs : List V} {xs : List D} (h : SqT c.K G a vs) (r : RpL c t G xs vs) : Rp c t G (.tup xs) (.ref a) := by
  simp only [Rp]; exact ⟨a, vs, rfl, h, r⟩
theorem sndR_add : SndR c (rAdd c.K) rdAdd := fun t H0 G0 H G x y dx dy μ n Q Qd s rx ry w k => by
  cases dx <;> cases dy <;> simp only [rdAdd] at w <;> simp only [Rp] at rx ry
  case int.int i j => subst rx ry; exact .inl ⟨i, j, rfl, rfl, k.now s (by simp only [Rp]) w⟩
  case str.str i j => subst rx ry; exact .inr (.inr (.inr ⟨i, j, rfl, rfl, sz_of w.1, k.now s (by simp only [Rp]) w.2⟩))
  case lst.lst xs ys =>
    obtain ⟨a, vs, rfl, h1, h2⟩ := rx
    obtain ⟨b, us, rfl, h3, h4⟩ := ry
    refine .inr (.inl ⟨a, b, vs, us, rfl, rfl, s.gh _ _ h1, s.gh _ _ h3, ?_, fun p hp => kt_lst k s (RpL.append h2 h4) hp w.2⟩)
    rw [RpL.len h2, RpL.len h4]; exact sz_of w.1
  case tup.tup xs ys =>
    obtain ⟨a, vs, rfl, h1, h2⟩ := rx
    obtain ⟨b, us, rfl, h3, h4⟩ := ry
    refine .inr (.inr (.inl ⟨a, b, vs, us, rfl, rfl, Same.tup s.gh h1, Same.tup s.gh h3, ?_, fun e => ?_, fun _ e => ?_, fun _ _ p hp => kt_tup k s (RpL.append h2 h4) hp w.2⟩))
    · rw [RpL.len h2, RpL.len h4]; exact sz_of w.1
    · subst e
      have : xs = [] := by have := RpL.len h2; simpa using this.symm
      subst this
      exact k.now s (rp_tup_ref (H := H) h3 h4) w.2
    · subst e
      have : ys = [] := by have := RpL.len h4; simpa using this.symm
      subst this
      rw [List.append_nil] at w
      exact k.now s (rp_tup_ref (H := H) h1 h2) w.2
def rdMul : D → D → Mu → Nat → KD → Prop
  | .int i, .int j, μ, n, Q => (CMul i j ∨ CMulW i j) ∧ Q (.int (i * j)) μ n
  | .lst xs, .int k, μ, n, Q => -1000 ≤ k ∧ k ≤ 1000 ∧ xs.length ≤ 1000 ∧ Q (.lst (List.replicate k.toNat xs).flatten) μ n
  | .tup xs, .int k, μ, n, Q => xs ≠ [] ∧ 2 ≤ k ∧ k ≤ 1000 ∧ xs.length ≤ 1000 ∧ Q (.tup (List.replicate k.toNat xs).flatten) μ n
  | _, _, _, _, _ => False
theorem rep_size {a k : Nat} (h1 : a ≤ 1000) (h2 : k ≤ 1000) : a * k ≤ sizeLine := by
  have : a * k ≤ 1000 * 1000 := Nat.mul_le_mul h1 h2
  rw [sizeLine_eq]; omega
theorem sndR_mul : SndR c (rMul c.K) rdMul := fun t H0 G0 H G x y dx dy μ n Q Qd s rx ry w k => by
  cases dx <;> cases dy <;> simp only [rdMul] at w <;> simp only [Rp] at rx ry
  case int.int i j => subst rx ry; exact .inl ⟨i, j, rfl, rfl, w.1, k.now s (by simp only [Rp]) w.2⟩
  case lst.int xs j =>
    obtain ⟨a, vs, rfl, h1, h2⟩ := rx
    subst ry
    obtain ⟨w1, w2, w3, w4⟩ := w
    refine .inr (.inl ⟨a, j, vs, rfl, rfl, s.gh _ _ h1, by omega, by omega, ?_, fun p hp => kt_lst k s (RpL.rep h2 j.toNat) hp w4⟩)
    rw [RpL.len h2]; exact rep_size w3 (by omega)
  case tup.int xs j =>
    obtain ⟨a, vs, rfl, h1, h2⟩ := rx
    subst ry
    obtain ⟨w0, w1, w2, w3, w4⟩ := w
    refine .inr (.inr ⟨a, j, vs, rfl, rfl, Same.tup s.gh h1, ?_, w1, w2, ?_, fun p hp => kt_tup k s (RpL.rep h2 j.toNat) hp w4⟩)
    · intro e; subst e
      have := RpL.len h2
      exact w0 (by simpa using this.symm)
    · rw [RpL.len h2]; exact w3
/-- .. the list made is owned -/
def rdMulO : D → D → Mu → Nat → KD → Prop
  | .lst xs, .int k, μ, n, Q => -1000 ≤ k ∧ k ≤ 1000 ∧ xs.length ≤ 1000 ∧ ∀ p, (∀ e ∈ μ, e.1 ≠ p) → Q (.own p) ((p, (List.replicate k.toNat xs).flatten) :: μ) n
  | _, _, _, _, _ => False
theorem sndR_mulO : SndR c (rMul c.K) rdMulO := fun t H0 G0 H G x y dx dy μ n Q Qd s rx ry w k => by
  cases dx <;> cases dy <;> simp only [rdMulO] at w <;> simp only [Rp] at rx ry
  case lst.int xs j =>
    obtain ⟨a, vs, rfl, h1, h2⟩ := rx
    subst ry
    obtain ⟨w1, w2, w3, w4⟩ := w
    refine .inr (.inl ⟨a, j, vs, rfl, rfl, s.gh _ _ h1, by omega, by omega, ?_, fun p hp => kt_own k s (RpL.rep h2 j.toNat) hp w4⟩)
    rw [RpL.len h2]; exact rep_size w3 (by omega)
def rdI2 (C : Int → Int → Prop) (f : Int → Int → D) : D → D → Mu → Nat → KD → Prop
  | .int i, .int j, μ, n, Q => C i j ∧ Q (f i j) μ n
  | _, _, _, _, _ => False
theorem sndR_i2 {C : Int → Int → Prop} {f : Int → Int → D} {g : Int → Int → V} (h : ∀ t G i j, Rp c t G (f i j) (g i j)) : SndR c (rI C g) (rdI2 C f) := fun t H0 G0 H G x y dx dy μ n Q Qd s rx ry w k => by
  cases dx <;> cases dy <;> simp only [rdI2] at w <;> simp only [Rp] at rx ry
  case int.int i j => subst rx ry; exact ⟨i, j, rfl, rfl, w.1, k.now s (h _ _ _ _) w.2⟩
def rdI0 (f : Int → Int → D) : D → D → Mu → Nat → KD → Prop
  | .int i, .int j, μ, n, Q => Q (f i j) μ n
  | _, _, _, _, _ => False
theorem sndR_i0 {f : Int → Int → D} {g : Int → Int → V} (h : ∀ t G i j, Rp c t G (f i j) (g i j)) : SndR c (rI0 g) (rdI0 f) := fun t H0 G0 H G x y dx dy μ n Q Qd s rx ry w k => by
  cases dx <;> cases dy <;> simp only [rdI0] at w <;> simp only [Rp] at rx ry
  case int.int i j => subst rx ry; exact ⟨i, j, rfl, rfl, k.now s (h _ _ _ _) w⟩
def CDv (i j : Int) : Prop := (0 < j ∧ j < 1073741824) ∨ CDivW i j
theorem sndR_sub : SndR c rSub (rdI0 fun i j => .int (i - j)) := sndR_i0 fun _ _ _ _ => by simp only [Rp]
theorem sndR_div : SndR c rDiv (rdI2 CDv fun i j => .int (i / j)) := sndR_i2 fun _ _ _ _ => by simp only [Rp]
theorem sndR_mod : SndR c rMod (rdI2 (fun _ j => 0 < j) fun i j => .int (i % j)) := sndR_i2 fun _ _ _ _ => by simp only [Rp]
theorem sndR_pow : SndR c rPow (rdI2 CPow fun i j => .int (i ^ j.toNat)) := sndR_i2 fun _ _ _ _ => by simp only [Rp]
theorem sndR_lt : SndR c rLt (rdI0 fun i j => .bl (decide (i < j))) := sndR_i0 fun _ _ _ _ => by simp only [Rp]
theorem sndR_le : SndR c rLe (rdI0 fun i j => .bl (decide (i ≤ j))) := sndR_i0 fun _ _ _ _ => by simp only [Rp]
theorem sndR_gt : SndR c rGt (rdI0 fun i j => .bl (decide (j < i))) := sndR_i0 fun _ _ _ _ => by simp only [Rp]
theorem sndR_ge : SndR c rGe (rdI0 fun i j => .bl (decide (j ≤ i))) := sndR_i0 fun _ _ _ _ => by simp only [Rp]
def rdNeg : D → Mu → Nat → KD → Prop
  | .int i, μ, n, Q => Q (.int (-i)) μ n
  | _, _, _, _ => False
theorem sndU_neg : SndU c rNeg rdNeg := fun t H0 G0 H G x dx μ n Q Qd s rx w k => by
  cases dx <;> simp only [rdNeg] at w <;> simp only [Rp] at rx
  case int i => subst rx; exact ⟨i, rfl, k.now s (by simp only [Rp]) w⟩
/-! subscripts -/
theorem atI_rel {t : Addr} {G : Hp} {vs : List V} {xs : List D} {i : Int} {d : D} (r : RpL c t G xs vs) (h : atI xs i = some d) : ∃ v, atI vs i = some v ∧ Rp c t G d v := by
  unfold atI at h ⊢
  rw [RpL.len r]
  cases e : ixN xs.length i with
  | none => rw [e] at h; cases h
  | some j =>
    rw [e] at h
    obtain ⟨v, h1, h2⟩ := RpL.get (i := j) r h
    exact ⟨v, h1, h2⟩
def rdIx : D → D → Mu → Nat → KD → Prop
  | .str z, .int i, μ, n, Q => z.length ≤ 100000 ∧ ∃ ch, atI z.cps.toList i = some ch ∧ Q (.str ⟨#[ch]⟩) μ n
  | x, .int i, μ, n, Q => ∃ xs d, seqOf μ x = some xs ∧ atI xs i = some d ∧ Q d μ n
  | _, _, _, _, _ => False
theorem sndR_ix : SndR c (rIx c.K) rdIx := fun t H0 G0 H G x y dx dy μ n Q Qd s rx ry w k => by
  cases dy <;> cases dx <;> simp only [rdIx, seqOf] at w <;> simp only [Rp] at rx ry <;> first | (exfalso; obtain ⟨_, _, h, _⟩ := w; cases h; done) | skip
  case int.str i z => subst rx ry; obtain ⟨w1, ch, w2, w3⟩ := w; exact .inr (.inr ⟨z, i, ch, rfl, rfl, sz_of w1, w2, k.now s (by simp only [Rp]) w3⟩)
  case int.lst i ys =>
    obtain ⟨xs, d, e, h, q⟩ := w
    cases e
    obtain ⟨a, vs, rfl, h1, h2⟩ := rx
    subst ry
    obtain ⟨v, h3, h4⟩ := atI_rel h2 h
    exact .inl ⟨a, vs, i, v, rfl, rfl, SqL.of (s.gh _ _ h1), h3, k.now s h4 q⟩
  case int.tup i ys =>
    obtain ⟨xs, d, e, h, q⟩ := w
    cases e
    obtain ⟨a, vs, rfl, h1, h2⟩ := rx
    subst ry
    obtain ⟨v, h3, h4⟩ := atI_rel h2 h
    exact .inr (.inl ⟨a, vs, i, v, rfl, rfl, Same.tup s.gh h1, h3, k.now s h4 q⟩)
  case int.own i p =>
    obtain ⟨xs, d, e, h, q⟩ := w
    subst rx ry
    obtain ⟨_, _, _, vs, h1, h2⟩ := s.own _ (lookup_mem e)
    obtain ⟨v, h3, h4⟩ := atI_rel h2 h
    exact .inl ⟨p, vs, i, v, rfl, rfl, SqL.of h1, h3, k.now s h4 q⟩
/-! slices -/
abbrev WO := Env → Mu → Nat → (Option Int → Mu → Nat → Prop) → Prop
def SndO (c : Cn) (to : TO) (W : WO) : Prop := ∀ t H0 G0 H G σ ds μ n (Q : Option Int → Hp → Prop) (Qd : Option Int → Mu → Nat → Prop), RpS c t G σ ds → S c t H0 G0 H G μ n → W ds μ n Qd →
  (∀ o H' G' μ' n', S c t H0 G0 H' G' μ' n' → Same G G' → Qd o μ' n' → Q o H') → to σ H Q
def woNo : WO := fun _ μ n Q => Q none μ n
def woSome (w : WE) : WO := fun ds μ n Q => w ds μ n fun d μ1 n1 => ∃ i, d = .int i ∧ Q (some i) μ1 n1
theorem sndO_no : SndO c tNoPart woNo := fun t H0 G0 H G σ ds μ n Q Qd r s w k => k none H G μ n s (Same.refl _) w
theorem sndO_some {te : TE} {w : WE} (h : Snd c te w) : SndO c (tPart te) (woSome w) := fun t H0 G0 H G σ ds μ n Q Qd r s w k =>
  h t H0 G0 H G σ ds μ n _ _ r s w fun v H1 G1 d μ1 n1 s1 g1 rv ⟨i, hi, q⟩ => by
    subst hi; simp only [Rp] at rv; exact ⟨i, rv, k (some i) H1 G1 μ1 n1 s1 g1 q⟩
def cutD (xs : List D) (lo hi : Option Int) : List D := (xs.drop (HT.sIx xs.length 0 lo)).take (HT.sIx xs.length xs.length hi - HT.sIx xs.length 0 lo)
theorem RpL.cut {t : Addr} {G : Hp} {vs : List V} {xs : List D} (r : RpL c t G xs vs) (lo hi : Option Int) : RpL c t G (cutD xs lo hi) (cutV vs lo hi) := by
  unfold cutD cutV; rw [RpL.len r]; exact RpL.take _ (RpL.drop _ r)
theorem cut_whole {xs : List D} {lo hi : Option Int} (h : HT.sIx xs.length 0 lo = 0 ∧ HT.sIx xs.length xs.length hi = xs.length) : cutD xs lo hi = xs := by
  unfold cutD; rw [h.1, h.2, Nat.sub_zero, List.drop_zero, List.take_length]
def rSl (K : PySem.W.Frag) : V → Option Int → Option Int → Hp → VK → Prop := fun x lo hi H Q => rSlL K x lo hi H Q ∨ rSlA K x lo hi H Q
theorem slAny {X : Cx} : SlR X (rSl X.K) := sl_list.or sl_tupA
def rdSl : D → Option Int → Option Int → Mu → Nat → KD → Prop
  | .tup xs, lo, hi, μ, n, Q => Q (.tup (cutD xs lo hi)) μ n
  | x, lo, hi, μ, n, Q => ∃ xs, seqOf μ x = some xs ∧ Q (.lst (cutD xs lo hi)) μ n
def wSl (we : WE) (wl wh : WO) : WE := fun ds μ n Q => we ds μ n fun d μ1 n1 => wl ds μ1 n1 fun l μ2 n2 => wh ds μ2 n2 fun h μ3 n3 => rdSl d l h μ3 n3 Q
theorem snd_sl {te : TE} {tl th : TO} {we : WE} {wl wh : WO} (he : Snd c te we) (hl : SndO c tl wl) (hh : SndO c th wh) : Snd c (tSl (rSl c.K) te tl th) (wSl we wl wh) := fun t H0 G0 H G σ ds μ n Q Qd r s w k =>
  he t H0 G0 H G σ ds μ n _ _ r s w fun v H1 G1 d μ1 n1 s1 g1 rv w1 =>
    hl t H0 G0 H1 G1 σ ds μ1 n1 _ _ (r.mono g1) s1 w1 fun lo H2 G2 μ2 n2 s2 g2 w2 =>
      hh t H0 G0 H2 G2 σ ds μ2 n2 _ _ ((r.mono g1).mono g2) s2 w2 fun hi H3 G3 μ3 n3 s3 g3 w3 => by
        have kk := ((k.mono g1).mono g2).mono g3
        replace rv := Rp.mono g3 _ _ (Rp.mono g2 _ _ rv)
        cases d <;> simp only [rdSl, seqOf] at w3 <;> simp only [Rp] at rv <;> first | (exfalso; obtain ⟨_, h, _⟩ := w3; cases h; done) | skip
        case tup xs =>
          obtain ⟨a, vs, rfl, h1, h2⟩ := rv
          have h3 := RpL.cut h2 lo hi
          refine .inr ⟨a, vs, rfl, Same.tup s3.gh h1, fun e => ?_, fun _ p hp => kt_tup kk s3 h3 hp w3⟩
          rw [RpL.len h2] at e
          rw [cut_whole e] at w3
          exact kk.now s3 (rp_tup_ref (H := H) h1 h2) w3
        case lst xs =>
          obtain ⟨a, vs, rfl, h1, h2⟩ := rv
          obtain ⟨ys, e, q⟩ := w3
          cases e
          exact .inl ⟨a, vs, rfl, SqL.of (s3.gh _ _ h1), fun p hp => kt_lst kk s3 (RpL.cut h2 lo hi) hp q⟩
        case own p =>
          obtain ⟨ys, e, q⟩ := w3
          subst rv
          obtain ⟨_, _, _, vs, h1, h2⟩ := s3.own _ (lookup_mem e)
          exact .inl ⟨p, vs, rfl, SqL.of h1, fun p hp => kt_lst kk s3 (RpL.cut h2 lo hi) hp q⟩
/-! built-ins -/
def rLen (K : PySem.W.Frag) : List V → Hp → VK → Prop := fun xs H Q => (∃ p ys, xs = [.ref p] ∧ (SqL K H p ys ∨ SqT K H p ys) ∧ Q (.int ys.length) H) ∨ (∃ z, xs = [.str z] ∧ z.length ≤ sizeLine ∧ Q (.int z.length) H)
theorem callLen {X : Cx} : CallR X (.builtin "len") (rLen X.K) := call_len_seq.or call_len_str
def rdLen : List D → Mu → Nat → KD → Prop
  | [.str z], μ, n, Q => z.length ≤ 100000 ∧ Q (.int z.length) μ n
  | [.row ns], μ, n, Q => False
  | [x], μ, n, Q => ∃ xs, seqOf μ x = some xs ∧ Q (.int xs.length) μ n
  | _, _, _, _ => False
theorem sndC_len : SndC c (rLen c.K) rdLen := fun t H0 G0 H G xs ds μ n Q Qd s rs w k => by
  match ds, rs, w with
  | [d], rs, w =>
    simp only [RpL] at rs
    obtain ⟨v, _, rfl, rv, rfl⟩ := rs
    cases d <;> simp only [rdLen, seqOf] at w <;> simp only [Rp] at rv <;> first | (exfalso; obtain ⟨_, h, _⟩ := w; cases h; done) | skip
    case str z => subst rv; exact .inr ⟨z, rfl, sz_of w.1, k.now s (by simp only [Rp]) w.2⟩
    case lst ys =>
      obtain ⟨a, vs, rfl, h1, h2⟩ := rv
      obtain ⟨xs, e, q⟩ := w
      cases e
      refine .inl ⟨a, vs, rfl, .inl (SqL.of (s.gh _ _ h1)), ?_⟩
      rw [RpL.len h2]; exact k.now s (by simp only [Rp]) q
    case tup ys =>
      obtain ⟨a, vs, rfl, h1, h2⟩ := rv
      obtain ⟨xs, e, q⟩ := w
      cases e
      refine .inl ⟨a, vs, rfl, .inr (Same.tup s.gh h1), ?_⟩
      rw [RpL.len h2]; exact k.now s (by simp only [Rp]) q
    case own p =>
      obtain ⟨xs, e, q⟩ := w
      subst rv
      obtain ⟨_, _, _, vs, h1, h2⟩ := s.own _ (lookup_mem e)
      refine .inl ⟨p, vs, rfl, .inl (SqL.of h1), ?_⟩
      rw [RpL.len h2]; exact k.now s (by simp only [Rp]) q
  | [], rs, w => simp only [rdLen] at w
  | d :: e :: r, rs, w => cases d <;> simp only [rdLen] at w
def rInt1 : List V → Hp → VK → Prop := fun xs H Q => (∃ i, xs = [.int i] ∧ Q (.int i) H) ∨ ∃ k, xs = [.bl k] ∧ Q (.int (if k then 1 else 0)) H
theorem callInt {X : Cx} : CallR X (.type "int") rInt1 := call_int1
def rdInt : List D → Mu → Nat → KD → Prop
  | [.int i], μ, n, Q => Q (.int i) μ n
  | [.bl b], μ, n, Q => Q (.int (if b then 1 else 0)) μ n
  | _, _, _, _ => False
theorem sndC_int : SndC c rInt1 rdInt := fun t H0 G0 H G xs ds μ n Q Qd s rs w k => by
  match ds, rs, w with
  | [d], rs, w =>
    simp only [RpL] at rs
    obtain ⟨v, _, rfl, rv, rfl⟩ := rs
    cases d <;> simp only [rdInt] at w <;> simp only [Rp] at rv
    case int i => subst rv; exact .inl ⟨i, rfl, k.now s (by simp only [Rp]) w⟩
    case bl i => subst rv; exact .inr ⟨i, rfl, k.now s (by simp only [Rp]) w⟩
  | [], rs, w => simp only [rdInt] at w
  | d :: e :: r, rs, w => cases d <;> simp only [rdInt] at w
def rAbs : List V → Hp → VK → Prop := fun xs H Q => ∃ i, xs = [.int i] ∧ Q (.int (if i < 0 then -i else i)) H
theorem callAbs {X : Cx} : CallR X (.builtin "abs") rAbs := call_abs
def rdAbs : List D → Mu → Nat → KD → Prop
  | [.int i], μ, n, Q => Q (.int (if i < 0 then -i else i)) μ n
  | _, _, _, _ => False
theorem sndC_abs : SndC c rAbs rdAbs := fun t H0 G0 H G xs ds μ n Q Qd s rs w k => by
  match ds, rs, w with
  | [d], rs, w =>
    simp only [RpL] at rs
    obtain ⟨v, _, rfl, rv, rfl⟩ := rs
    cases d <;> simp only [rdAbs] at w <;> simp only [Rp] at rv
    case int i => subst rv; exact ⟨i, rfl, k.now s (by simp only [Rp]) w⟩
  | [], rs, w => simp only [rdAbs] at w
  | d :: e :: r, rs, w => cases d <;> simp only [rdAbs] at w
/-- tuple(x), list(x) -/
def rTuple (K : PySem.W.Frag) : List V → Hp → VK → Prop := fun xs H Q => ∃ p ys, xs = [.ref p] ∧ ((SqL K H p ys ∧ ∀ l, H l = none → Q (.ref l) (upd H l (.tup ys))) ∨ (SqT K H p ys ∧ Q (.ref p) H))
theorem callTuple {X : Cx} : CallR X (.type "tuple") (rTuple X.K) := call_tuple_of
def rdTuple : List D → Mu → Nat → KD → Prop
  | [x], μ, n, Q => ∃ xs, seqOf μ x = some xs ∧ Q (.tup xs) μ n
  | _, _, _, _ => False
theorem sndC_tuple : SndC c (rTuple c.K) rdTuple := fun t H0 G0 H G xs ds μ n Q Qd s rs w k => by
  match ds, rs, w with
  | [d], rs, w =>
    simp only [RpL] at rs
    obtain ⟨v, _, rfl, rv, rfl⟩ := rs
    cases d <;> simp only [rdTuple, seqOf] at w <;> simp only [Rp] at rv <;> first | (exfalso; obtain ⟨_, h, _⟩ := w; cases h; done) | skip
    case lst ys =>
      obtain ⟨a, vs, rfl, h1, h2⟩ := rv
      obtain ⟨xs, e, q⟩ := w
      cases e
      exact ⟨a, vs, rfl, .inl ⟨SqL.of (s.gh _ _ h1), fun p hp => kt_tup k s h2 hp q⟩⟩
    case tup ys =>
      obtain ⟨a, vs, rfl, h1, h2⟩ := rv
      obtain ⟨xs, e, q⟩ := w
      cases e
      exact ⟨a, vs, rfl, .inr ⟨Same.tup s.gh h1, k.now s (rp_tup_ref (H := H) h1 h2) q⟩⟩
    case own p =>
      obtain ⟨xs, e, q⟩ := w
      subst rv
      obtain ⟨_, _, _, vs, h1, h2⟩ := s.own _ (lookup_mem e)
      exact ⟨p, vs, rfl, .inl ⟨SqL.of h1, fun p hp => kt_tup k s h2 hp q⟩⟩
  | [], rs, w => simp only [rdTuple] at w
  | d :: e :: r, rs, w => simp only [rdTuple] at w
def rList (K : PySem.W.Frag) : List V → Hp → VK → Prop := fun xs H Q => ∃ p ys, xs = [.ref p] ∧ (SqL K H p ys ∨ SqT K H p ys) ∧ ∀ l, H l = none → Q (.ref l) (upd H l (.lst ys))
theorem callList {X : Cx} : CallR X (.type "list") (rList X.K) := call_list_of
def rdList : List D → Mu → Nat → KD → Prop
  | [x], μ, n, Q => ∃ xs, seqOf μ x = some xs ∧ Q (.lst xs) μ n
  | _, _, _, _ => False
def rdListO : List D → Mu → Nat → KD → Prop
  | [x], μ, n, Q => ∃ xs, seqOf μ x = some xs ∧ ∀ p, (∀ e ∈ μ, e.1 ≠ p) → Q (.own p) ((p, xs) :: μ) n
  | _, _, _, _ => False
theorem seq_at {t : Addr} {H0 G0 H G : Hp} {μ : Mu} {n : Nat} {d : D} {v : V} {xs : List D} (s : S c t H0 G0 H G μ n) (rv : Rp c t G d v) (e : seqOf μ d = some xs) : ∃ a vs, v = .ref a ∧ (SqL c.K H a vs ∨ SqT c.K H a vs) ∧ RpL c t G xs vs := by
  cases d <;> simp only [seqOf] at e <;> simp only [Rp] at rv
  all_goals try (cases e; done)
  case lst ys =>
    obtain ⟨a, vs, rfl, h1, h2⟩ := rv
    cases e
    exact ⟨a, vs, rfl, .inl (SqL.of (s.gh _ _ h1)), h2⟩
  case tup ys =>
    obtain ⟨a, vs, rfl, h1, h2⟩ := rv
    cases e
    exact ⟨a, vs, rfl, .inr (Same.tup s.gh h1), h2⟩
  case own p =>
    subst rv
    obtain ⟨_, _, _, vs, h1, h2⟩ := s.own _ (lookup_mem e)
    exact ⟨p, vs, rfl, .inl (SqL.of h1), h2⟩
theorem sndC_list : SndC c (rList c.K) rdList := fun t H0 G0 H G xs ds μ n Q Qd s rs w k => by
  match ds, rs, w with
  | [d], rs, w =>
    simp only [RpL] at rs
    obtain ⟨v, _, rfl, rv, rfl⟩ := rs
    obtain ⟨xs, e, q⟩ := w
    obtain ⟨a, vs, rfl, h1, h2⟩ := seq_at s rv e
    exact ⟨a, vs, rfl, h1, fun p hp => kt_lst k s h2 hp q⟩
  | [], rs, w => simp only [rdList] at w
  | d :: e :: r, rs, w => simp only [rdList] at w
theorem sndC_listO : SndC c (rList c.K) rdListO := fun t H0 G0 H G xs ds μ n Q Qd s rs w k => by
  match ds, rs, w with
  | [d], rs, w =>
    simp only [RpL] at rs
    obtain ⟨v, _, rfl, rv, rfl⟩ := rs
    obtain ⟨xs, e, q⟩ := w
    obtain ⟨a, vs, rfl, h1, h2⟩ := seq_at s rv e
    exact ⟨a, vs, rfl, h1, fun p hp => kt_own k s h2 hp q⟩
  | [], rs, w => simp only [rdListO] at w
  | d :: e :: r, rs, w => simp only [rdListO] at w
/-- all(xs) -/
theorem callAll {X : Cx} (hc : X.calm = true := by rfl) : CallR X (.builtin "all") (rAll X.K) := cr_all hc
def rdAll : List D → Mu → Nat → KD → Prop
  | [x], μ, n, Q => ∃ bs : List Bool, seqOf μ x = some (bs.map D.bl) ∧ (∀ xs, x ≠ .tup xs) ∧ Q (.bl (bs.all id)) μ n
  | _, _, _, _ => False
theorem sndC_all : SndC c (rAll c.K) rdAll := fun t H0 G0 H G xs ds μ n Q Qd s rs w k => by
  match ds, rs, w with
  | [d], rs, w =>
    simp only [RpL] at rs
    obtain ⟨v, _, rfl, rv, rfl⟩ := rs
    obtain ⟨bs, e, nt, q⟩ := w
    cases d <;> simp only [seqOf] at e <;> simp only [Rp] at rv
    all_goals try (cases e; done)
    case lst ys =>
      obtain ⟨a, vs, rfl, h1, h2⟩ := rv
      cases e
      rw [rpl_bls] at h2
      subst h2
      exact ⟨a, bs, rfl, SqL.of (s.gh _ _ h1), k.now s (by simp only [Rp]) q⟩
    case tup ys => exact absurd rfl (nt ys)
    case own p =>
      subst rv
      obtain ⟨_, _, _, vs, h1, h2⟩ := s.own _ (lookup_mem e)
      rw [rpl_bls] at h2
      subst h2
      exact ⟨p, bs, rfl, SqL.of h1, k.now s (by simp only [Rp]) q⟩
  | [], rs, w => simp only [rdAll] at w
  | d :: e :: r, rs, w => simp only [rdAll] at w
/-! a store to a place of an owned list; append -/
def wSetO (we wo wi : WE) : WS := fun De ds μ n => we ds μ n fun d μ1 n1 => wo ds μ1 n1 fun o μ2 n2 => wi ds μ2 n2 fun i μ3 n3 => ∃ p xs k j, o = .own p ∧ i = .int k ∧ μ3.lookup p = some xs ∧ ixN xs.length k = some j ∧ De.nx ds (muSet μ3 p (xs.set j d)) n3
theorem sndS_setO {te to ti : TE} {we wo wi : WE} (h : Snd c te we) (ho : Snd c to wo) (hi : Snd c ti wi) : SndS c (tAsg te (gSub to ti rSetL)) (wSetO we wo wi) := fun t H0 G0 H G σ ds μ n De E r s k1 k2 k3 k4 w =>
  h t H0 G0 H G σ ds μ n _ _ r s w fun v H1 G1 d μ1 n1 s1 g1 rv w1 =>
    ho t H0 G0 H1 G1 σ ds μ1 n1 _ _ (r.mono g1) s1 w1 fun o H2 G2 od μ2 n2 s2 g2 ro w2 =>
      hi t H0 G0 H2 G2 σ ds μ2 n2 _ _ ((r.mono g1).mono g2) s2 w2 fun iv H3 G3 id μ3 n3 s3 g3 ri ⟨p, xs, k, j, e1, e2, e3, e4, q⟩ => by
        subst e1 e2
        simp only [Rp] at ro ri
        subst ro ri
        obtain ⟨_, _, _, vs, h1, h2⟩ := s3.own _ (lookup_mem e3)
        simp only at h1 h2
        refine ⟨p, vs, k, j, rfl, rfl, h1, by rw [RpL.len h2]; exact e4, ?_⟩
        exact k1 σ _ G3 ds _ n3 (((r.mono g1).mono g2).mono g3) (s3.setOwn (lookup_mem e3) (RpL.set j (Rp.mono g3 _ _ (Rp.mono g2 _ _ rv)) h2)) q
def wApp (wo we : WE) : WS := fun De ds μ n => wo ds μ n fun o μ1 n1 => ∃ p ys, o = .own p ∧ μ1.lookup p = some ys ∧ we ds μ1 n1 fun d μ2 n2 => ∃ xs, μ2.lookup p = some xs ∧ xs.length < 100000 ∧ De.nx ds (muSet μ2 p (xs ++ [d])) n2
theorem lookup_of_own {t : Addr} {H0 G0 H G : Hp} {μ : Mu} {n : Nat} {p : Addr} {xs : List D} (s : S c t H0 G0 H G μ n) (e : μ.lookup p = some xs) : ∃ vs, H p = some (.lst vs) ∧ RpL c t G xs vs := by
  obtain ⟨_, _, _, vs, h1, h2⟩ := s.own _ (lookup_mem e)
  exact ⟨vs, h1, h2⟩
end
end Dp

set_option Elab.async false
set_option linter.all false
set_option maxRecDepth 100000
set_option maxHeartbeats 4000000
/-! Rules that the layer lacks: enumerate(tuple), sum(tuple), o.m(k=v), C.m(..) of a static method, == and != by an own __eq__, both answers. -/
namespace Dp
open PySem PySem.Spec PyProof.Rows L2
/-! ### enumerate(tuple) -/
def IteT (K : PySem.W.Frag) (a : Addr) : It :=
  ⟨fun i H => ∃ (xs : List V) (x : V), SqT K H a xs ∧ xs[i]? = some x, fun i H v H' => ∃ T x, v = .ref T ∧ H T = none ∧ H' = upd H T (.tup [.int (i : Nat), x]) ∧ ∀ xs, SqT K H a xs → xs[i]? = some x, fun i H => ∃ xs : List V, SqT K H a xs ∧ xs.length ≤ i⟩
theorem isTup_of {h : Heap} {a : Addr} {its : Array Value} (p : IsTup h a its) : h.IsTuple a its := p
theorem turn_enumT {P : Program} {w : World} {K : PySem.W.Frag} {elts : List Expr} {kk : Nat} {tpos : Pos} (a e it : Addr) :
    Turn P w K (.Tuple elts kk tpos) (IteT K a) [e, it] e (fun i h => (∃ old, IsEnum h e it ((i : Nat) : Int) old) ∧ h.IsTupleIter it a i ∧ e ≠ it) where
  mem := by simp
  obj := fun i h st b hb => by
    obtain ⟨⟨old, he⟩, ⟨o, ho, hc, hd⟩, _⟩ := st
    have e' : b = e ∨ b = it := by simpa using hb
    rcases e' with z | z
    · rw [z]; exact ⟨_, he, fun v q => nomatch q⟩
    · rw [z]; exact ⟨o, ho, fun v q => by rw [hd] at q; cases q⟩
  keep := fun i h h' st k => let ⟨⟨old, he⟩, hi, hne⟩ := st; ⟨⟨old, k e (by simp) _ he⟩, hi.at fun o q => k it (by simp) o q, hne⟩
  item := by
    intro X hP hw hK hc i pins s σ H E I hf st hg
    subst hP hw hK
    obtain ⟨⟨old, he⟩, hit, hne⟩ := st
    obtain ⟨xs, x, hq, hx⟩ := hg
    obtain ⟨its, rv, p, hz⟩ := I.tuple hq
    obtain ⟨u, hu, ru⟩ := rv.get hx
    have hel : e < s.heap.objs.size := Heap.lt_size he
    have hil : it < s.heap.objs.size := by obtain ⟨_, q, _⟩ := hit; exact Heap.lt_size q
    have hai : a ≠ it := by
      intro z; subst z
      obtain ⟨o, ho, hc, hd⟩ := hit
      obtain ⟨o', ho', hc', n, hd'⟩ := p
      rw [ho] at ho'; cases ho'; rw [hd] at hd'; cases hd'
    have hae : e ≠ a := by
      intro z; subst z
      obtain ⟨o', ho', hc', n, hd'⟩ := p
      rw [he] at ho'; cases ho'; cases hd'
    refine wpAny_pyNext_enum_itemD (Draws.tuple (prog := X.prog) (w := X.w) (A := X.A.in1) (I.ok.hd hc) it a hai its.toArray) he ⟨hit, p⟩ (by have := (List.getElem?_eq_some_iff.mp hu).1; simpa using this) hne ?_ fun x' h' tk hx' ho hst' hT hsz hk => ?_
    · intro hm
      rcases List.mem_cons.mp hm with z | hm
      · exact hne z
      · exact hae (List.mem_singleton.mp hm)
    have ex : x' = u := by
      have h1 : its.toArray[i]? = some x' := hx'
      have h2 : its.toArray[i]? = some u := by simpa using hu
      rw [h1] at h2; exact Option.some.inj h2
    subst ex
    refine ⟨_, rfl, wpAny_letOwnedTupleGo_enum (s := { s with heap := h', toks := tk + 1 }) ho fun h'' he' sb => ?_⟩
    have hT2 : h''.get? s.heap.objs.size = some { cls := .type "tuple", data := .seq #[.int i tk, x'] } := (sb.2 _ (Nat.ne_of_gt hel)).trans hT
    have new : ObjOk X.prog X.w (upd H s.heap.objs.size (.tup [.int (i : Nat), x])) h'' s.heap.objs.size (.tup [.int (i : Nat), x]) :=
      ⟨by show 2 ≤ sizeLine; decide, [.int i tk, x'], .cons ⟨_, rfl⟩ (.cons ru .nil), ⟨_, hT2, rfl, _, rfl⟩⟩
    have I1 : Inv X pins σ (upd H s.heap.objs.size (.tup [.int (i : Nat), x])) { s with heap := h'', toks := tk + 1 } :=
      I.turnedNew (ch := [e, it]) (fun b ob hb q => (sb.2 b (fun z => hb (by simp [z]))).trans (hk b ob (fun z => hb (by simp [z])) (fun z => hb (by simp [z])) q)) hf (Nat.le_refl _) new
    refine ⟨.ref s.heap.objs.size, _, I1, rfl, ⟨_, x, rfl, I.hok.fresh (Nat.le_refl _), rfl, fun ys hy => by rw [I.tuple_inj hy hq]; exact hx⟩, ⟨⟨x', ?_⟩, hst'.1.at fun o q => (sb.2 it (Ne.symm hne)).trans q, hne⟩, fun b hb => ?_⟩
    · have e1 : ((i + 1 : Nat) : Int) = (i : Int) + 1 := by omega
      rw [e1]; exact he'
    · have hb' : b < s.heap.objs.size := by
        have e' : b = e ∨ b = it := by simpa using hb
        rcases e' with z | z
        · rw [z]; exact hel
        · rw [z]; exact hil
      rw [upd_ne (Nat.ne_of_lt hb')]
      exact (hf b hb).1
  done := by
    intro X hP hw hK hc i pins s σ H E I hf st hg
    subst hP hw hK
    obtain ⟨⟨old, he⟩, hit, hne⟩ := st
    obtain ⟨xs, hq, hx⟩ := hg
    obtain ⟨its, rv, p, hz⟩ := I.tuple hq
    obtain ⟨f0, f1, f2, f3, f4, f5⟩ := hf it (by simp)
    have hl := rv.length
    have hai : a ≠ it := by
      intro z; subst z
      obtain ⟨o, ho, hc, hd⟩ := hit
      obtain ⟨o', ho', hc', n, hd'⟩ := p
      rw [ho] at ho'; cases ho'; rw [hd] at hd'; cases hd'
    have hT : s.TypeIs (.ref e) "enumerate" := ⟨_, he, rfl⟩
    unfold pyNext
    refine wpAny_bind (wpAny_attempt (wpAny_callSpecial?_slot (name := Str.ofString "__next__") hT F.slot_enumerate_next
      (wpAny_call_entry F.slot_enumerate_next hT F.entry_enumerate_next ?_ (F.args_enumerate_next_1 _))))
    show wpAny _ _ (field (.ref e) 2 >>= _) _ _ _
    refine wpAny_bind (wpAny_field he rfl (x := .ref it) rfl ?_)
    refine wpAny_bind (wpAny_nextOf_tuple_end (I.ok.hd hc) hit p (by simp; omega) fun h' x he' hx' => ?_)
    obtain ⟨o, ho, hc2⟩ := hx'
    refine wpAny_bind (wpAny_isInstance (T := "StopIteration") (b := true) ⟨o, ho, hc2⟩ isSubtype_stop ?_)
    exact wpAny_pure ⟨rfl, I.turned (t' := s.toks) (fun b o hb q => he' b o hb q) f0 f1 f3 f4 f5⟩
  self := fun A i s Q E st h => let ⟨⟨_, he⟩, _⟩ := st; wpAny_pyIter_enum he h

theorem meets_enumerate_newB1 {v : Value} {o : Obj} {H : Heap → Prop} (B : Begins v o H) :
    Meets (Builtin.«enumerate.__new__» ⟨[.type "enumerate", v], []⟩) (fun _ R s => H s.heap ∧
      R (.ok (.ret (.ref (s.heap.push o).objs.size))) { s with heap := (s.heap.push o).push { cls := .type "enumerate", data := .fields #[.none, .bool false, .ref s.heap.objs.size, rawInt 0, .none, .none] } }) :=
  .of_wp fun prog w A R s h => by
    obtain ⟨hp, g, d, tk, os⟩ := s; obtain ⟨h1, h⟩ := h
    have hsub := sub_enumerate
    have q1 : ∀ {A' : Around} {E : Value → Shared → Prop} {Q : Value → Shared → Prop}, Q (.ref hp.objs.size) ⟨hp.push o, g, d, tk, os⟩ → wpAny (model prog w) A' (pyIter v) Q E ⟨hp, g, d, tk, os⟩ :=
      fun q => B.iter prog w _ _ ⟨hp, g, d, tk, os⟩ _ h1 q
    wp_walk using q1
    refine wpAny_stack_any fun st => wpAny_pure ?_
    split
    · rename_i c _ _ _ _ _
      cases (c == Value.type "enumerate")
      · wp_walk using q1
        exact ⟨_, rfl, h⟩
      · wp_walk using q1
        exact ⟨_, rfl, h⟩
    · wp_walk using q1
      exact ⟨_, rfl, h⟩
section
variable {prog : Program} {w : World} {A : Around} {E : Value → Shared → Prop} {s : Shared}
theorem enum_begins1 {v : Value} {o : Obj} {H : Heap → Prop} {Q : Value → Shared → Prop} (B : Begins v o H) (h1 : H s.heap)
    (h : ∀ h', IsEnum h' (s.heap.objs.size + 1) s.heap.objs.size 0 .none → h'.get? s.heap.objs.size = some o → h'.objs.size = s.heap.objs.size + 2 →
      (∀ b o, s.heap.get? b = some o → h'.get? b = some o) → Q (.ref (s.heap.objs.size + 1)) { s with heap := h' }) :
    wpAny (model prog w) A (call (.type "enumerate") [v]) Q E s := by
  refine callType_new F.called_enumerate (by decide) (F.typeCall_enumerate_1 _) (F.newCall_enumerate_1 _) (fun obj => F.args_object_init_2 obj _) F.entry_enumerate_new
    (meets_enumerate_newB1 B) ⟨h1, ?_⟩
  have hz : (s.heap.push o).objs.size = s.heap.objs.size + 1 := Heap.size_push ..
  show _ ∧ _
  rw [hz]
  have he : IsEnum ((s.heap.push o).push { cls := .type "enumerate", data := .fields #[.none, .bool false, .ref s.heap.objs.size, rawInt 0, .none, .none] }) (s.heap.objs.size + 1) s.heap.objs.size 0 .none := by
    have := Heap.get?_push_size (s.heap.push o) (o := { cls := .type "enumerate", data := .fields #[.none, .bool false, .ref s.heap.objs.size, rawInt 0, .none, .none] }) rfl
    rw [hz] at this; exact this
  refine ⟨⟨_, he, rfl⟩, h _ he (Heap.get?_push_of_some _ (Heap.get?_push_size _ B.free)) (by rw [Heap.size_push, hz]) fun b o x => Heap.get?_push_of_some _ (Heap.get?_push_of_some _ x)⟩
end
def iEnumA (K : PySem.W.Frag) (ta : TA) : TI := fun σ H R => ta σ H fun vs H1 => ∃ a xs, vs = [.ref a] ∧ ((SqL K H1 a xs ∧ R (Ite K a) H1) ∨ (SqT K H1 a xs ∧ R (IteT K a) H1))
theorem pi_enumA {X : Cx} {e : Expr} {ta : TA} {p pos tpos : Pos} {elts : List Expr} {kk : Nat} (hg : Gl X "enumerate") (hm : X.mg "enumerate" = none) (ha : PA X [e] ta) (hs : starEach [e] X.env = [(false, eval e X.env)] := by rfl) :
    PI X (.Tuple elts kk tpos) (.Call (.Name "enumerate" p) [e] [] pos) (iEnumA X.K ta) := by
  refine ⟨fun pins s σ H R I h => ?_⟩
  refine Call_ (ld_blt I hg hm boot_enumerate (PyProof.Rows.callWith_type1 (thn (ha.run pos pins s σ H _ I h) fun us s1 ⟨vs, H1, I1, r1, q1⟩ => ?_) hs rfl))
  obtain ⟨a, xs, ex, q1⟩ := q1
  subst ex
  cases r1 with
  | cons r rr =>
    cases rr
    cases r
    have fin : ∀ b ∈ [s1.heap.objs.size + 1, s1.heap.objs.size], FpOk X pins H1 b := fun b hb => by
      have e' : b = s1.heap.objs.size + 1 ∨ b = s1.heap.objs.size := by simpa using hb
      have hle : s1.heap.objs.size ≤ b := by
        rcases e' with z | z
        · rw [z]; exact Nat.le_add_right _ _
        · rw [z]; exact Nat.le_refl _
      exact I1.fpOk hle (I1.hok.fresh hle)
    rcases q1 with ⟨hq, q⟩ | ⟨hq, q⟩
    · obtain ⟨its, rv, p', hz⟩ := I1.list hq
      refine call_enumerate_list p'.isList fun h' he hit hsz hk => wpAny_pyIter_enum he ?_
      have I2 : Inv X pins σ H1 { s1 with heap := h' } := I1.kept (t' := s1.toks) hk
      exact ⟨s1.heap.objs.size + 1, [s1.heap.objs.size + 1, s1.heap.objs.size], _, _, H1, rfl, I2, turn_enum a (s1.heap.objs.size + 1) s1.heap.objs.size, ⟨⟨.none, he⟩, hit, Nat.succ_ne_self _⟩, fin, q⟩
    · obtain ⟨its, rv, p', hz⟩ := I1.tuple hq
      refine enum_begins1 (begins_tuple a its.toArray) p' fun h' he hit hsz hk => wpAny_pyIter_enum he ?_
      have I2 : Inv X pins σ H1 { s1 with heap := h' } := I1.kept (t' := s1.toks) hk
      exact ⟨s1.heap.objs.size + 1, [s1.heap.objs.size + 1, s1.heap.objs.size], _, _, H1, rfl, I2, turn_enumT a (s1.heap.objs.size + 1) s1.heap.objs.size, ⟨⟨.none, he⟩, ⟨_, hit, rfl, rfl⟩, Nat.succ_ne_self _⟩, fin, q⟩
/-! ### sum(list), sum(tuple) -/
def rSumA (K : PySem.W.Frag) : List V → Hp → VK → Prop := fun vs H Q => ∃ (a : Addr) (ns : List Int), vs = [V.ref a] ∧ (SqL K H a (ns.map V.int) ∨ SqT K H a (ns.map V.int)) ∧ Q (.int ns.sum) H
theorem callSum {X : Cx} (hc : X.calm = true := by rfl) : CallR X (.builtin "sum") (rSumA X.K) := by
  intro pins s σ H vs us Q I r h
  obtain ⟨a, ns, rfl, hs | hs, q⟩ := h
  · exact cr_sum hc pins s σ H _ us Q I r ⟨a, ns, rfl, hs, q⟩
  · obtain ⟨its, rv, hl, _⟩ := I.tuple hs
    rw [Vals.ref1 r]
    have hi := rv.ints
    obtain ⟨xs, e⟩ := hi.allInts.items
    have hn : numsOf (intItems xs).toList = ns := by rw [← e]; exact hi.numsOf
    rw [nums_intItems] at hn
    have hl' : s.heap.IsTuple a (intItems xs) := by rw [← e]; exact hl
    refine PySem.W.ktm_sumG (I.ok.hd hc) hl' fun h' tk t' hk => ?_
    have e2 : preSum (numAt xs) xs.size = ns.sum := by rw [preSum_eq, List.take_of_length_le (by simp), hn]
    exact ⟨.int ns.sum, H, I.kept hk, ⟨_, by rw [e2]⟩, q⟩
/-! ### o.m(k = v, ..), f(k = v, ..) -/
section
variable {X : Cx} {CX : CXT} {k : Nat} {f C : Addr} {fd : FuncData} {ps ks : List Str} {sp : Sp} {E : XK} {x m : Str} {p pos apos kpos : Pos} {e o : Expr} {es : List Expr} {kws : List Keyword} {te ta : TE} {t tk : TA} {g : List Value → List Value → List Value} {gV : List V → List V → List V} {pl : Sem Bool}
def tMethK (C : Addr) (m : Str) (sp : Sp) (gV : List V → List V → List V) (E : XK) (ta : TE) (tk : TA) : TE := fun σ H Q => ta σ H fun x H1 => ∃ a dx fs, x = .ref a ∧ H1 a = some (.ins C dx fs) ∧ fs.lookup m = none ∧
  tk σ H1 fun zs H2 => sp (gV [x] zs) H2 Q E
theorem pe_methK (he : PE X o ta) (c : Cls X.K C) (hm : Meth X.K C m f) (F : FnOk X.prog X.w X.K X.mg X.base CX k f fd ps sp) (hr : Room k X.A) (hb : KBinds X.K fd ps ks g gV) (hx : Passes CX X E) (hkw : PK X kws tk)
    (hall : (backToKw pos (keywordEach kws X.env)).all (·.1.isSome) = true := by rfl) (hks : (backToKw pos (keywordEach kws X.env)).filterMap (·.1) = ks := by rfl)
    (hpl : ((backTo pos (starEach [] X.env)).any (·.1) || (backToKw pos (keywordEach kws X.env)).any (·.1.isNone)) = false := by rfl)
    (ht : eval (.Call (.Attribute o m apos) [] kws pos) X.env = (do
      let ov ← eval o X.env
      standAt apos.atName
      let (f, first) ← holding [ov] (getMethod ov m pl)
      callWith pos f first (backTo pos (starEach [] X.env)) (backToKw pos (keywordEach kws X.env))) := by rfl) :
    PE X (.Call (.Attribute o m apos) [] kws pos) (tMethK C m sp gV E ta tk) := by
  refine ⟨fun pins s σ H Q I h => ?_⟩
  refine PySem.W.methodCall_KW (pl := pl) (thn (he.run pins s σ H _ I h) fun u s1 ⟨x, H1, I1, rx, a, dx, fs, ex, ea, l, q⟩ => ?_) ht
  subst ex
  obtain rfl : u = Value.ref a := rx
  refine getmeth_ok I1 ea c hm l ?_
  refine PySem.W.callWith_KW0 (first := [.ref a]) (h₀ := X.base) I.ok.mod.kin hm.kp hall (thn (hkw.run pos pins s1 σ H1 _ I1 q) fun ws s2 ⟨zs, H2, I2, rz, q2⟩ => ⟨I2.kIn, ?_⟩) hpl
  rw [hks]
  exact run_fnk (us := [.ref a]) (vs := [.ref a]) F hr hb hx I2 (.cons rfl .nil) rz q2
def tCallK0 (sp : Sp) (gV : List V → List V → List V) (E : XK) (tk : TA) : TE := fun σ H Q => tk σ H fun zs H2 => sp (gV [] zs) H2 Q E
theorem pe_callK0 (F : FnOk X.prog X.w X.K X.mg X.base CX k f fd ps sp) (hr : Room k X.A) (hg : Gl X x) (hm : X.mg x = some (.ref f)) (hk : PySem.W.keepIn X.K (.ref f) = true) (hb : KBinds X.K fd ps ks g gV) (hx : Passes CX X E) (hkw : PK X kws tk)
    (hall : (backToKw pos (keywordEach kws X.env)).all (·.1.isSome) = true := by rfl) (hks : (backToKw pos (keywordEach kws X.env)).filterMap (·.1) = ks := by rfl)
    (hpl : ((backTo pos (starEach [] X.env)).any (·.1) || (backToKw pos (keywordEach kws X.env)).any (·.1.isNone)) = false := by rfl)
    (hdb : (x == ("__debug__" : Str)) = false := by decide) :
    PE X (.Call (.Name x p) [] kws pos) (tCallK0 sp gV E tk) := by
  refine ⟨fun pins s σ H Q I h => ?_⟩
  refine wpAny_Call_Name_kw (ld_glob I hg hm ?_ hdb)
  refine PySem.W.callWith_KW0 (h₀ := X.base) I.ok.mod.kin hk hall (thn (hkw.run pos pins s σ H _ I h) fun ws s2 ⟨zs, H2, I2, rz, q2⟩ => ⟨I2.kIn, ?_⟩) hpl
  rw [hks]
  exact run_fnk (us := []) (vs := []) F hr hb hx I2 .nil rz q2
/-! ### C.m(e, ..), m a static method -/
structure SMet (K : PySem.W.Frag) (C : Addr) (mc : Value) (m : Str) (p g : Addr) : Prop where
  at_ : PySem.W.findCls K (.ref C) mc m = some (.get (.builtin "staticmethod.__get__") (.ref p) .none (.ref C))
  rc : ∃ rest, PySem.W.recIn K p "staticmethod" = some (.ref g :: rest)
  kp : PySem.W.keepIn K (.ref g) = true
def tSMeth (C : Addr) (sp : Sp) (E : XK) (ta : TE) (t : TA) : TE := fun σ H Q => ta σ H fun x H1 => x = .ref C ∧ t σ H1 fun vs H2 => sp vs H2 Q E
theorem pe_smeth {mc : Value} {q : Addr} (he : PE X o ta) (r : ClX.CRead X.K C mc) (c : SMet X.K C mc m q f) (F : FnOk X.prog X.w X.K X.mg X.base CX k f fd ps sp) (hr : Room k X.A) (hb : Binds X.K fd ps []) (hx : Passes CX X E) (ha : PA X (e :: es) t)
    (hst : starEach (e :: es) X.env = (false, eval e X.env) :: starEach es X.env := by rfl) (hpl : (backTo pos (starEach es X.env)).any (·.1) = false := by rfl)
    (ht : eval (.Call (.Attribute o m apos) (e :: es) [] pos) X.env = (do
      let ov ← eval o X.env
      standAt apos.atName
      let (f, first) ← holding [ov] (getMethod ov m pl)
      callWith pos f first (backTo pos (starEach (e :: es) X.env)) (backToKw pos (keywordEach [] X.env))) := by rfl) :
    PE X (.Call (.Attribute o m apos) (e :: es) [] pos) (tSMeth C sp E ta t) := by
  refine ⟨fun pins s σ H Q I h => ?_⟩
  refine PySem.W.methodCall_KW (pl := pl) (thn (he.run pins s σ H _ I h) fun u s1 ⟨x, H1, I1, rx, ex, q⟩ => ?_) ht
  subst ex
  obtain rfl : u = Value.ref C := rx
  obtain ⟨rest, hp⟩ := c.rc
  refine PySem.W.method_cls I1.kIn r.ga (PySem.W.cls_bind I1.kIn r.rd c.at_ (wpAny_call (PySem.W.sm_get (s := { s1 with toks := s1.toks + 1 }) I1.kIn hp (PySem.W.handed_on rfl ?_))))
  have I2 := I1.tok (s1.toks + 1)
  refine PySem.W.callWith_K (first := []) (h₀ := X.base) I.ok.mod.kin c.kp (thn (ha.run pos pins _ σ H1 _ I2 q) fun us s2 ⟨vs, H2, I3, rv, q2⟩ => ⟨I3.kIn, ?_⟩) hst hpl
  exact run_fn (us := us) (vs := vs) (dvs := []) (ds := []) F hr hb .nil hx I3 rv (by rw [List.append_nil]; exact q2)
end
/-! ### == and != by an own __eq__ -/
def eqClsB (K : PySem.W.Frag) (C f : Addr) : Bool := match K.lookup C with
  | some ⟨.type "type", _, .cls cd, sl⟩ => (match cd.mro, sl.toList with
    | [.ref C', .type "object"], [_, _, _, _, some (.builtin _), _] => C' == C && !cd.hasDel && PySem.W.nsOkIn K cd.ns && PySem.W.nsIn K cd.ns "__eq__" == some (some (.ref f)) && PySem.W.nsIn K cd.ns "__ne__" == some none && PySem.W.isFn K (.ref f) &&
        PySem.W.findIn K (.ref C) "__eq__" == some (some (.ref f))
    | _, _ => false)
  | _ => false
theorem ns_some_of {K : PySem.W.Frag} {h : Heap} {N : Addr} {mg : Str → Option Value} {n : Str} {v : Value} (X : K.In h) (G : h.Ns N mg) (e : PySem.W.nsIn K N n = some (some v)) : mg n = some v := by
  obtain ⟨o, es, ep, ho, hd, _, hf⟩ := G
  unfold PySem.W.nsIn at e
  split at e
  · rename_i c d es' n' sl q
    have := X _ _ q
    rw [ho] at this
    cases this
    cases hd
    split at e
    · rename_i en he
      cases e
      rw [← hf]
      unfold nsFind findBy
      rw [← Array.find?_toList, he]
      rfl
    · split at e <;> cases e
  · cases e
structure EqCls (K : PySem.W.Frag) (C f : Addr) : Prop where
  ob : ∃ nm q N bs hdct sn sub ab col dd k0 k1 k2 k3 k5 newId, K.lookup C = some (excClassObj nm q C N bs [.type "object"] hdct sn sub ab col dd k0 k1 k2 k3 k5 newId) ∧ PySem.W.nsOkIn K N = true ∧
    PySem.W.nsIn K N "__eq__" = some (some (.ref f)) ∧ PySem.W.nsIn K N "__ne__" = some none
  fn : PySem.W.isFn K (.ref f) = true
  find : PySem.W.findIn K (.ref C) "__eq__" = some (some (.ref f))
theorem eqCls_of {K : PySem.W.Frag} {C f : Addr} (h : eqClsB K C f = true) : EqCls K C f := by
  unfold eqClsB at h
  split at h
  · rename_i dd cd sl ho
    split at h
    · rename_i C' k0 k1 k2 k3 n k5 hm hs
      simp only [Bool.and_eq_true, beq_iff_eq, Bool.not_eq_true'] at h
      obtain ⟨⟨⟨⟨⟨⟨rfl, hdel⟩, h1⟩, h2⟩, h3⟩, h4⟩, h5⟩ := h
      obtain ⟨nm, bs, mro, ns, qn, hd, sn, sub, ab, col, del⟩ := cd
      dsimp only at hm hdel h1 h2 h3
      subst hm hdel
      have hsl : sl = #[k0, k1, k2, k3, some (.builtin n), k5] := by
        obtain ⟨l⟩ := sl
        simp only at hs
        rw [hs]
      subst hsl
      exact ⟨⟨nm, qn, ns, bs, hd, sn, sub, ab, col, dd, k0, k1, k2, k3, k5, n, ho, h1, h2, h3⟩, h4, h5⟩
    · cases h
  · cases h
section
variable {X : Cx} {C f : Addr} {fd : FuncData} {ps : List Str} {sp : Sp} {k : Nat}
/-- the call of __eq__ where it stands -/
theorem run_eq {A : Around} {pins : List (Addr × Obj)} {σ : L2.St} {H : Hp} {s : Shared} {a b : Addr} {Q : VK} (F : FnOk X.prog X.w X.K X.mg X.base CX0 k f fd ps sp) (hr : Room k A) (hA : A.frames = X.A.frames) (hb : Binds X.K fd ps []) (I : Inv X pins σ H s)
    (h : sp [.ref a, .ref b] H Q E0) : wpAny (model X.prog X.w) A (call (.ref f) [.ref a, .ref b]) (EP X pins σ Q) X.xe s := by
  have e0 : Env0 X.prog X.w X.K X.mg X.base A X.stack s H := by
    have e := I.env0
    exact ⟨by rw [hA]; exact e.frames, e.mod, e.bs, e.bsz, e.funs, e.frf, e.hok, e.bare⟩
  have hl := F.len _ _ _ _ h
  have r2 : Vals [V.ref a, V.ref b] [Value.ref a, Value.ref b] := .cons rfl (.cons rfl .nil)
  refine wpAny_call (codeAny_mono (F.run A X.stack s H ⟨[.ref a, .ref b], []⟩ [.ref a, .ref b] [.ref a, .ref b] _ E0 hr e0 (by
    have := hb s [.ref a, .ref b] I.kIn (by simpa using hl)
    simpa using this) r2 h) fun r s' hq => ?_)
  cases r with
  | error e => exact False.elim hq
  | ok fl =>
    cases fl with
    | ret w => exact I.after hq
    | next => exact False.elim hq
    | brk => exact False.elim hq
    | cont => exact False.elim hq
def rEqOwn (C : Addr) (sp : Sp) : R2 := fun x y H Q => ∃ a b dx dy fs gs, x = .ref a ∧ y = .ref b ∧ H a = some (.ins C dx fs) ∧ H b = some (.ins C dy gs) ∧ sp [.ref a, .ref b] H (fun v H' => (∃ k, v = .bl k) ∧ Q v H') E0
def rNeOwn (C : Addr) (sp : Sp) : R2 := fun x y H Q => ∃ a b dx dy fs gs, x = .ref a ∧ y = .ref b ∧ H a = some (.ins C dx fs) ∧ H b = some (.ins C dy gs) ∧ sp [.ref a, .ref b] H (fun v H' => ∃ k, v = .bl k ∧ Q (.bl (!k)) H') E0
theorem op_eqOwn (F : FnOk X.prog X.w X.K X.mg X.base CX0 k f fd ps sp) (hr : Room k X.A) (hb : Binds X.K fd ps []) (ec : EqCls X.K C f) : OpR X (compareOp .Eq) (rEqOwn C sp) := by
  intro pins s σ H x y v u Q I rx ry hq
  obtain ⟨a, b, dx, dy, fs, gs, rfl, rfl, ha, hb', h⟩ := hq
  cases rx
  cases ry
  obtain ⟨mA, J, _⟩ := ins_get I.hok ha
  obtain ⟨mB, J', _⟩ := ins_get I.hok hb'
  obtain ⟨od, J, _⟩ := J.look
  obtain ⟨od', J', _⟩ := J'.look
  obtain ⟨m, hF⟩ := I.fr
  show wpAny (model X.prog X.w) X.A (richCompare .Eq (.ref a) (.ref b)) (EP X pins σ Q) X.xe s
  refine PySem.W.cmp_K (op := .Eq) (tb := .ref C) hr.units0 hF I.ok.mod.kin J J'.type (by simp [PySem.W.notFirst]) ec.find ec.fn (thn (run_eq F hr rfl hb I h) fun v s' h' => ?_)
  obtain ⟨z, H', I', rz, ⟨k', ek⟩, q⟩ := h'
  subst ek
  cases rz
  exact ⟨.bl k', H', I', rfl, q⟩
theorem op_neOwn (F : FnOk X.prog X.w X.K X.mg X.base CX0 k f fd ps sp) (hr : Room (k + 1) X.A) (hb : Binds X.K fd ps []) (ec : EqCls X.K C f) : OpR X (compareOp .NotEq) (rNeOwn C sp) := by
  intro pins s σ H x y v u Q I rx ry hq
  obtain ⟨a, b, dx, dy, fs, gs, rfl, rfl, ha, hb', h⟩ := hq
  cases rx
  cases ry
  obtain ⟨mA, J, _⟩ := ins_get I.hok ha
  obtain ⟨mB, J', _⟩ := ins_get I.hok hb'
  obtain ⟨od, J, _⟩ := J.look
  obtain ⟨od', J', _⟩ := J'.look
  obtain ⟨nm, q, N, bs, hdct, sn, sub, ab, col, dd, k0, k1, k2, k3, k5, newId, hC, h1, h2, h3⟩ := ec.ob
  have G : s.heap.Ns N (s.heap.nsMap N) := .of_isNs (PySem.W.isNs_of_in I.kIn h1)
  obtain ⟨of, hof, hofc⟩ : ∃ of, s.heap.get? f = some of ∧ of.cls = .type "function" := by
    have z : PySem.W.typeIn X.K (.ref f) = some (.type "function") := beq_iff_eq.mp ec.fn
    obtain ⟨o, ho, e⟩ := Option.map_eq_some_iff.mp z
    exact ⟨o, I.kIn _ _ ho, e⟩
  have hyl : typeLookup (.type "object") "__eq__" = pure (some (.builtin "object.__eq__")) := by rw [typeLookup_type, builtinLookup_eq_fast]; kernel_rfl
  have XN : s.heap.OwnEqNoNe a C f "object" [.type "object"] :=
    ⟨_, of, nm, q, N, bs, hdct, sn, sub, ab, col, dd, k0, k1, k2, k3, k5, newId, s.heap.nsMap N, _, J.at_, rfl, I.kIn _ _ hC, G, ns_some_of I.kIn G h2, hof, hofc, PySem.F.cmp_object.mro, hyl, PySem.W.ns_none_of I.kIn G h3⟩
  refine compareOp_ne_ownEq PySem.F.cmp_object XN J'.at_ rfl (Nat.lt_of_lt_of_le (Nat.add_lt_add_left (by decide : 1 < 64 + 1) _) (by have := hr.units; omega)) ?_
  refine thn (run_eq F hr.in1 rfl hb I h) fun v s' h' => ?_
  obtain ⟨z, H', I', rz, k', ek, q⟩ := h'
  subst ek
  cases rz
  exact ⟨k', rfl, .bl (!k'), H', I', rfl, q⟩
end
end Dp

set_option Elab.async false
set_option linter.all false
set_option maxRecDepth 100000
set_option maxHeartbeats 4000001
namespace Dp
open PySem PySem.Spec PyProof.Rows L2
section
variable {c : Cn}
theorem sndS_app {to te : TE} {wo we : WE} (ho : Snd c to wo) (h : Snd c te we) : SndS c (tDrop (tBM c.K "list" rAppend to (tCons te tNil))) (wApp wo we) := fun t H0 G0 H G σ ds μ n De E r s k1 k2 k3 k4 w =>
  ho t H0 G0 H G σ ds μ n (fun x H1 => tyV c.K "list" x H1 ∧ tCons te tNil σ H1 fun xs H2 => rAppend x xs H2 fun _ H3 => E.nx σ H3) _ r s w fun o H1 G1 od μ1 n1 s1 g1 ro ⟨p, ys, ep, ey, w1⟩ => by
    subst ep
    simp only [Rp] at ro
    subst ro
    obtain ⟨us, h1, _⟩ := lookup_of_own s1 ey
    refine ⟨.inl ⟨rfl, us, SqL.of h1⟩, h t H0 G0 H1 G1 σ ds μ1 n1 _ _ (r.mono g1) s1 w1 fun v H2 G2 d μ2 n2 s2 g2 rv ⟨xs, e, hl, q⟩ => ?_⟩
    obtain ⟨vs, h1, h2⟩ := lookup_of_own s2 e
    refine ⟨p, vs, v, rfl, rfl, h1, by rw [RpL.len h2]; exact sz_lt hl, ?_⟩
    exact k1 σ _ G2 ds _ n2 ((r.mono g1).mono g2) (s2.setOwn (lookup_mem e) (RpL.append h2 (RpL.one rv))) q

/-! ### what is walked -/
structure Wk (c : Cn) (t : Addr) (J : It) (G : Hp) (items : List D) : Prop where
  step : ∀ H0 G0 H G1 μ n i, S c t H0 G0 H G1 μ n → Same G G1 → i < items.length → J.go i H ∧ ∀ x H3, J.yld i H x H3 → ∃ d G3, items[i]? = some d ∧ S c t H0 G0 H3 G3 μ n ∧ Same G1 G3 ∧ Rp c t G3 d x
  stop : ∀ H0 G0 H G1 μ n i, S c t H0 G0 H G1 μ n → Same G G1 → items.length ≤ i → J.stop i H
abbrev WI := Env → Mu → Nat → (List D → Mu → Nat → Prop) → Prop
def SndI (c : Cn) (wi : TI) (W : WI) : Prop := ∀ t H0 G0 H G σ ds μ n (R : It → Hp → Prop) (Qd : List D → Mu → Nat → Prop), RpS c t G σ ds → S c t H0 G0 H G μ n → W ds μ n Qd →
  (∀ J H' G' items μ' n', S c t H0 G0 H' G' μ' n' → Same G G' → Wk c t J G' items → Qd items μ' n' → R J H') → wi σ H R
def rngD (lo : Int) (n : Nat) : List D := (List.range n).map fun i => .int (lo + (i : Nat))
theorem rngD_len {lo : Int} {n : Nat} : (rngD lo n).length = n := by unfold rngD; simp
theorem rngD_get {lo : Int} {n i : Nat} (h : i < n) : (rngD lo n)[i]? = some (.int (lo + (i : Nat))) := by
  unfold rngD; rw [List.getElem?_map, List.getElem?_range h]; rfl
theorem wk_range {t : Addr} {G : Hp} {lo : Int} {n : Nat} : Wk c t (Itr lo n) G (rngD lo n) where
  step := fun H0 G0 H G1 μ m i s g hi => by
    rw [rngD_len] at hi
    refine ⟨hi, fun x H3 ⟨e1, e2⟩ => ⟨_, G1, rngD_get hi, by rw [e1]; exact s, Same.refl _, by simp only [Rp]; exact e2⟩⟩
  stop := fun H0 G0 H G1 μ m i s g hi => by rw [rngD_len] at hi; exact hi
theorem wk_list {t a : Addr} {G : Hp} {vs : List V} {xs : List D} (h : G a = some (.lst vs)) (r : RpL c t G xs vs) : Wk c t (Itl c.K a) G xs where
  step := fun H0 G0 H G1 μ n i s g hi => by
    have hs : SqL c.K H a vs := SqL.of (s.gh _ _ (g _ _ h))
    obtain ⟨v, h1, h2⟩ := RpL.get (i := i) (d := xs[i]) r (by simp [hi])
    refine ⟨⟨vs, v, hs, h1⟩, fun x H3 ⟨e1, e2⟩ => ⟨xs[i], G1, by simp [hi], by rw [e1]; exact s, Same.refl _, ?_⟩⟩
    have := e2 vs hs
    rw [h1] at this; cases this
    exact Rp.mono g _ _ h2
  stop := fun H0 G0 H G1 μ n i s g hi => ⟨vs, SqL.of (s.gh _ _ (g _ _ h)), by rw [RpL.len r]; exact hi⟩
theorem wk_tup {t a : Addr} {G : Hp} {vs : List V} {xs : List D} (h : SqT c.K G a vs) (r : RpL c t G xs vs) : Wk c t (Itt c.K a) G xs where
  step := fun H0 G0 H G1 μ n i s g hi => by
    have hs : SqT c.K H a vs := Same.tup s.gh (Same.tup g h)
    obtain ⟨v, h1, h2⟩ := RpL.get (i := i) (d := xs[i]) r (by simp [hi])
    refine ⟨⟨vs, v, hs, h1⟩, fun x H3 ⟨e1, e2⟩ => ⟨xs[i], G1, by simp [hi], by rw [e1]; exact s, Same.refl _, ?_⟩⟩
    have := e2 vs hs
    rw [h1] at this; cases this
    exact Rp.mono g _ _ h2
  stop := fun H0 G0 H G1 μ n i s g hi => ⟨vs, Same.tup s.gh (Same.tup g h), by rw [RpL.len r]; exact hi⟩
def enumD (xs : List D) : List D := (List.range xs.length).map fun i => .tup [.int (i : Nat), xs.getD i .non]
theorem enumD_len {xs : List D} : (enumD xs).length = xs.length := by unfold enumD; simp
theorem enumD_get {xs : List D} {i : Nat} (h : i < xs.length) : (enumD xs)[i]? = some (.tup [.int (i : Nat), xs[i]]) := by
  unfold enumD; rw [List.getElem?_map, List.getElem?_range h]; simp [h]
theorem new_pair {t T : Addr} {H0 G0 H G G1 : Hp} {μ : Mu} {n : Nat} {x y : V} {dx dy : D} (s : S c t H0 G0 H G1 μ n) (hT : H T = none) (rx : Rp c t G1 dx x) (ry : Rp c t G1 dy y) :
    ∃ G3, S c t H0 G0 (upd H T (.tup [x, y])) G3 μ n ∧ Same G1 G3 ∧ Rp c t G3 (.tup [dx, dy]) (.ref T) := by
  have st := s.new (o := .tup [x, y]) hT
  exact ⟨_, s.step st, st.g, Rp.tupNew upd_same (RpL.mono st.g _ _ (RpL.cons rx (RpL.one ry)))⟩
theorem wk_enumL {t a : Addr} {G : Hp} {vs : List V} {xs : List D} (h : G a = some (.lst vs)) (r : RpL c t G xs vs) : Wk c t (Ite c.K a) G (enumD xs) where
  step := fun H0 G0 H G1 μ n i s g hi => by
    rw [enumD_len] at hi
    have hs : SqL c.K H a vs := SqL.of (s.gh _ _ (g _ _ h))
    obtain ⟨v, h1, h2⟩ := RpL.get (i := i) (d := xs[i]) r (by simp [hi])
    refine ⟨⟨vs, v, hs, h1⟩, fun x H3 ⟨T, y, e1, hT, e2, e3⟩ => ?_⟩
    have := e3 vs hs
    rw [h1] at this; cases this
    obtain ⟨G3, s3, g3, r3⟩ := new_pair (G := G) (dx := .int (i : Nat)) s hT (show Rp c t G1 (.int (i : Nat)) (.int (i : Nat)) by simp only [Rp]) (Rp.mono g _ _ h2)
    subst e1 e2
    exact ⟨_, G3, enumD_get hi, s3, g3, r3⟩
  stop := fun H0 G0 H G1 μ n i s g hi => ⟨vs, SqL.of (s.gh _ _ (g _ _ h)), by rw [RpL.len r, ← enumD_len]; exact hi⟩
theorem wk_enumT {t a : Addr} {G : Hp} {vs : List V} {xs : List D} (h : SqT c.K G a vs) (r : RpL c t G xs vs) : Wk c t (IteT c.K a) G (enumD xs) where
  step := fun H0 G0 H G1 μ n i s g hi => by
    rw [enumD_len] at hi
    have hs : SqT c.K H a vs := Same.tup s.gh (Same.tup g h)
    obtain ⟨v, h1, h2⟩ := RpL.get (i := i) (d := xs[i]) r (by simp [hi])
    refine ⟨⟨vs, v, hs, h1⟩, fun x H3 ⟨T, y, e1, hT, e2, e3⟩ => ?_⟩
    have := e3 vs hs
    rw [h1] at this; cases this
    obtain ⟨G3, s3, g3, r3⟩ := new_pair (G := G) (dx := .int (i : Nat)) s hT (show Rp c t G1 (.int (i : Nat)) (.int (i : Nat)) by simp only [Rp]) (Rp.mono g _ _ h2)
    subst e1 e2
    exact ⟨_, G3, enumD_get hi, s3, g3, r3⟩
  stop := fun H0 G0 H G1 μ n i s g hi => ⟨vs, Same.tup s.gh (Same.tup g h), by rw [RpL.len r, ← enumD_len]; exact hi⟩
def zipD (xs ys : List D) : List D := (List.range (min xs.length ys.length)).map fun i => .tup [xs.getD i .non, ys.getD i .non]
theorem zipD_len {xs ys : List D} : (zipD xs ys).length = min xs.length ys.length := by unfold zipD; simp
theorem zipD_get {xs ys : List D} {i : Nat} (h : i < xs.length) (h' : i < ys.length) : (zipD xs ys)[i]? = some (.tup [xs[i], ys[i]]) := by
  unfold zipD; rw [List.getElem?_map, List.getElem?_range (by omega)]; simp [h, h']
theorem wk_zipL {t a b : Addr} {G : Hp} {vs us : List V} {xs ys : List D} (h : G a = some (.lst vs)) (r : RpL c t G xs vs) (h' : G b = some (.lst us)) (r' : RpL c t G ys us) : Wk c t (Itz c.K a b) G (zipD xs ys) where
  step := fun H0 G0 H G1 μ n i s g hi => by
    rw [zipD_len] at hi
    have hx : i < xs.length := by omega
    have hy : i < ys.length := by omega
    have hs : SqL c.K H a vs := SqL.of (s.gh _ _ (g _ _ h))
    have hs' : SqL c.K H b us := SqL.of (s.gh _ _ (g _ _ h'))
    obtain ⟨v, h1, h2⟩ := RpL.get (i := i) (d := xs[i]) r (by simp [hx])
    obtain ⟨u, h3, h4⟩ := RpL.get (i := i) (d := ys[i]) r' (by simp [hy])
    refine ⟨⟨vs, us, v, u, hs, hs', h1, h3⟩, fun x H3 ⟨T, p, q, e1, hT, e2, e3, e4⟩ => ?_⟩
    have z1 := e3 vs hs
    rw [h1] at z1; cases z1
    have z2 := e4 us hs'
    rw [h3] at z2; cases z2
    obtain ⟨G3, s3, g3, r3⟩ := new_pair (G := G) s hT (Rp.mono g _ _ h2) (Rp.mono g _ _ h4)
    subst e1 e2
    exact ⟨_, G3, zipD_get hx hy, s3, g3, r3⟩
  stop := fun H0 G0 H G1 μ n i s g hi => ⟨vs, us, SqL.of (s.gh _ _ (g _ _ h)), SqL.of (s.gh _ _ (g _ _ h')), by rw [RpL.len r, RpL.len r']; rw [zipD_len] at hi; omega⟩
theorem wk_zipT {t a b : Addr} {G : Hp} {vs us : List V} {xs ys : List D} (h : SqT c.K G a vs) (r : RpL c t G xs vs) (h' : SqT c.K G b us) (r' : RpL c t G ys us) : Wk c t (RZ.ItzT c.K a b) G (zipD xs ys) where
  step := fun H0 G0 H G1 μ n i s g hi => by
    rw [zipD_len] at hi
    have hx : i < xs.length := by omega
    have hy : i < ys.length := by omega
    have hs : SqT c.K H a vs := Same.tup s.gh (Same.tup g h)
    have hs' : SqT c.K H b us := Same.tup s.gh (Same.tup g h')
    obtain ⟨v, h1, h2⟩ := RpL.get (i := i) (d := xs[i]) r (by simp [hx])
    obtain ⟨u, h3, h4⟩ := RpL.get (i := i) (d := ys[i]) r' (by simp [hy])
    refine ⟨⟨vs, us, v, u, hs, hs', h1, h3⟩, fun x H3 ⟨T, p, q, e1, hT, e2, e3, e4⟩ => ?_⟩
    have z1 := e3 vs hs
    rw [h1] at z1; cases z1
    have z2 := e4 us hs'
    rw [h3] at z2; cases z2
    obtain ⟨G3, s3, g3, r3⟩ := new_pair (G := G) s hT (Rp.mono g _ _ h2) (Rp.mono g _ _ h4)
    subst e1 e2
    exact ⟨_, G3, zipD_get hx hy, s3, g3, r3⟩
  stop := fun H0 G0 H G1 μ n i s g hi => ⟨vs, us, Same.tup s.gh (Same.tup g h), Same.tup s.gh (Same.tup g h'), by rw [RpL.len r, RpL.len r']; rw [zipD_len] at hi; omega⟩
/-! a list or a tuple -/
def iSeq (K : PySem.W.Frag) (tl : TE) : TI := fun σ H R => tl σ H fun x H1 => ∃ a, x = .ref a ∧ ((∃ xs, SqL K H1 a xs) ∧ R (Itl K a) H1 ∨ (∃ xs, SqT K H1 a xs) ∧ R (Itt K a) H1)
theorem pi_seq {X : Cx} {tg l : Expr} {tl : TE} (hl : PE X l tl) : PI X tg l (iSeq X.K tl) := by
  refine ⟨fun pins s σ H R I h => ?_⟩
  refine thn (hl.run pins s σ H _ I h) fun v s1 ⟨x, H1, I1, r1, q1⟩ => ?_
  obtain ⟨a, e, q1⟩ := q1
  subst e
  cases r1
  have fin : ∀ b ∈ [s1.heap.objs.size], FpOk X pins H1 b := fun b hb => by
    have e : b = s1.heap.objs.size := by simpa using hb
    subst e
    exact I1.fpOk (Nat.le_refl _) (I1.hok.fresh (Nat.le_refl _))
  rcases q1 with ⟨⟨xs, hq⟩, q⟩ | ⟨⟨xs, hq⟩, q⟩
  · obtain ⟨its, rv, p, hz⟩ := I1.list hq
    refine wpAny_pyIter_list p.isList ?_
    exact ⟨s1.heap.objs.size, [s1.heap.objs.size], _, _, H1, rfl, I1.kept (t' := s1.toks) fun b o e => Heap.get?_push_of_some _ e, turn_list a _, ⟨_, Heap.get?_push_size _ rfl, rfl, rfl⟩, fin, q⟩
  · obtain ⟨its, rv, p, hz⟩ := I1.tuple hq
    refine wpAny_pyIter_tuple p ?_
    exact ⟨s1.heap.objs.size, [s1.heap.objs.size], _, _, H1, rfl, I1.kept (t' := s1.toks) fun b o e => Heap.get?_push_of_some _ e, turn_tuple a _, ⟨_, Heap.get?_push_size _ rfl, rfl, rfl⟩, fin, q⟩
def seqI : D → Option (List D)
  | .lst xs => some xs
  | .tup xs => some xs
  | _ => none
def wiSeq (we : WE) : WI := fun ds μ n Q => we ds μ n fun d μ1 n1 => ∃ xs, seqI d = some xs ∧ Q xs μ1 n1
theorem sndI_seq {te : TE} {we : WE} (h : Snd c te we) : SndI c (iSeq c.K te) (wiSeq we) := fun t H0 G0 H G σ ds μ n R Qd r s w k =>
  h t H0 G0 H G σ ds μ n _ _ r s w fun v H1 G1 d μ1 n1 s1 g1 rv ⟨xs, e, q⟩ => by
    cases d <;> simp only [seqI] at e <;> simp only [Rp] at rv
    all_goals try (cases e; done)
    · obtain ⟨a, vs, rfl, h1, h2⟩ := rv
      cases e
      exact ⟨a, rfl, .inl ⟨⟨vs, SqL.of (s1.gh _ _ h1)⟩, k _ _ _ _ _ _ s1 g1 (wk_list h1 h2) q⟩⟩
    · obtain ⟨a, vs, rfl, h1, h2⟩ := rv
      cases e
      exact ⟨a, rfl, .inr ⟨⟨vs, Same.tup s1.gh h1⟩, k _ _ _ _ _ _ s1 g1 (wk_tup h1 h2) q⟩⟩
def wiRng1 (wr : WA) : WI := fun ds μ n Q => wr ds μ n fun xs μ1 n1 => ∃ j, xs = [.int j] ∧ -100000 ≤ j ∧ j ≤ 100000 ∧ Q (rngD 0 j.toNat) μ1 n1
theorem sndI_rng1 {ta : TA} {wr : WA} (h : SndA c ta wr) : SndI c (iRng1 ta) (wiRng1 wr) := fun t H0 G0 H G σ ds μ n R Qd r s w k =>
  h t H0 G0 H G σ ds μ n _ _ r s w fun vs H1 G1 xs μ1 n1 s1 g1 rs ⟨j, e, h1, h2, q⟩ => by
    subst e
    have rs : RpL c t G1 ([j].map D.int) vs := rs
    rw [rpl_ints] at rs
    subst rs
    exact ⟨j, rfl, by omega, by omega, k _ _ _ _ _ _ s1 g1 wk_range q⟩
def wiRng2 (wr : WA) : WI := fun ds μ n Q => wr ds μ n fun xs μ1 n1 => ∃ i j, xs = [.int i, .int j] ∧ -100000 ≤ i ∧ i ≤ 100000 ∧ -100000 ≤ j ∧ j ≤ 100000 ∧ Q (rngD i (j - i).toNat) μ1 n1
theorem sndI_rng2 {ta : TA} {wr : WA} (h : SndA c ta wr) : SndI c (iRng2 ta) (wiRng2 wr) := fun t H0 G0 H G σ ds μ n R Qd r s w k =>
  h t H0 G0 H G σ ds μ n _ _ r s w fun vs H1 G1 xs μ1 n1 s1 g1 rs ⟨i, j, e, h1, h2, h3, h4, q⟩ => by
    subst e
    have rs : RpL c t G1 ([i, j].map D.int) vs := rs
    rw [rpl_ints] at rs
    subst rs
    exact ⟨i, j, rfl, by omega, k _ _ _ _ _ _ s1 g1 wk_range q⟩
def wiEnum (wr : WA) : WI := fun ds μ n Q => wr ds μ n fun xs μ1 n1 => ∃ d ys, xs = [d] ∧ seqI d = some ys ∧ Q (enumD ys) μ1 n1
theorem sndI_enum {ta : TA} {wr : WA} (h : SndA c ta wr) : SndI c (iEnumA c.K ta) (wiEnum wr) := fun t H0 G0 H G σ ds μ n R Qd r s w k =>
  h t H0 G0 H G σ ds μ n _ _ r s w fun vs H1 G1 xs μ1 n1 s1 g1 rs ⟨d, ys, e0, e, q⟩ => by
    subst e0
    simp only [RpL] at rs
    obtain ⟨v, _, rfl, rv, rfl⟩ := rs
    cases d <;> simp only [seqI] at e <;> simp only [Rp] at rv
    all_goals try (cases e; done)
    · obtain ⟨a, vs, rfl, h1, h2⟩ := rv
      cases e
      exact ⟨a, vs, rfl, .inl ⟨SqL.of (s1.gh _ _ h1), k _ _ _ _ _ _ s1 g1 (wk_enumL h1 h2) q⟩⟩
    · obtain ⟨a, vs, rfl, h1, h2⟩ := rv
      cases e
      exact ⟨a, vs, rfl, .inr ⟨Same.tup s1.gh h1, k _ _ _ _ _ _ s1 g1 (wk_enumT h1 h2) q⟩⟩
def wiZip (wr : WA) : WI := fun ds μ n Q => wr ds μ n fun xs μ1 n1 => ∃ as bs, (xs = [.lst as, .lst bs] ∨ xs = [.tup as, .tup bs]) ∧ Q (zipD as bs) μ1 n1
theorem sndI_zip {ta : TA} {wr : WA} (h : SndA c ta wr) : SndI c (RZ.iZipA c.K ta) (wiZip wr) := fun t H0 G0 H G σ ds μ n R Qd r s w k =>
  h t H0 G0 H G σ ds μ n _ _ r s w fun vs H1 G1 xs μ1 n1 s1 g1 rs ⟨as, bs, e, q⟩ => by
    rcases e with rfl | rfl
    · simp only [RpL, Rp] at rs
      obtain ⟨v, _, rfl, ⟨a, us, rfl, h1, h2⟩, u, _, rfl, ⟨b, ws, rfl, h3, h4⟩, rfl⟩ := rs
      exact ⟨a, b, us, ws, rfl, .inl ⟨SqL.of (s1.gh _ _ h1), SqL.of (s1.gh _ _ h3), k _ _ _ _ _ _ s1 g1 (wk_zipL h1 h2 h3 h4) q⟩⟩
    · simp only [RpL, Rp] at rs
      obtain ⟨v, _, rfl, ⟨a, us, rfl, h1, h2⟩, u, _, rfl, ⟨b, ws, rfl, h3, h4⟩, rfl⟩ := rs
      exact ⟨a, b, us, ws, rfl, .inr ⟨Same.tup s1.gh h1, Same.tup s1.gh h3, k _ _ _ _ _ _ s1 g1 (wk_zipT h1 h2 h3 h4) q⟩⟩

/-! ### for -/
def wFor (wi : WI) (g : WG) (wb : WS) : WS := fun De ds μ n => wi ds μ n fun items μ1 n1 => ∃ Iv : Nat → Env → Mu → Nat → Prop, Iv 0 ds μ1 n1 ∧
  (∀ i d ds μ n, items[i]? = some d → Iv i ds μ n → g d ds fun ds2 => wb { De with nx := Iv (i + 1), ct := Iv (i + 1), bk := De.nx } ds2 μ n) ∧ ∀ ds μ n, Iv items.length ds μ n → De.nx ds μ n
theorem sndS_for {wi : TI} {g : TG} {tb : TS} {Wi : WI} {wg : WG} {wb : WS} (hi : SndI c wi Wi) (hg : SndG c g wg) (hb : SndS c tb wb) : SndS c (tFor wi g tb) (wFor Wi wg wb) := fun t H0 G0 H G σ ds μ n De E r s k1 k2 k3 k4 w =>
  hi t H0 G0 H G σ ds μ n _ _ r s w fun J H1 G1 items μ1 n1 s1 g1 wk ⟨Iv, i0, step, fin⟩ => by
    refine ⟨fun i m σ' H' => ∃ G' ds' μ' n', m = items.length - i ∧ i ≤ items.length ∧ RpS c t G' σ' ds' ∧ S c t H0 G0 H' G' μ' n' ∧ Same G1 G' ∧ Iv i ds' μ' n',
      ⟨_, G1, ds, μ1, n1, rfl, Nat.zero_le _, r.mono g1, s1, Same.refl _, i0⟩, ?_⟩
    rintro i m σ' H' ⟨G', ds', μ', n', rfl, hle, r', s', g', iv⟩
    by_cases hlt : i < items.length
    · obtain ⟨hgo, hy⟩ := wk.step H0 G0 H' G' μ' n' i s' g' hlt
      refine .inr ⟨hgo, fun σ2 H2 => ∃ G2 ds2 μ2 n2, RpS c t G2 σ2 ds2 ∧ S c t H0 G0 H2 G2 μ2 n2 ∧ Same G1 G2 ∧ Iv (i + 1) ds2 μ2 n2, fun σ2 H2 ⟨G2, ds2, μ2, n2, r2, s2, g2, iv2⟩ => ⟨items.length - (i + 1), by omega, G2, ds2, μ2, n2, rfl, by omega, r2, s2, g2, iv2⟩, fun x H3 y => ?_⟩
      obtain ⟨d, G3, hd, s3, g3, r3⟩ := hy x H3 y
      refine hg t H3 G3 σ' ds' x d _ _ (r'.mono g3) s3.gh r3 (step i d ds' μ' n' hd iv) fun σ4 ds4 r4 w4 => ?_
      have g13 : Same G1 G3 := Same.trans g' g3
      -- the body runs from here; what it reaches lies above G1
      refine hb t H0 G1 H3 G3 σ4 ds4 μ' n' _ _ r4 (S.root s1 s3 g13) ?_ ?_ ?_ ?_ w4
      · intro σ5 H5 G5 ds5 μ5 n5 r5 s5 q5
        exact ⟨G5, ds5, μ5, n5, r5, (S.unroot s1 s5), s5.g0, q5⟩
      · intro v H5 G5 d5 n5 s5 r5 q5
        exact k2 v H5 G5 d5 n5 (S.unroot s1 s5) r5 q5
      · intro σ5 H5 G5 ds5 μ5 n5 r5 s5 q5
        exact k1 σ5 H5 G5 ds5 μ5 n5 r5 (S.unroot s1 s5) q5
      · intro σ5 H5 G5 ds5 μ5 n5 r5 s5 q5
        exact ⟨G5, ds5, μ5, n5, r5, (S.unroot s1 s5), s5.g0, q5⟩
    · have e : i = items.length := by omega
      subst e
      exact .inl ⟨wk.stop H0 G0 H' G' μ' n' _ s' g' (Nat.le_refl _), k1 σ' H' G' ds' μ' n' r' s' (fin ds' μ' n' iv)⟩
/-! ### comprehensions -/
theorem wipe_get {σ : St} {i : Nat} : ∀ {vs : List Nat}, (wipe σ vs)[i]? = if i ∈ vs then σ[i]?.map (fun _ => none) else σ[i]?
  | [] => by simp [wipe]
  | v :: vs => by
    show ((wipe σ vs).set v none)[i]? = _
    rw [List.getElem?_set]
    have ih := wipe_get (σ := σ) (i := i) (vs := vs)
    by_cases h : v = i
    · subst h
      rw [if_pos rfl, if_pos List.mem_cons_self, wipe_length]
      by_cases hl : v < σ.length
      · rw [if_pos hl]; simp [hl]
      · rw [if_neg hl]; simp [hl]
    · rw [if_neg h, ih]
      have : (i ∈ v :: vs) ↔ i ∈ vs := by simp [Ne.symm h]
      by_cases hm : i ∈ vs
      · rw [if_pos hm, if_pos (this.mpr hm)]
      · rw [if_neg hm, if_neg (fun z => hm (this.mp z))]
def wipeE (ds : Env) : List Nat → Env
  | [] => ds
  | v :: vs => (wipeE ds vs).set v none
theorem wipeE_len (ds : Env) : ∀ vs : List Nat, (wipeE ds vs).length = ds.length
  | [] => rfl
  | v :: vs => by show ((wipeE ds vs).set v none).length = _; rw [List.length_set, wipeE_len ds vs]
theorem RpS.wipe {t : Addr} {G : Hp} {σ : St} {ds : Env} (r : RpS c t G σ ds) : ∀ vs : List Nat, RpS c t G (wipe σ vs) (wipeE ds vs)
  | [] => r
  | v :: vs => by
    have ih := RpS.wipe r vs
    refine ⟨by show ((L2.wipe σ vs).set v none).length = ((wipeE ds vs).set v none).length; rw [List.length_set, List.length_set]; exact ih.1, fun i d h => ?_⟩
    show ∃ u, ((L2.wipe σ vs).set v none)[i]? = some (some u) ∧ _
    have h : ((wipeE ds vs).set v none)[i]? = some (some d) := h
    rw [List.getElem?_set] at h ⊢
    by_cases e : v = i
    · subst e
      rw [if_pos rfl] at h
      split at h <;> cases h
    · rw [if_neg e] at h ⊢
      exact ih.2 i d h
def okT (g : TG) (vs : List Nat) : Prop := ∀ x (σ : St) (H : Hp) (Q : St → Hp → Prop), g x (wipe σ vs) H Q → g x (wipe σ vs) H fun σ2 H2 => wipe σ2 vs = wipe σ vs ∧ Q σ2 H2
theorem wipe_set {σ : St} {i : Nat} {v : Option V} {vs : List Nat} (h : i ∈ vs) : wipe ((wipe σ vs).set i v) vs = wipe σ vs := by
  apply List.ext_getElem?
  intro j
  rw [wipe_get, wipe_get, List.getElem?_set, wipe_get]
  by_cases hj : j ∈ vs
  · rw [if_pos hj, if_pos hj]
    by_cases e : i = j
    · subst e
      rw [if_pos rfl, wipe_length]
      by_cases hl : i < σ.length
      · rw [if_pos hl]; simp [hl]
      · rw [if_neg hl]; simp [hl]
    · rw [if_neg e]; cases σ[j]? <;> rfl
  · rw [if_neg hj, if_neg hj]
    have e : i ≠ j := fun z => hj (z ▸ h)
    rw [if_neg e]
theorem okT_name {i : Nat} {vs : List Nat} (h : i ∈ vs) : okT (gName i) vs := fun x σ H Q q => ⟨wipe_set h, q⟩
theorem wipe_set2 {σ : St} {i j : Nat} {v u : Option V} {vs : List Nat} (h : i ∈ vs) (h' : j ∈ vs) : wipe (((wipe σ vs).set i v).set j u) vs = wipe σ vs := by
  have e : ((wipe σ vs).set i v).set j u = ((wipe ((wipe σ vs).set i v) vs).set i v).set j u := by rw [wipe_set h]
  apply List.ext_getElem?
  intro k
  rw [wipe_get, wipe_get, List.getElem?_set, List.getElem?_set, wipe_get]
  by_cases hk : k ∈ vs
  · rw [if_pos hk, if_pos hk]
    by_cases e1 : j = k
    · subst e1
      rw [if_pos rfl, List.length_set, wipe_length]
      by_cases hl : j < σ.length
      · rw [if_pos hl]; simp [hl]
      · rw [if_neg hl]; simp [hl]
    · rw [if_neg e1]
      by_cases e2 : i = k
      · subst e2
        rw [if_pos rfl, wipe_length]
        by_cases hl : i < σ.length
        · rw [if_pos hl]; simp [hl]
        · rw [if_neg hl]; simp [hl]
      · rw [if_neg e2]; cases σ[k]? <;> rfl
  · have n1 : j ≠ k := fun z => hk (z ▸ h')
    have n2 : i ≠ k := fun z => hk (z ▸ h)
    rw [if_neg hk, if_neg hk, if_neg n1, if_neg n2]
theorem okT_pair {K : PySem.W.Frag} {i j m : Nat} {vs : List Nat} (h : i ∈ vs) (h' : j ∈ vs) : okT (gTup K m (gCons (gName i) (gCons (gName j) gNil))) vs := fun x σ H Q ⟨a, xs, e1, e2, e3, v, r, e4, u, r', e5, e6, q⟩ =>
  ⟨a, xs, e1, e2, e3, v, r, e4, u, r', e5, e6, wipe_set2 h h', q⟩
def wLc (wi : WI) (g : WG) (wt : WT) (we : WE) (vs : List Nat) : WE := fun ds μ n Q => wi ds μ n fun items μ1 n1 => items.length < 100000 ∧ ∀ p, (∀ e ∈ μ1, e.1 ≠ p) → ∃ Iv : Nat → List D → Nat → Prop, Iv 0 [] n1 ∧
  (∀ i d acc n, items[i]? = some d → Iv i acc n → g d (wipeE ds vs) fun ds2 => wt ds2 ((p, acc) :: μ1) n fun b μ2 n2 => μ2 = (p, acc) :: μ1 ∧ if b = true then we ds2 μ2 n2 fun y μ3 n3 => μ3 = (p, acc) :: μ1 ∧ Iv (i + 1) (acc ++ [y]) n3 else Iv (i + 1) acc n2) ∧
  ∀ acc n, Iv items.length acc n → Q (.lst acc) μ1 n
theorem S.unown {t p : Addr} {H0 G0 H G : Hp} {xs : List D} {μ : Mu} {n : Nat} (s : S c t H0 G0 H G ((p, xs) :: μ) n) (hf : ∀ e ∈ μ, e.1 ≠ p) :
    ∃ G', S c t H0 G0 H G' μ n ∧ Same G G' ∧ Rp c t G' (.lst xs) (.ref p) := by
  obtain ⟨h1, h2, h3, vs, h4, h5⟩ := s.own _ List.mem_cons_self
  simp only at h1 h2 h3 h4 h5
  have sg : Same G (upd G p (.lst vs)) := same_new h2
  refine ⟨upd G p (.lst vs), ⟨⟨fun b o e => ?_, fun b hx => by rw [upd_ne (fun z : b = p => s.pen.lst h1 h4 (by rw [← z]; exact hx))]; exact s.gt b hx, s.pen.keep (fun _ h => h) sg (fun T => T) (nt_upd nt_lst), fun e he => ?_, Same.trans s.g0 sg, s.h0, fun b o no hb hg => ?_⟩, s.adm⟩, sg, Rp.lstNew upd_same (RpL.mono sg _ _ h5)⟩
  · unfold upd at e
    by_cases hb : b = p
    · rw [if_pos hb] at e; cases e; rw [hb]; exact h4
    · rw [if_neg hb] at e; exact s.gh _ _ e
  · obtain ⟨q1, q2, q3, us, q4, q5⟩ := s.own e (List.mem_cons_of_mem _ he)
    exact ⟨q1, by rw [upd_ne (hf e he)]; exact q2, q3, us, q4, RpL.mono sg _ _ q5⟩
  · have : b ≠ p := fun z => h3 o no (by rw [← z]; exact hb)
    rw [upd_ne this]; exact s.n0 b o no hb hg
theorem muSet_head {p : Addr} {xs ys : List D} {μ : Mu} (hf : ∀ e ∈ μ, e.1 ≠ p) : muSet ((p, xs) :: μ) p ys = (p, ys) :: μ := by
  unfold muSet
  rw [List.map_cons, if_pos rfl]
  congr 1
  refine (List.map_congr_left fun e he => if_neg (hf e he)).trans (List.map_id _)
theorem snd_lc {wi : TI} {g : TG} {tt : TT} {te : TE} {vs : List Nat} {Wi : WI} {wg : WG} {wt : WT} {we : WE} (hi : SndI c wi Wi) (hg : SndG c g wg) (ok : okT g vs) (ht : SndT c tt wt) (he : Snd c te we) : Snd c (tLc wi g tt te vs) (wLc Wi wg wt we vs) := fun t H0 G0 H G σ ds μ n Q Qd r s w k =>
  hi t H0 G0 H G σ ds μ n _ _ r s w fun J H1 G1 items μ1 n1 s1 g1 wk ⟨hlen, w⟩ => fun Dl hD => by
    have hf := s1.fresh_own hD
    obtain ⟨Iv, i0, step, fin⟩ := w Dl hf
    have s2 := s1.newOwn (vs := []) (xs := []) hD RpL.nil
    refine ⟨fun i m H' => ∃ G' acc n', m = items.length - i ∧ i ≤ items.length ∧ acc.length ≤ i ∧ S c t H0 G0 H' G' ((Dl, acc) :: μ1) n' ∧ Same G1 G' ∧ Iv i acc n', ⟨_, G1, [], n1, rfl, Nat.zero_le _, Nat.zero_le _, s2, Same.refl _, i0⟩, ?_⟩
    rintro i m H' ⟨G', acc, n', rfl, hle, hacc, s', g', iv⟩
    by_cases hlt : i < items.length
    · obtain ⟨hgo, hy⟩ := wk.step H0 G0 H' G' _ n' i s' g' hlt
      refine .inr ⟨hgo, fun H2 => ∃ G2 acc2 n2, acc2.length ≤ i + 1 ∧ S c t H0 G0 H2 G2 ((Dl, acc2) :: μ1) n2 ∧ Same G1 G2 ∧ Iv (i + 1) acc2 n2, fun H2 ⟨G2, acc2, n2, a2, s2, g2, iv2⟩ => ⟨items.length - (i + 1), by omega, G2, acc2, n2, rfl, by omega, a2, s2, g2, iv2⟩, fun x H3 y => ?_⟩
      obtain ⟨d, G3, hd, s3, g3, r3⟩ := hy x H3 y
      have g13 : Same G1 G3 := Same.trans g' g3
      refine ok x σ H3 _ ?_
      refine hg t H3 G3 (wipe σ vs) (wipeE ds vs) x d _ _ (((r.mono g1).mono g13).wipe vs) s3.gh r3 (step i d acc n' hd iv) fun σ4 ds4 r4 w4 => ?_
      refine ht t H0 G0 H3 G3 σ4 ds4 _ n' _ _ r4 s3 w4 fun b H5 G5 μ5 n5 s5 g5 w5 => ?_
      obtain ⟨e5, w5⟩ := w5
      subst e5
      cases b with
      | false => exact iteF ⟨G5, acc, n5, by omega, s5, Same.trans g13 g5, by simpa using w5⟩
      | true =>
        refine iteT ?_
        rw [if_pos rfl] at w5
        refine he t H0 G0 H5 G5 σ4 ds4 _ n5 _ _ (r4.mono g5) s5 w5 fun z H6 G6 dz μ6 n6 s6 g6 rz ⟨e6, iv6⟩ => ?_
        subst e6
        obtain ⟨us, h1, h2⟩ := lookup_of_own (p := Dl) (xs := acc) s6 (by rw [List.lookup_cons, beq_self_eq_true])
        refine ⟨us, h1, by rw [RpL.len h2]; exact sz_lt (by omega), G6, acc ++ [dz], n6, (by simp; omega), ?_, Same.trans g13 (Same.trans g5 g6), iv6⟩
        have := s6.setOwn (ys := acc ++ [dz]) List.mem_cons_self (RpL.append h2 (RpL.one rz))
        rw [muSet_head hf] at this
        exact this
    · have e : i = items.length := by omega
      subst e
      obtain ⟨G6, s6, g6, r6⟩ := s'.unown hf
      exact .inl ⟨wk.stop H0 G0 H' G' _ n' _ s' g' (Nat.le_refl _), k _ _ _ _ _ _ s6 (Same.trans g1 (Same.trans g' g6)) r6 (fin acc n' iv)⟩
def wYes : WT := fun _ μ n Q => Q true μ n
theorem sndT_yes : SndT c tYes wYes := fun t H0 G0 H G σ ds μ n Q Qd r s w k => k true H G μ n s (Same.refl _) w
/-- a list into names -/
def gwUnl (m : Nat) (gs : WGs) : WG := fun d ds Q => ∃ xs, d = .lst xs ∧ xs.length = m ∧ gs xs ds Q
theorem sndG_unl {m : Nat} {gs : TGs} {ws : WGs} (h : SndGs c gs ws) : SndG c (gUnl c.K m gs) (gwUnl m ws) := fun t H G σ ds v d Q Qd r gh rv w k => by
  obtain ⟨xs, rfl, hl, w⟩ := w
  simp only [Rp] at rv
  obtain ⟨a, vs, rfl, h1, h2⟩ := rv
  exact ⟨a, vs, rfl, SqL.of (gh _ _ h1), (RpL.len h2).trans hl, h t H G σ ds vs xs _ _ r gh h2 w k⟩
def rdSum : List D → Mu → Nat → KD → Prop
  | [x], μ, n, Q => ∃ ns : List Int, seqOf μ x = some (ns.map D.int) ∧ Q (.int ns.sum) μ n
  | _, _, _, _ => False
theorem sndC_sum : SndC c (rSumA c.K) rdSum := fun t H0 G0 H G xs ds μ n Q Qd s rs w k => by
  match ds, rs, w with
  | [d], rs, w =>
    simp only [RpL] at rs
    obtain ⟨v, _, rfl, rv, rfl⟩ := rs
    obtain ⟨ns, e, q⟩ := w
    obtain ⟨a, vs, rfl, h1, h2⟩ := seq_at s rv e
    rw [rpl_ints] at h2
    subst h2
    exact ⟨a, ns, rfl, h1, k.now s (by simp only [Rp]) q⟩
  | [], rs, w => simp only [rdSum] at w
  | d :: e :: r, rs, w => simp only [rdSum] at w
end
/-! ### a def keeps its promise -/
def startD (N : List Str) (ds : List D) : Env := ds.map some ++ List.replicate (N.length - ds.length) none
theorem rpS_start {c : Cb} {t : Addr} {G : Hp} {N : List Str} {ds : List D} {vs : List V} (r : RpL c t G ds vs) : RpS c t G (L2.start N vs) (startD N ds) := by
  refine ⟨by unfold L2.start startD; rw [List.length_append, List.length_append, List.length_map, List.length_map, List.length_replicate, List.length_replicate, RpL.len r], fun i d h => ?_⟩
  unfold startD at h
  rw [List.getElem?_append] at h
  by_cases hi : i < (ds.map some).length
  · rw [if_pos hi] at h
    rw [List.length_map] at hi
    rw [List.getElem?_map] at h
    have h2 : ds[i]? = some d := by
      rw [List.getElem?_eq_getElem hi] at h ⊢
      simpa using h
    obtain ⟨v, h3, h4⟩ := RpL.get r h2
    refine ⟨v, ?_, h4⟩
    unfold L2.start
    rw [List.getElem?_append_left (by rw [List.length_map, RpL.len r]; exact hi), List.getElem?_map, h3]
    rfl
  · rw [if_neg hi] at h
    rw [List.getElem?_replicate] at h
    split at h <;> cases h
theorem fn_d {c : Cb} {P : Program} {w : World} {mg : Str → Option Value} {base : Heap} {x qual : Str} {params : Arguments} {body : List Stmt} {scope : Scope} {f : Addr} {fd : FuncData} {N ps : List Str} {k : Nat} {F : FD}
    (Fn : FunD c.K x qual params body scope [] [] f fd) (Sc : FnScope N ps scope)
    (hb : ∀ (cdv : Value) (A : Around) (outer : List PySem.Env) (s : Shared) (H : Hp) (E : XK), Room k (A.deeper (envOfC qual scope s.heap.objs.size f cdv)) →
      ∃ t, PSs (cxOf CX0 P w c.K mg base N qual scope f cdv A outer s H E).nox body t ∧ ∃ W, SndS c.n t W ∧ ∀ ds n Qd, F ds n Qd → ds.length = ps.length → W ⟨fun _ _ n => Qd .non n, Qd, fun _ _ _ => False, fun _ _ _ => False⟩ (startD N ds) [] n) :
    FnOk P w c.K mg base CX0 (k + 1) f fd ps (spD c ps.length F) := by
  refine Fn.ok Sc (fun vs H Q E h => ?_) fun cdv A outer s H vs Q E hr h => ?_
  · obtain ⟨t, G, ds, n, Qd, h1, _⟩ := h
    exact h1
  · obtain ⟨t, G, ds, n, Qd, hl, rs, gh, gt, pen, hF, hQ⟩ := h
    obtain ⟨tr, hp, W, hs, hw⟩ := hb cdv A outer s H E hr
    refine ⟨tr, hp.nox, hs t H G H G _ _ [] n _ _ (rpS_start rs) ⟨⟨gh, gt, pen, fun e he => (by cases he), Same.refl _, fun _ _ _ _ h => h, fun _ _ _ _ h => h⟩, trivial⟩ ?_ ?_ ?_ ?_ (hw ds n Qd hF (by rw [← RpL.len rs]; exact hl))⟩
    · exact fun σ' H' G' ds' μ' n' _ s' q => hQ .non H' G' .non n' ⟨s'.g0, s'.gh, s'.gt, s'.pen, s'.h0, s'.n0⟩ (by simp only [Rp]) q
    · exact fun v H' G' d n' s' r q => hQ v H' G' d n' ⟨s'.g0, s'.gh, s'.gt, s'.pen, s'.h0, s'.n0⟩ r q
    · exact fun _ _ _ _ _ _ _ _ q => q.elim
    · exact fun _ _ _ _ _ _ _ _ q => q.elim
end Dp

set_option Elab.async false
set_option linter.all false
set_option maxRecDepth 100000
set_option maxHeartbeats 4000001
namespace Dp
open PySem PySem.Spec PyProof.Rows L2
/-! ### equality -/
mutual
def pd0 : D → Option PyData
  | .non => some .none
  | .bl b => some (.bool b)
  | .int i => some (.int i)
  | .str x => some (.str x)
  | .lst xs => match pd0L xs with
    | some ps => some (.list ps)
    | none => none
  | .tup xs => match pd0L xs with
    | some ps => some (.tuple ps)
    | none => none
  | _ => none
def pd0L : List D → Option (List PyData)
  | [] => some []
  | d :: ds => match pd0 d, pd0L ds with
    | some p, some ps => some (p :: ps)
    | _, _ => none
end
def pdOf (μ : Mu) : D → Option PyData
  | .own p => match μ.lookup p with
    | some xs => (match pd0L xs with
      | some ps => some (.list ps)
      | none => none)
    | none => none
  | d => pd0 d
section
variable {c : Cn} {t : Addr} {G H : Hp}
mutual
theorem dp_of (gh : Same G H) : ∀ (d : D) (v : V) (p : PyData), Rp c t G d v → pd0 d = some p → L2.Dp c.K H v p
  | .non, v, p, h, e => by simp only [Rp] at h; simp only [pd0] at e; subst h; cases e; exact .non
  | .bl b, v, p, h, e => by simp only [Rp] at h; simp only [pd0] at e; subst h; cases e; exact .bl b
  | .int i, v, p, h, e => by simp only [Rp] at h; simp only [pd0] at e; subst h; cases e; exact .int i
  | .str x, v, p, h, e => by simp only [Rp] at h; simp only [pd0] at e; subst h; cases e; exact .str x
  | .lst xs, v, p, h, e => by
    simp only [Rp] at h
    obtain ⟨a, vs, rfl, h1, h2⟩ := h
    simp only [pd0] at e
    cases q : pd0L xs with
    | none => rw [q] at e; cases e
    | some ps => rw [q] at e; cases e; exact .lst (SqL.of (gh _ _ h1)) (dpL_of gh xs vs ps h2 q)
  | .tup xs, v, p, h, e => by
    simp only [Rp] at h
    obtain ⟨a, vs, rfl, h1, h2⟩ := h
    simp only [pd0] at e
    cases q : pd0L xs with
    | none => rw [q] at e; cases e
    | some ps => rw [q] at e; cases e; exact .tup (Same.tup gh h1) (dpL_of gh xs vs ps h2 q)
  | .row ns, v, p, h, e => by simp only [pd0] at e; cases e
  | .own q, v, p, h, e => by simp only [pd0] at e; cases e
  | .pen, v, p, h, e => by simp only [pd0] at e; cases e
  | .ty n, v, p, h, e => by simp only [pd0] at e; cases e
  | .adr a, v, p, h, e => by simp only [pd0] at e; cases e
  | .obj C fs, v, p, h, e => by simp only [pd0] at e; cases e
  | .dic, v, p, h, e => by simp only [pd0] at e; cases e
  | .exc C ks xs, v, p, h, e => by simp only [pd0] at e; cases e
theorem dpL_of (gh : Same G H) : ∀ (ds : List D) (vs : List V) (ps : List PyData), RpL c t G ds vs → pd0L ds = some ps → L2.DpAll c.K H vs ps
  | [], vs, ps, h, e => by simp only [RpL] at h; simp only [pd0L] at e; subst h; cases e; exact .nil
  | d :: ds, vs, ps, h, e => by
    simp only [RpL] at h
    obtain ⟨v, r, rfl, h1, h2⟩ := h
    simp only [pd0L] at e
    cases q1 : pd0 d with
    | none => rw [q1] at e; cases e
    | some p =>
      cases q2 : pd0L ds with
      | none => rw [q1, q2] at e; cases e
      | some r' => rw [q1, q2] at e; cases e; exact .cons (dp_of gh d v p h1 q1) (dpL_of gh ds r r' h2 q2)
end
theorem pdOf_ok {H0 G0 : Hp} {μ : Mu} {n : Nat} (s : S c t H0 G0 H G μ n) {d : D} {v : V} {p : PyData} (r : Rp c t G d v) (e : pdOf μ d = some p) : L2.Dp c.K H v p := by
  cases d
  case own q =>
    simp only [pdOf] at e
    simp only [Rp] at r
    subst r
    cases e1 : μ.lookup q with
    | none => rw [e1] at e; cases e
    | some xs =>
      rw [e1] at e
      simp only at e
      obtain ⟨vs, h1, h2⟩ := lookup_of_own s e1
      cases e2 : pd0L xs with
      | none => rw [e2] at e; cases e
      | some ps => rw [e2] at e; cases e; exact .lst (SqL.of h1) (dpL_of s.gh xs vs ps h2 e2)
  all_goals exact dp_of s.gh _ _ _ r (by simpa only [pdOf] using e)
end
def EqOk (μ : Mu) (x y : D) (b : Bool) : Prop := (∃ p q, pdOf μ x = some p ∧ pdOf μ y = some q ∧ SeqAt.shaped p = true ∧ SeqAt.shaped q = true ∧ b = PyData.eqv p q) ∨ ∃ a a', x = .row a ∧ y = .row a' ∧ b = decide (a = a')
theorem ints_pd : ∀ xs : List Int, pd0L (xs.map D.int) = some (xs.map PyData.int)
  | [] => rfl
  | x :: xs => by simp only [List.map_cons, pd0L, pd0, ints_pd xs]
theorem strs_pd : ∀ xs : List Str, pd0L (xs.map D.str) = some (xs.map PyData.str)
  | [] => rfl
  | x :: xs => by simp only [List.map_cons, pd0L, pd0, strs_pd xs]
theorem ints_lay : ∀ xs : List Int, PyData.canLayAll0 (xs.map PyData.int) = true ∧ PyData.depthAll (xs.map PyData.int) = 0
  | [] => ⟨rfl, rfl⟩
  | x :: xs => by
    obtain ⟨h1, h2⟩ := ints_lay xs
    simp only [List.map_cons, PyData.canLayAll0, PyData.canLay0, PyData.depthAll, PyData.depth, h1, h2]; exact ⟨rfl, rfl⟩
theorem shaped_tup (xs : List Int) : SeqAt.shaped (.tuple (xs.map PyData.int)) = true := by
  unfold SeqAt.shaped
  simp only [PyData.canLay0, PyData.depth, (ints_lay xs).1, (ints_lay xs).2]; decide
theorem shaped_lst (xs : List Int) : SeqAt.shaped (.list (xs.map PyData.int)) = true := by
  unfold SeqAt.shaped
  simp only [PyData.canLay0, PyData.depth, (ints_lay xs).1, (ints_lay xs).2]; decide
theorem eqv_ints : ∀ xs ys : List Int, PyData.eqvAll (xs.map PyData.int) (ys.map PyData.int) = decide (xs = ys)
  | [], [] => by simp [PyData.eqvAll]
  | [], y :: ys => by simp [PyData.eqvAll]
  | x :: xs, [] => by simp [PyData.eqvAll]
  | x :: xs, y :: ys => by
    simp only [List.map_cons, PyData.eqvAll, PyData.eqv, eqv_ints xs ys]
    by_cases h : x = y
    · subst h; simp
    · have h2 : ¬ (x :: xs = y :: ys) := fun z => h (List.cons.inj z).1
      rw [decide_eq_false h2, beq_false_of_ne h]; rfl
theorem eqok_int {μ : Mu} {i j : Int} : EqOk μ (.int i) (.int j) (decide (i = j)) := .inl ⟨_, _, rfl, rfl, rfl, rfl, by simp only [PyData.eqv]; exact (Bool.beq_eq_decide_eq i j).symm⟩
theorem eqok_bl {μ : Mu} {i j : Bool} : EqOk μ (.bl i) (.bl j) (decide (i = j)) := .inl ⟨_, _, rfl, rfl, rfl, rfl, by simp only [PyData.eqv]; exact (Bool.beq_eq_decide_eq i j).symm⟩
theorem eqok_tup {μ : Mu} {xs ys : List Int} : EqOk μ (.tup (xs.map D.int)) (.tup (ys.map D.int)) (decide (xs = ys)) :=
  .inl ⟨.tuple (xs.map .int), .tuple (ys.map .int), by simp only [pdOf, pd0, ints_pd], by simp only [pdOf, pd0, ints_pd], shaped_tup xs, shaped_tup ys, by simp only [PyData.eqv, eqv_ints]⟩
theorem eqok_lst {μ : Mu} {xs ys : List Int} : EqOk μ (.lst (xs.map D.int)) (.lst (ys.map D.int)) (decide (xs = ys)) :=
  .inl ⟨.list (xs.map .int), .list (ys.map .int), by simp only [pdOf, pd0, ints_pd], by simp only [pdOf, pd0, ints_pd], shaped_lst xs, shaped_lst ys, by simp only [PyData.eqv, eqv_ints]⟩
theorem eqok_row {μ : Mu} {a b : List Int} : EqOk μ (.row a) (.row b) (decide (a = b)) := .inr ⟨a, b, rfl, rfl, rfl⟩
theorem eqok_same {μ : Mu} {d : D} {p : PyData} (h : pdOf μ d = some p) (s : SeqAt.shaped p = true) : EqOk μ d d true := .inl ⟨p, p, h, h, s, s, (SeqAt.eqv_refl p (SeqAt.canLay_of_shaped s)).symm⟩
theorem EqOk.uniq {μ : Mu} {x y : D} {b b' : Bool} (h : EqOk μ x y b) (h' : EqOk μ x y b') : b = b' := by
  rcases h with ⟨p, q, h1, h2, _, _, e⟩ | ⟨a, a', h1, h2, e⟩ <;> rcases h' with ⟨p', q', k1, k2, _, _, e'⟩ | ⟨a1, a2, k1, k2, e'⟩
  · rw [h1] at k1; rw [h2] at k2; cases k1; cases k2; rw [e, e']
  · subst k1; simp only [pdOf, pd0] at h1; cases h1
  · subst h1; simp only [pdOf, pd0] at k1; cases k1
  · rw [h1] at k1; rw [h2] at k2; cases k1; cases k2; rw [e, e']
def FEq : FD := fun ds n Q => ∃ a b, ds = [.row a, .row b] ∧ Q (.bl (decide (a = b))) n
def rEq1 (c : Cb) : R2 := fun x y H Q => rEqD c.K x y H Q ∨ rEqOwn c.R (spD c 2 FEq) x y H Q
def rNe1 (c : Cb) : R2 := fun x y H Q => rNeD c.K x y H Q ∨ rNeOwn c.R (spD c 2 FEq) x y H Q
theorem opEq1 {X : Cx} {cs : List Int} {TT : List (Addr × PySem.Str)} {R f : Addr} {fd : FuncData} {k j : Nat} (F : FnOk X.prog X.w X.K X.mg X.base CX0 k f fd ["self", "other"] (spD ⟨X.K, R, cs, TT⟩ 2 FEq)) (hr : Room j X.A) (hk : k ≤ j) (hb : Binds X.K fd ["self", "other"] []) (ec : EqCls X.K R f) :
    OpR X (compareOp .Eq) (rEq1 ⟨X.K, R, cs, TT⟩) := (op_eqD hr.units).or (op_eqOwn F (hr.mono hk) hb ec)
theorem opNe1 {X : Cx} {cs : List Int} {TT : List (Addr × PySem.Str)} {R f : Addr} {fd : FuncData} {k j : Nat} (F : FnOk X.prog X.w X.K X.mg X.base CX0 k f fd ["self", "other"] (spD ⟨X.K, R, cs, TT⟩ 2 FEq)) (hr : Room j X.A) (hk : k + 1 ≤ j) (hb : Binds X.K fd ["self", "other"] []) (ec : EqCls X.K R f) :
    OpR X (compareOp .NotEq) (rNe1 ⟨X.K, R, cs, TT⟩) := (op_neD hr.units).or (op_neOwn F (hr.mono hk) hb ec)
def rdEq : D → D → Mu → Nat → KD → Prop := fun x y μ n Q => ∃ b, EqOk μ x y b ∧ Q (.bl b) μ n
def rdNe : D → D → Mu → Nat → KD → Prop := fun x y μ n Q => ∃ b, EqOk μ x y b ∧ Q (.bl (!b)) μ n
section
variable {c : Cn}
theorem sp_eq {t : Addr} {H0 G0 H G : Hp} {μ : Mu} {n : Nat} {a a' : List Int} {x y : V} (s : S c t H0 G0 H G μ n) (rx : Rp c t G (.row a) x) (ry : Rp c t G (.row a') y) {Q : VK} (q : ∀ H' G', S c t H0 G0 H' G' μ n → Same G G' → Q (.bl (decide (a = a'))) H') :
    spD c 2 FEq [x, y] H Q E0 :=
  ⟨t, G, [.row a, .row a'], n, fun d n' => d = .bl (decide (a = a')) ∧ n' = n, rfl, RpL.cons rx (RpL.one ry), s.gh, s.gt, s.pen, ⟨a, a', rfl, rfl, rfl⟩, fun v H' G' d n' st rv ⟨e1, e2⟩ => by
    subst e1 e2
    simp only [Rp] at rv
    subst rv
    exact q H' G' (s.step st) st.g⟩
theorem row_at {t : Addr} {G : Hp} {a : List Int} {x : V} (r : Rp c t G (.row a) x) : ∃ p dx fs, x = .ref p ∧ G p = some (.ins c.R dx fs) := by
  simp only [Rp] at r
  obtain ⟨p, dx, tn, tm, h1, h2, _⟩ := r
  exact ⟨p, dx, _, h1, h2⟩
theorem sndR_eq : SndR c (rEq1 c) rdEq := fun t H0 G0 H G x y dx dy μ n Q Qd s rx ry ⟨b, h, q⟩ k => by
  rcases h with ⟨p, p', h1, h2, h3, h4, e⟩ | ⟨a, a', e1, e2, e⟩
  · subst e
    exact .inl ⟨p, p', pdOf_ok s rx h1, pdOf_ok s ry h2, h3, h4, k.now s (by simp only [Rp]) q⟩
  · subst e1 e2 e
    obtain ⟨p, dp, fs, rfl, hp⟩ := row_at rx
    obtain ⟨p', dp', fs', rfl, hp'⟩ := row_at ry
    exact .inr ⟨p, p', dp, dp', fs, fs', rfl, rfl, s.gh _ _ hp, s.gh _ _ hp', sp_eq s rx ry fun H' G' s' g' => ⟨⟨_, rfl⟩, k _ H' G' _ μ n s' g' (by simp only [Rp]) q⟩⟩
theorem sndR_ne : SndR c (rNe1 c) rdNe := fun t H0 G0 H G x y dx dy μ n Q Qd s rx ry ⟨b, h, q⟩ k => by
  rcases h with ⟨p, p', h1, h2, h3, h4, e⟩ | ⟨a, a', e1, e2, e⟩
  · subst e
    exact .inl ⟨p, p', pdOf_ok s rx h1, pdOf_ok s ry h2, h3, h4, k.now s (by simp only [Rp]) q⟩
  · subst e1 e2 e
    obtain ⟨p, dp, fs, rfl, hp⟩ := row_at rx
    obtain ⟨p', dp', fs', rfl, hp'⟩ := row_at ry
    exact .inr ⟨p, p', dp, dp', fs, fs', rfl, rfl, s.gh _ _ hp, s.gh _ _ hp', sp_eq s rx ry fun H' G' s' g' => ⟨_, rfl, k _ H' G' _ μ n s' g' (by simp only [Rp]) q⟩⟩
/-! without own classes -/
def rEq0 (K : PySem.W.Frag) : R2 := rEqD K
def rNe0 (K : PySem.W.Frag) : R2 := rNeD K
theorem opEq0 {X : Cx} {k : Nat} (hr : Room k X.A) : OpR X (compareOp .Eq) (rEq0 X.K) := op_eqD hr.units
theorem opNe0 {X : Cx} {k : Nat} (hr : Room k X.A) : OpR X (compareOp .NotEq) (rNe0 X.K) := op_neD hr.units
def EqOk0 (μ : Mu) (x y : D) (b : Bool) : Prop := EqOk μ x y b ∧ ∀ ns, x ≠ .row ns
def rdEq0 : D → D → Mu → Nat → KD → Prop := fun x y μ n Q => ∃ b, EqOk0 μ x y b ∧ Q (.bl b) μ n
def rdNe0 : D → D → Mu → Nat → KD → Prop := fun x y μ n Q => ∃ b, EqOk0 μ x y b ∧ Q (.bl (!b)) μ n
theorem sndR_eq0 : SndR c (rEq0 c.K) rdEq0 := fun t H0 G0 H G x y dx dy μ n Q Qd s rx ry ⟨b, ⟨h, nr⟩, q⟩ k => by
  rcases h with ⟨p, p', h1, h2, h3, h4, e⟩ | ⟨a, a', e1, e2, e⟩
  · subst e
    exact ⟨p, p', pdOf_ok s rx h1, pdOf_ok s ry h2, h3, h4, k.now s (by simp only [Rp]) q⟩
  · exact absurd e1 (nr a)
theorem sndR_ne0 : SndR c (rNe0 c.K) rdNe0 := fun t H0 G0 H G x y dx dy μ n Q Qd s rx ry ⟨b, ⟨h, nr⟩, q⟩ k => by
  rcases h with ⟨p, p', h1, h2, h3, h4, e⟩ | ⟨a, a', e1, e2, e⟩
  · subst e
    exact ⟨p, p', pdOf_ok s rx h1, pdOf_ok s ry h2, h3, h4, k.now s (by simp only [Rp]) q⟩
  · exact absurd e1 (nr a)
/-! is None -/
def rIs1 : R2 := fun x y H Q => y = .non ∧ Q (.bl (decide (x = .non))) H
def rNot1 : R2 := fun x y H Q => y = .non ∧ Q (.bl (!decide (x = .non))) H
theorem opIs {X : Cx} : OpR X (compareOp .Is) rIs1 := op_isN
theorem opNot {X : Cx} : OpR X (compareOp .IsNot) rNot1 := op_notN
def isNon : D → Bool
  | .non => true
  | _ => false
theorem isNon_ok {t : Addr} {G : Hp} {d : D} {v : V} (r : Rp c t G d v) : decide (v = .non) = isNon d := by
  cases d <;> simp only [Rp] at r
  case non => subst r; rfl
  case lst xs => obtain ⟨a, vs, rfl, _⟩ := r; rfl
  case tup xs => obtain ⟨a, vs, rfl, _⟩ := r; rfl
  case row ns => obtain ⟨a, dx, tn, tm, rfl, _⟩ := r; rfl
  case obj C fs => obtain ⟨a, dx, vs, rfl, _⟩ := r; rfl
  case dic => obtain ⟨a, rfl, _⟩ := r; rfl
  case exc C ks xs => obtain ⟨a, dx, vs, rfl, _⟩ := r; rfl
  all_goals (subst r; rfl)
def rdIs : D → D → Mu → Nat → KD → Prop := fun x y μ n Q => y = .non ∧ Q (.bl (isNon x)) μ n
def rdIsNot : D → D → Mu → Nat → KD → Prop := fun x y μ n Q => y = .non ∧ Q (.bl (!isNon x)) μ n
theorem sndR_is : SndR c rIs1 rdIs := fun t H0 G0 H G x y dx dy μ n Q Qd s rx ry ⟨e, q⟩ k => by
  subst e; simp only [Rp] at ry
  exact ⟨ry, by rw [isNon_ok rx]; exact k.now s (by simp only [Rp]) q⟩
theorem sndR_isNot : SndR c rNot1 rdIsNot := fun t H0 G0 H G x y dx dy μ n Q Qd s rx ry ⟨e, q⟩ k => by
  subst e; simp only [Rp] at ry
  exact ⟨ry, by rw [isNon_ok rx]; exact k.now s (by simp only [Rp]) q⟩
end
/-! ### isinstance -/
structure RowT (c : Cb) : Prop where
  cl : Cls c.K c.R
  nN : NoAttr c.K c.R "numbers"
  nM : NoAttr c.K c.R "many"
  nT : NoAttr c.K c.R "total"
  nK : NoAttr c.K c.R "marks"
  nL : NoAttr c.K c.R "is_lot"
  ha : PySem.W.findIn c.K (.ref c.R) "__class__" = some (some (.builtin "object.__class__"))
  hn : PySem.W.specialIn c.K (.builtin "object.__class__") "__get__" = some (some (.builtin "getset_descriptor.__get__"))
  htk : PySem.W.takesIn c.K (.builtin "object.__class__") = some true
  hm : PySem.W.mroIn c.K c.R (.type "object") = some true
  kit : PySem.W.kitOne c.K (.ref c.R) (.ref c.R) = some true
  kitI : PySem.W.kitOne c.K (.ref c.R) (.type "int") = some false
  kitL : PySem.W.kitOne c.K (.ref c.R) (.type "list") = some false
  kitT : PySem.W.kitOne c.K (.ref c.R) (.type "tuple") = some false
  kitS : PySem.W.kitOne c.K (.ref c.R) (.type "str") = some false
def tyName : D → Option String
  | .non => some "NoneType"
  | .bl _ => some "bool"
  | .int _ => some "int"
  | .str _ => some "str"
  | .lst _ => some "list"
  | .tup _ => some "tuple"
  | .dic => some "dict"
  | _ => none
theorem tyX_of {c : Cn} {t : Addr} {H0 G0 H G : Hp} {μ : Mu} {n : Nat} (s : S c t H0 G0 H G μ n) {d : D} {v : V} {T : String} (r : Rp c t G d v) (e : tyName d = some T) : TyX c.K H v (.type T) := by
  cases d <;> simp only [tyName] at e <;> (first | (cases e; done) | cases e) <;> simp only [Rp] at r
  case non => subst r; exact .base .non
  case bl b => subst r; exact .base (.bl b)
  case int b => subst r; exact .base (.int b)
  case str b => subst r; exact .base (.str b)
  case lst xs => obtain ⟨a, vs, rfl, h1, _⟩ := r; exact .base (.lst (s.gh _ _ h1))
  case dic => obtain ⟨a, rfl, h1⟩ := r; exact .base (.dK (s.gh _ _ h1))
  case tup xs =>
    obtain ⟨a, vs, rfl, h1, _⟩ := r
    rcases Same.tup s.gh h1 with (h | ⟨o, h⟩) | h
    · exact .base (.tup h)
    · exact .fTuple h
    · obtain ⟨o, its, n, h3, h4, _⟩ := h
      exact .kTuple h3 h4
/-- isinstance(x, T), T a built-in class or Row -/
def isiB (T : String) : List String → Option Bool
  | [] => some false
  | n :: r => match kitB T n with
    | some true => some true
    | some false => isiB T r
    | none => none
/-- what isinstance answers of data: of a built-in class -/
def isiD : D → String → Option Bool
  | .row _, m => if m = "int" ∨ m = "list" ∨ m = "tuple" ∨ m = "str" then some false else none
  | x, m => (tyName x).bind fun T => kitB T m
def rdIsi (R : Addr) : List D → Mu → Nat → KD → Prop
  | [x, .ty m], μ, n, Q => ∃ b, isiD x m = some b ∧ Q (.bl b) μ n
  | [.row _, .adr a], μ, n, Q => a = R ∧ Q (.bl true) μ n
  | _, _, _, _ => False
theorem isiD_ok {x : D} {m : String} {b : Bool} (h : isiD x m = some b) : (∃ T, tyName x = some T ∧ kitB T m = some b) ∨ (∃ ns, x = .row ns ∧ b = false ∧ (m = "int" ∨ m = "list" ∨ m = "tuple" ∨ m = "str")) := by
  cases x
  case row ns =>
    simp only [isiD] at h
    split at h
    · cases h; exact .inr ⟨ns, rfl, rfl, by assumption⟩
    · cases h
  all_goals
    simp only [isiD] at h
    obtain ⟨T, h1, h2⟩ := Option.bind_eq_some_iff.mp h
    exact .inl ⟨T, h1, h2⟩
def rIsi1 (K : PySem.W.Frag) : List V → Hp → VK → Prop := fun xs H Q => rIsi K xs H Q ∨ rIsiT K xs H Q
theorem callIsi {X : Cx} : CallR X (.builtin "isinstance") (rIsi1 X.K) := call_isi.or call_isiT
theorem isiB_ok {K : PySem.W.Frag} {T : String} : ∀ {ms : List String} {b : Bool}, isiB T ms = some b → PySem.W.kitAny K (.type T) (ms.map Value.type) = some b
  | [], b, h => by cases h; rfl
  | m :: ms, b, h => by
    unfold isiB at h
    cases e : kitB T m with
    | none => rw [e] at h; cases h
    | some k =>
      rw [e] at h
      refine kitAny_cons (kit_ty e) (fun z => ?_) fun z => ?_
      · subst z; exact isiB_ok h
      · subst z; cases h; rfl
theorem tyX_row {c : Cn} (T : RowT c) {t : Addr} {H0 G0 H G : Hp} {μ : Mu} {n : Nat} (s : S c t H0 G0 H G μ n) {ns : List Int} {v : V} (r : Rp c t G (.row ns) v) : TyX c.K H v (.ref c.R) := by
  obtain ⟨p, dx, fs, rfl, hp⟩ := row_at r
  exact .base (.ins (s.gh _ _ hp) T.cl T.ha T.hn T.htk T.hm)
theorem rdIsi_inv {R : Addr} {ds : List D} {μ : Mu} {n : Nat} {Q : KD} (h : rdIsi R ds μ n Q) : (∃ x m b, ds = [x, .ty m] ∧ isiD x m = some b ∧ Q (.bl b) μ n) ∨ (∃ ns, ds = [.row ns, .adr R] ∧ Q (.bl true) μ n) := by
  unfold rdIsi at h
  split at h
  · obtain ⟨b, h1, h2⟩ := h; exact .inl ⟨_, _, b, rfl, h1, h2⟩
  · obtain ⟨rfl, h2⟩ := h; exact .inr ⟨_, rfl, h2⟩
  · exact h.elim
theorem sndC_isi {c : Cn} (T : RowT c) : SndC c (rIsi1 c.K) (rdIsi c.R) := fun t H0 G0 H G xs ds μ n Q Qd s rs w k => by
  rcases rdIsi_inv w with ⟨x, m, b, rfl, h, q⟩ | ⟨ns, rfl, q⟩
  · simp only [RpL] at rs
    obtain ⟨v, _, rfl, rv, u, _, rfl, ru, rfl⟩ := rs
    simp only [Rp] at ru
    subst ru
    rcases isiD_ok h with ⟨T', e, e3⟩ | ⟨ns, rfl, rfl, hm⟩
    · exact .inl ⟨v, .ty m, _, _, b, rfl, .ty m, tyX_of s rv e, kit_ty e3, k.now s (by simp only [Rp]) q⟩
    · refine .inl ⟨v, .ty m, _, _, false, rfl, .ty m, tyX_row T s rv, ?_, k.now s (by simp only [Rp]) q⟩
      rcases hm with rfl | rfl | rfl | rfl
      · exact T.kitI
      · exact T.kitL
      · exact T.kitT
      · exact T.kitS
  · simp only [RpL] at rs
    obtain ⟨v, _, rfl, rv, u, _, rfl, ru, rfl⟩ := rs
    simp only [Rp] at ru
    subst ru
    exact .inl ⟨v, .ref c.R, _, _, true, rfl, .own c.R, tyX_row T s rv, T.kit, k.now s (by simp only [Rp]) q⟩
def isiD2 : D → String → String → Option Bool
  | .row _, a, b => if a = "list" ∧ b = "tuple" then some false else none
  | x, a, b => (tyName x).bind fun T => isiB T [a, b]
theorem isiD2_ok {x : D} {a b : String} {k : Bool} (h : isiD2 x a b = some k) : (∃ T, tyName x = some T ∧ isiB T [a, b] = some k) ∨ (∃ ns, x = .row ns ∧ k = false ∧ a = "list" ∧ b = "tuple") := by
  cases x
  case row ns =>
    simp only [isiD2] at h
    split at h
    · rename_i q; cases h; exact .inr ⟨ns, rfl, rfl, q.1, q.2⟩
    · cases h
  all_goals
    simp only [isiD2] at h
    obtain ⟨T, h1, h2⟩ := Option.bind_eq_some_iff.mp h
    exact .inl ⟨T, h1, h2⟩
def wIsi2 (we : WE) (a b : String) : WE := fun ds μ n Q => we ds μ n fun x μ1 n1 => ∃ k, isiD2 x a b = some k ∧ Q (.bl k) μ1 n1
theorem snd_isi2 {c : Cn} (T : RowT c) {te : TE} {we : WE} {a b : String} (h : Snd c te we) : Snd c (tCB (rIsi1 c.K) (tCons te (tCons (tTup (tCons (tC (.ty a)) (tCons (tC (.ty b)) tNil))) tNil))) (wIsi2 we a b) := fun t H0 G0 H G σ ds μ n Q Qd r s w k =>
  h t H0 G0 H G σ ds μ n _ _ r s w fun v H1 G1 d μ1 n1 s1 g1 rv ⟨b', hb, q⟩ => by
    refine ⟨by show 2 ≤ sizeLine; decide, fun p hp => ?_⟩
    have st := s1.new (o := .tup [.ty a, .ty b]) hp
    have s2 := s1.step st
    have rv2 := Rp.mono st.g _ _ rv
    have ky := k _ _ _ (.bl b') _ _ s2 (Same.trans g1 st.g) (by simp only [Rp]; rfl) q
    refine .inr ?_
    rcases isiD2_ok hb with ⟨T', e, e3⟩ | ⟨ns, rfl, rfl, rfl, rfl⟩
    · exact ⟨v, p, [.ty a, .ty b], .type T', [.type a, .type b], b', rfl, upd_same, .cons (.ty a) (.cons (.ty b) .nil), tyX_of s2 rv2 e, isiB_ok (ms := [a, b]) e3, ky⟩
    · refine ⟨v, p, _, _, [.type "list", .type "tuple"], false, rfl, upd_same, .cons (.ty _) (.cons (.ty _) .nil), tyX_row T s2 rv2, kitAny_cons T.kitL (fun _ => kitAny_cons T.kitT (fun _ => kitAny_nil) (fun z => nomatch z)) (fun z => nomatch z), ky⟩
theorem isiD_non  {m : String} : isiD (D.non) m = kitB "NoneType" m := rfl
theorem isiD2_non  {m m2 : String} : isiD2 (D.non) m m2 = isiB "NoneType" [m, m2] := rfl
theorem isiD_bl {b : Bool} {m : String} : isiD (D.bl b) m = kitB "bool" m := rfl
theorem isiD2_bl {b : Bool} {m m2 : String} : isiD2 (D.bl b) m m2 = isiB "bool" [m, m2] := rfl
theorem isiD_int {i : Int} {m : String} : isiD (D.int i) m = kitB "int" m := rfl
theorem isiD2_int {i : Int} {m m2 : String} : isiD2 (D.int i) m m2 = isiB "int" [m, m2] := rfl
theorem isiD_str {x : Str} {m : String} : isiD (D.str x) m = kitB "str" m := rfl
theorem isiD2_str {x : Str} {m m2 : String} : isiD2 (D.str x) m m2 = isiB "str" [m, m2] := rfl
theorem isiD_lst {xs : List D} {m : String} : isiD (D.lst xs) m = kitB "list" m := rfl
theorem isiD2_lst {xs : List D} {m m2 : String} : isiD2 (D.lst xs) m m2 = isiB "list" [m, m2] := rfl
theorem isiD_tup {xs : List D} {m : String} : isiD (D.tup xs) m = kitB "tuple" m := rfl
theorem isiD2_tup {xs : List D} {m m2 : String} : isiD2 (D.tup xs) m m2 = isiB "tuple" [m, m2] := rfl
theorem isiD_dic {m : String} : isiD D.dic m = kitB "dict" m := rfl
theorem isiD2_dic {m m2 : String} : isiD2 D.dic m m2 = isiB "dict" [m, m2] := rfl
theorem kb_dic_int : kitB "dict" "int" = some false := by decide +kernel
theorem kb_dic_bool : kitB "dict" "bool" = some false := by decide +kernel
theorem kb_dic_str : kitB "dict" "str" = some false := by decide +kernel
theorem kb_dic_list : kitB "dict" "list" = some false := by decide +kernel
theorem kb_dic_tuple : kitB "dict" "tuple" = some false := by decide +kernel
theorem kb2_dic : isiB "dict" ["list", "tuple"] = some false := by decide +kernel
theorem kb_non_int : kitB "NoneType" "int" = some false := by decide +kernel
theorem kb_non_bool : kitB "NoneType" "bool" = some false := by decide +kernel
theorem kb_non_str : kitB "NoneType" "str" = some false := by decide +kernel
theorem kb_non_list : kitB "NoneType" "list" = some false := by decide +kernel
theorem kb_non_tuple : kitB "NoneType" "tuple" = some false := by decide +kernel
theorem kb2_non : isiB "NoneType" ["list", "tuple"] = some false := by decide +kernel
theorem kb_bl_int : kitB "bool" "int" = some true := by decide +kernel
theorem kb_bl_bool : kitB "bool" "bool" = some true := by decide +kernel
theorem kb_bl_str : kitB "bool" "str" = some false := by decide +kernel
theorem kb_bl_list : kitB "bool" "list" = some false := by decide +kernel
theorem kb_bl_tuple : kitB "bool" "tuple" = some false := by decide +kernel
theorem kb2_bl : isiB "bool" ["list", "tuple"] = some false := by decide +kernel
theorem kb_int_int : kitB "int" "int" = some true := by decide +kernel
theorem kb_int_bool : kitB "int" "bool" = some false := by decide +kernel
theorem kb_int_str : kitB "int" "str" = some false := by decide +kernel
theorem kb_int_list : kitB "int" "list" = some false := by decide +kernel
theorem kb_int_tuple : kitB "int" "tuple" = some false := by decide +kernel
theorem kb2_int : isiB "int" ["list", "tuple"] = some false := by decide +kernel
theorem kb_str_int : kitB "str" "int" = some false := by decide +kernel
theorem kb_str_bool : kitB "str" "bool" = some false := by decide +kernel
theorem kb_str_str : kitB "str" "str" = some true := by decide +kernel
theorem kb_str_list : kitB "str" "list" = some false := by decide +kernel
theorem kb_str_tuple : kitB "str" "tuple" = some false := by decide +kernel
theorem kb2_str : isiB "str" ["list", "tuple"] = some false := by decide +kernel
theorem kb_lst_int : kitB "list" "int" = some false := by decide +kernel
theorem kb_lst_bool : kitB "list" "bool" = some false := by decide +kernel
theorem kb_lst_str : kitB "list" "str" = some false := by decide +kernel
theorem kb_lst_list : kitB "list" "list" = some true := by decide +kernel
theorem kb_lst_tuple : kitB "list" "tuple" = some false := by decide +kernel
theorem kb2_lst : isiB "list" ["list", "tuple"] = some true := by decide +kernel
theorem kb_tup_int : kitB "tuple" "int" = some false := by decide +kernel
theorem kb_tup_bool : kitB "tuple" "bool" = some false := by decide +kernel
theorem kb_tup_str : kitB "tuple" "str" = some false := by decide +kernel
theorem kb_tup_list : kitB "tuple" "list" = some false := by decide +kernel
theorem kb_tup_tuple : kitB "tuple" "tuple" = some true := by decide +kernel
theorem kb2_tup : isiB "tuple" ["list", "tuple"] = some true := by decide +kernel
theorem isi_row_int {ns : List Int} : isiD (D.row ns) "int" = some false := by simp [isiD]
theorem isi_row_list {ns : List Int} : isiD (D.row ns) "list" = some false := by simp [isiD]
theorem isi_row_tuple {ns : List Int} : isiD (D.row ns) "tuple" = some false := by simp [isiD]
theorem isi_row_str {ns : List Int} : isiD (D.row ns) "str" = some false := by simp [isiD]
theorem isi2_row {ns : List Int} : isiD2 (D.row ns) "list" "tuple" = some false := by simp [isiD2]
/-! ### rows: attributes, methods, Row(..), Row.m(..) -/
section
variable {c : Cn}
def rowField (f : Str) (ns : List Int) : D :=
  if f = "numbers" then .tup (ns.map D.int) else if f = "many" then .int ns.length else if f = "total" then .int ns.sum else if f = "marks" then .tup ((marksOf ns).map D.int) else .bl (isLot ns)
def wRowF (g : List Int → D) (we : WE) : WE := fun ds μ n Q => we ds μ n fun d μ1 n1 => ∃ ns, d = .row ns ∧ Q (g ns) μ1 n1
theorem snd_fld_of {te : TE} {we : WE} {f : Str} {g : List Int → D} (T : RowT c) (hn : NoAttr c.K c.R f) (hg : ∀ t G a dx tn tm ns, G a = some (.ins c.R dx (rowFs tn tm ns)) → SqT c.K G tn (ns.map V.int) → SqT c.K G tm ((marksOf ns).map V.int) → ∃ v, (rowFs tn tm ns).lookup f = some v ∧ Rp c t G (g ns) v)
    (h : Snd c te we) : Snd c (tFld c.K te f) (wRowF g we) := fun t H0 G0 H G σ ds μ n Q Qd r s w k =>
  h t H0 G0 H G σ ds μ n _ _ r s w fun v H1 G1 d μ1 n1 s1 g1 rv ⟨ns, e, q⟩ => by
    subst e
    simp only [Rp] at rv
    obtain ⟨a, dx, tn, tm, rfl, h1, h2, h3⟩ := rv
    obtain ⟨u, hu, ru⟩ := hg t G1 a dx tn tm ns h1 h2 h3
    exact ⟨a, c.R, dx, _, u, rfl, s1.gh _ _ h1, T.cl, hn, hu, (k.mono g1).now s1 ru q⟩
theorem sq1 : (("many" : Str) == ("numbers" : Str)) = false := by decide +kernel
theorem sq2 : (("total" : Str) == ("numbers" : Str)) = false := by decide +kernel
theorem sq3 : (("total" : Str) == ("many" : Str)) = false := by decide +kernel
theorem sq4 : (("marks" : Str) == ("numbers" : Str)) = false := by decide +kernel
theorem sq5 : (("marks" : Str) == ("many" : Str)) = false := by decide +kernel
theorem sq6 : (("marks" : Str) == ("total" : Str)) = false := by decide +kernel
theorem sq7 : (("is_lot" : Str) == ("numbers" : Str)) = false := by decide +kernel
theorem sq8 : (("is_lot" : Str) == ("many" : Str)) = false := by decide +kernel
theorem sq9 : (("is_lot" : Str) == ("total" : Str)) = false := by decide +kernel
theorem sq10 : (("is_lot" : Str) == ("marks" : Str)) = false := by decide +kernel
section
variable {tn tm : Addr} {ns : List Int}
theorem lk_numbers : (rowFs tn tm ns).lookup ("numbers" : Str) = some (.ref tn) := by unfold rowFs; rw [List.lookup_cons, beq_self_eq_true]
theorem lk_many : (rowFs tn tm ns).lookup ("many" : Str) = some (.int ns.length) := by unfold rowFs; rw [List.lookup_cons, sq1, List.lookup_cons, beq_self_eq_true]
theorem lk_total : (rowFs tn tm ns).lookup ("total" : Str) = some (.int ns.sum) := by unfold rowFs; rw [List.lookup_cons, sq2, List.lookup_cons, sq3, List.lookup_cons, beq_self_eq_true]
theorem lk_marks : (rowFs tn tm ns).lookup ("marks" : Str) = some (.ref tm) := by unfold rowFs; rw [List.lookup_cons, sq4, List.lookup_cons, sq5, List.lookup_cons, sq6, List.lookup_cons, beq_self_eq_true]
theorem lk_lot : (rowFs tn tm ns).lookup ("is_lot" : Str) = some (.bl (isLot ns)) := by unfold rowFs; rw [List.lookup_cons, sq7, List.lookup_cons, sq8, List.lookup_cons, sq9, List.lookup_cons, sq10, List.lookup_cons, beq_self_eq_true]
def rowKeys : List Str := ["numbers", "many", "total", "marks", "is_lot"]
theorem lk_no {m : Str} (h : rowKeys.contains m = false) : (rowFs tn tm ns).lookup m = none := by
  unfold rowKeys at h
  simp only [List.contains_cons, Bool.or_eq_false_iff] at h
  obtain ⟨h1, h2, h3, h4, h5, _⟩ := h
  unfold rowFs
  rw [List.lookup_cons, h1, List.lookup_cons, h2, List.lookup_cons, h3, List.lookup_cons, h4, List.lookup_cons, h5]
  rfl
end
theorem snd_numbers {te : TE} {we : WE} (T : RowT c) (h : Snd c te we) : Snd c (tFld c.K te "numbers") (wRowF (fun ns => .tup (ns.map D.int)) we) :=
  snd_fld_of T T.nN (fun t G a dx tn tm ns h1 h2 h3 => ⟨.ref tn, lk_numbers, rp_tup_ref (H := G) h2 (rpl_ints.mpr rfl)⟩) h
theorem snd_many {te : TE} {we : WE} (T : RowT c) (h : Snd c te we) : Snd c (tFld c.K te "many") (wRowF (fun ns => .int ns.length) we) :=
  snd_fld_of T T.nM (fun t G a dx tn tm ns h1 h2 h3 => ⟨.int ns.length, lk_many, by simp only [Rp]⟩) h
theorem snd_total {te : TE} {we : WE} (T : RowT c) (h : Snd c te we) : Snd c (tFld c.K te "total") (wRowF (fun ns => .int ns.sum) we) :=
  snd_fld_of T T.nT (fun t G a dx tn tm ns h1 h2 h3 => ⟨.int ns.sum, lk_total, by simp only [Rp]⟩) h
theorem snd_marks {te : TE} {we : WE} (T : RowT c) (h : Snd c te we) : Snd c (tFld c.K te "marks") (wRowF (fun ns => .tup ((marksOf ns).map D.int)) we) :=
  snd_fld_of T T.nK (fun t G a dx tn tm ns h1 h2 h3 => ⟨.ref tm, lk_marks, rp_tup_ref (H := G) h3 (rpl_ints.mpr rfl)⟩) h
theorem snd_isLot {te : TE} {we : WE} (T : RowT c) (h : Snd c te we) : Snd c (tFld c.K te "is_lot") (wRowF (fun ns => .bl (isLot ns)) we) :=
  snd_fld_of T T.nL (fun t G a dx tn tm ns h1 h2 h3 => ⟨.bl (isLot ns), lk_lot, by simp only [Rp]⟩) h
/-- o.m(..) of a row -/
def wMeth (F : FD) (we : WE) (wr : WA) : WE := fun ds μ n Q => we ds μ n fun d μ1 n1 => (∃ ns, d = .row ns) ∧ wr ds μ1 n1 fun xs μ2 n2 => F (d :: xs) n2 fun r n3 => Q r μ2 n3
theorem snd_meth {te : TE} {we : WE} {tr : TA} {wr : WA} {m : Str} {k : Nat} {F : FD} {E : XK} (hm : rowKeys.contains m = false) (hF : ∀ ds n Q, F ds n Q → ds.length = k) (h : Snd c te we) (h2 : SndA c tr wr) :
    Snd c (tMeth c.R m (spD c k F) [] E te tr) (wMeth F we wr) := fun t H0 G0 H G σ ds μ n Q Qd r s w kk =>
  h t H0 G0 H G σ ds μ n _ _ r s w fun v H1 G1 d μ1 n1 s1 g1 rv ⟨⟨ns, e⟩, w1⟩ => by
    subst e
    have rv0 := rv
    simp only [Rp] at rv
    obtain ⟨a, dx, tn, tm, rfl, q1, q2, q3⟩ := rv
    refine ⟨a, dx, _, rfl, s1.gh _ _ q1, lk_no hm, h2 t H0 G0 H1 G1 σ ds μ1 n1 _ _ (r.mono g1) s1 w1 fun vs H2 G2 xs μ2 n2 s2 g2 rs w2 => ?_⟩
    rw [List.append_nil]
    have rr := RpL.cons (Rp.mono g2 _ _ rv0) rs
    exact ⟨t, G2, _, n2, _, (RpL.len rr).trans (hF _ _ _ w2), rr, s2.gh, s2.gt, s2.pen, w2, fun v H3 G3 d n3 st rv q => kk v H3 G3 d μ2 n3 (s2.step st) (Same.trans g1 (Same.trans g2 st.g)) rv q⟩
/-- o.m(k = v): the method's only argument -/
def wMethK (F : FD) (we : WE) (wr : WA) : WE := fun ds μ n Q => we ds μ n fun d μ1 n1 => (∃ ns, d = .row ns) ∧ wr ds μ1 n1 fun xs μ2 n2 => F (d :: xs) n2 fun r n3 => Q r μ2 n3
theorem snd_methK {te : TE} {we : WE} {tr : TA} {wr : WA} {m : Str} {k : Nat} {F : FD} {E : XK} (hm : rowKeys.contains m = false) (hF : ∀ ds n Q, F ds n Q → ds.length = k) (h : Snd c te we) (h2 : SndA c tr wr) :
    Snd c (tMethK c.R m (spD c k F) (fun vs zs => vs ++ zs) E te tr) (wMethK F we wr) := fun t H0 G0 H G σ ds μ n Q Qd r s w kk =>
  h t H0 G0 H G σ ds μ n _ _ r s w fun v H1 G1 d μ1 n1 s1 g1 rv ⟨⟨ns, e⟩, w1⟩ => by
    subst e
    have rv0 := rv
    simp only [Rp] at rv
    obtain ⟨a, dx, tn, tm, rfl, q1, q2, q3⟩ := rv
    refine ⟨a, dx, _, rfl, s1.gh _ _ q1, lk_no hm, h2 t H0 G0 H1 G1 σ ds μ1 n1 _ _ (r.mono g1) s1 w1 fun vs H2 G2 xs μ2 n2 s2 g2 rs w2 => ?_⟩
    have rr := RpL.cons (Rp.mono g2 _ _ rv0) rs
    exact ⟨t, G2, _, n2, _, (RpL.len rr).trans (hF _ _ _ w2), rr, s2.gh, s2.gt, s2.pen, w2, fun v H3 G3 d n3 st rv q => kk v H3 G3 d μ2 n3 (s2.step st) (Same.trans g1 (Same.trans g2 st.g)) rv q⟩
/-- Row.m(..) -/
def wSMeth (R : Addr) (F : FD) (we : WE) (wr : WA) : WE := fun ds μ n Q => we ds μ n fun d μ1 n1 => d = .adr R ∧ wr ds μ1 n1 fun xs μ2 n2 => F xs n2 fun r n3 => Q r μ2 n3
theorem snd_smeth {te : TE} {we : WE} {tr : TA} {wr : WA} {R : Addr} {k : Nat} {F : FD} {E : XK} (hF : ∀ ds n Q, F ds n Q → ds.length = k) (h : Snd c te we) (h2 : SndA c tr wr) :
    Snd c (tSMeth R (spD c k F) E te tr) (wSMeth R F we wr) := fun t H0 G0 H G σ ds μ n Q Qd r s w kk =>
  h t H0 G0 H G σ ds μ n _ _ r s w fun v H1 G1 d μ1 n1 s1 g1 rv ⟨e, w1⟩ => by
    subst e
    simp only [Rp] at rv
    refine ⟨rv, h2 t H0 G0 H1 G1 σ ds μ1 n1 _ _ (r.mono g1) s1 w1 fun vs H2 G2 xs μ2 n2 s2 g2 rs w2 => ?_⟩
    exact ⟨t, G2, _, n2, _, (RpL.len rs).trans (hF _ _ _ w2), rs, s2.gh, s2.gt, s2.pen, w2, fun v H3 G3 d n3 st rv q => kk v H3 G3 d μ2 n3 (s2.step st) (Same.trans g1 (Same.trans g2 st.g)) rv q⟩
/-- Row(numbers): the promise of __init__, the new instance at x -/
def spInit (c : Cb) : Sp := fun vs H Q _ => ∃ (x dx : Addr) (v : V) (t : Addr) (H1 G : Hp) (n : Nat) (d : D) (ns : List Int), vs = [.ref x, v] ∧ H = upd (upd H1 dx (.own x)) x (.ins c.R dx []) ∧ H1 x = none ∧ H1 dx = none ∧ dx ≠ x ∧
  Same G H1 ∧ (∀ b, Fx c t b → G b = none) ∧ PenOk c t H1 G n ∧ Rp c t G d v ∧ seqI d = some (ns.map D.int) ∧ 2 ≤ ns.length ∧ ns.length ≤ 24 ∧ ∀ H' G', Stp c t H1 G H' G' n → Rp c t G' (.row ns) (.ref x) → Q .non H'
def wMake (wr : WA) : WE := fun ds μ n Q => wr ds μ n fun xs μ1 n1 => ∃ d ns, xs = [d] ∧ seqI d = some (ns.map D.int) ∧ 2 ≤ ns.length ∧ ns.length ≤ 24 ∧ Q (.row ns) μ1 n1
theorem snd_make {tr : TA} {wr : WA} {E : XK} (h : SndA c tr wr) : Snd c (tMake c.R (spInit c) [] E tr) (wMake wr) := fun t H0 G0 H G σ ds μ n Q Qd r s w k =>
  h t H0 G0 H G σ ds μ n _ _ r s w fun vs H1 G1 xs μ1 n1 s1 g1 rs ⟨d, ns, e, e2, l1, l2, q⟩ => fun x dx nx ndx ne => by
    subst e
    simp only [RpL] at rs
    obtain ⟨v, _, rfl, rv, rfl⟩ := rs
    exact ⟨x, dx, v, t, H1, G1, n1, d, ns, rfl, rfl, nx, ndx, ne, s1.gh, s1.gt, s1.pen, rv, e2, l1, l2, fun H' G' st rr => ⟨rfl, k _ H' G' _ μ1 n1 (s1.step st) (Same.trans g1 st.g) rr q⟩⟩
/-- a keyword's call of a def: by the names, the parameters' order as it is -/
def wCallK0 (F : FD) (g : List D → List D) (wk : WA) : WE := fun ds μ n Q => wk ds μ n fun xs μ1 n1 => F (g xs) n1 fun d n2 => Q d μ1 n2
end
end Dp

set_option Elab.async false
set_option linter.all false
set_option maxRecDepth 100000
set_option maxHeartbeats 4000001
namespace Dp
open PySem PySem.Spec PyProof.Rows L2
/-! ### defs by name -/
/-- the keywords fill up behind the first n -/
def kg (n m : Nat) {α : Type} (us ws : List α) : List α := if us.length = n ∧ ws.length = m then us ++ ws else []
section
variable (P : Program) (w : World) (K : PySem.W.Frag) (mg : Str → Option Value) (base : Heap)
/-- the module's name x is a def that keeps sp -/
def Dn (x : Str) (k : Nat) (ps : List Str) (sp : Sp) : Prop := ∃ f fd, mg x = some (.ref f) ∧ FnOk P w K mg base CX0 k f fd ps sp ∧ PySem.W.keepIn K (.ref f) = true ∧ Binds K fd ps [] ∧ (1 ≤ ps.length → KBinds K fd ps ps (kg 0 ps.length) (kg 0 ps.length))
/-- a method of the class at C -/
def Md (C : Addr) (m : Str) (k : Nat) (ps : List Str) (sp : Sp) : Prop := ∃ f fd, Meth K C m f ∧ FnOk P w K mg base CX0 k f fd ps sp ∧ Binds K fd ps [] ∧ (2 ≤ ps.length → KBinds K fd ps ps.tail (kg 1 (ps.length - 1)) (kg 1 (ps.length - 1)))
/-- a static method -/
def Sd (C : Addr) (m : Str) (k : Nat) (ps : List Str) (sp : Sp) : Prop := ∃ mc p f fd, ClX.CRead K C mc ∧ SMet K C mc m p f ∧ FnOk P w K mg base CX0 k f fd ps sp ∧ Binds K fd ps []
/-- the class's own making -/
def Nd (C : Addr) (x : Str) (k : Nat) (ps : List Str) (sp : Sp) : Prop := ∃ f fd, mg x = some (.ref C) ∧ Mk K C f ∧ FnOk P w K mg base CX0 k f fd ps sp ∧ Binds K fd ps []
def Ed (C : Addr) (cs : List Int) (TT : List (Addr × PySem.Str)) (k : Nat) : Prop := ∃ f fd, EqCls K C f ∧ FnOk P w K mg base CX0 k f fd ["self", "other"] (spD ⟨K, C, cs, TT⟩ 2 FEq) ∧ Binds K fd ["self", "other"] []
end
theorem kg_rel {n m : Nat} {vs : List V} {us : List Value} {zs : List V} {ws : List Value} (h : Vals vs us) (h' : Vals zs ws) : Vals (kg n m vs zs) (kg n m us ws) := by
  unfold kg
  rw [h.length, h'.length]
  split
  · exact h.append h'
  · exact .nil
section
variable {X : Cx} {x m : Str} {k j : Nat} {ps ks : List Str} {sp : Sp} {C : Addr} {p pos apos : Pos} {e o : Expr} {es : List Expr} {kws : List Keyword} {ta : TE} {t tk : TA} {pl : Sem Bool}
theorem pe_d (D : Dn X.prog X.w X.K X.mg X.base x k ps sp) (hr : Room j X.A) (hg : Gl X x) (ha : PA X (e :: es) t) (hk : k ≤ j := by decide) (hdb : (x == ("__debug__" : Str)) = false := by decide)
    (he : starEach (e :: es) X.env = (false, eval e X.env) :: starEach es X.env := by rfl) (hpl : (backTo pos (starEach es X.env)).any (·.1) = false := by rfl) : PE X (.Call (.Name x p) (e :: es) [] pos) (tCall sp [] E0 t) := by
  obtain ⟨f, fd, h1, h2, h3, h4, _⟩ := D
  exact pe_call h2 (hr.mono hk) hg h1 h3 h4 .nil pass0 ha hdb he hpl
theorem pe_dk (D : Dn X.prog X.w X.K X.mg X.base x k ps sp) (hr : Room j X.A) (hg : Gl X x) (ha : PK X kws tk) (h1p : 1 ≤ ps.length := by decide) (hk : k ≤ j := by decide) (hdb : (x == ("__debug__" : Str)) = false := by decide)
    (hall : (backToKw pos (keywordEach kws X.env)).all (·.1.isSome) = true := by rfl) (hks : (backToKw pos (keywordEach kws X.env)).filterMap (·.1) = ps := by rfl)
    (hpl : ((backTo pos (starEach [] X.env)).any (·.1) || (backToKw pos (keywordEach kws X.env)).any (·.1.isNone)) = false := by rfl) : PE X (.Call (.Name x p) [] kws pos) (tCallK0 sp (kg 0 ps.length) E0 tk) := by
  obtain ⟨f, fd, h1, h2, h3, h4, h5⟩ := D
  exact pe_callK0 h2 (hr.mono hk) hg h1 h3 (h5 h1p) pass0 ha hall hks hpl hdb
theorem pe_m (D : Md X.prog X.w X.K X.mg X.base C m k ps sp) (cl : Cls X.K C) (hr : Room j X.A) (he : PE X o ta) (ha : PA X (e :: es) t) (hk : k ≤ j := by decide)
    (hst : starEach (e :: es) X.env = (false, eval e X.env) :: starEach es X.env := by rfl) (hpl : (backTo pos (starEach es X.env)).any (·.1) = false := by rfl)
    (ht : eval (.Call (.Attribute o m apos) (e :: es) [] pos) X.env = (do
      let ov ← eval o X.env
      standAt apos.atName
      let (f, first) ← holding [ov] (getMethod ov m pl)
      callWith pos f first (backTo pos (starEach (e :: es) X.env)) (backToKw pos (keywordEach [] X.env))) := by rfl) : PE X (.Call (.Attribute o m apos) (e :: es) [] pos) (tMeth C m sp [] E0 ta t) := by
  obtain ⟨f, fd, h1, h2, h4, _⟩ := D
  exact pe_meth he cl h1 h2 (hr.mono hk) h4 .nil pass0 ha hst hpl ht
theorem pe_m0 (D : Md X.prog X.w X.K X.mg X.base C m k ps sp) (cl : Cls X.K C) (hr : Room j X.A) (he : PE X o ta) (hk : k ≤ j := by decide)
    (ht : eval (.Call (.Attribute o m apos) [] [] pos) X.env = (do
      let ov ← eval o X.env
      standAt apos.atName
      let (f, first) ← holding [ov] (getMethod ov m pl)
      callWith pos f first (backTo pos (starEach [] X.env)) (backToKw pos (keywordEach [] X.env))) := by rfl) : PE X (.Call (.Attribute o m apos) [] [] pos) (tMeth C m sp [] E0 ta tNil) := by
  obtain ⟨f, fd, h1, h2, h4, _⟩ := D
  exact pe_meth0 he cl h1 h2 (hr.mono hk) h4 .nil pass0 ht
theorem pe_mk (D : Md X.prog X.w X.K X.mg X.base C m k ps sp) (cl : Cls X.K C) (hr : Room j X.A) (he : PE X o ta) (ha : PK X kws tk) (h2 : 2 ≤ ps.length := by decide) (hk : k ≤ j := by decide)
    (hall : (backToKw pos (keywordEach kws X.env)).all (·.1.isSome) = true := by rfl) (hks : (backToKw pos (keywordEach kws X.env)).filterMap (·.1) = ps.tail := by rfl)
    (hpl : ((backTo pos (starEach [] X.env)).any (·.1) || (backToKw pos (keywordEach kws X.env)).any (·.1.isNone)) = false := by rfl)
    (ht : eval (.Call (.Attribute o m apos) [] kws pos) X.env = (do
      let ov ← eval o X.env
      standAt apos.atName
      let (f, first) ← holding [ov] (getMethod ov m pl)
      callWith pos f first (backTo pos (starEach [] X.env)) (backToKw pos (keywordEach kws X.env))) := by rfl) : PE X (.Call (.Attribute o m apos) [] kws pos) (tMethK C m sp (kg 1 (ps.length - 1)) E0 ta tk) := by
  obtain ⟨f, fd, h1, h3, _, h5⟩ := D
  exact pe_methK he cl h1 h3 (hr.mono hk) (h5 h2) pass0 ha hall hks hpl ht
theorem pe_s (D : Sd X.prog X.w X.K X.mg X.base C m k ps sp) (hr : Room j X.A) (he : PE X o ta) (ha : PA X (e :: es) t) (hk : k ≤ j := by decide)
    (hst : starEach (e :: es) X.env = (false, eval e X.env) :: starEach es X.env := by rfl) (hpl : (backTo pos (starEach es X.env)).any (·.1) = false := by rfl)
    (ht : eval (.Call (.Attribute o m apos) (e :: es) [] pos) X.env = (do
      let ov ← eval o X.env
      standAt apos.atName
      let (f, first) ← holding [ov] (getMethod ov m pl)
      callWith pos f first (backTo pos (starEach (e :: es) X.env)) (backToKw pos (keywordEach [] X.env))) := by rfl) : PE X (.Call (.Attribute o m apos) (e :: es) [] pos) (tSMeth C sp E0 ta t) := by
  obtain ⟨mc, q, f, fd, h0, h1, h2, h4⟩ := D
  exact pe_smeth he h0 h1 h2 (hr.mono hk) h4 pass0 ha hst hpl ht
theorem pe_n (D : Nd X.prog X.w X.K X.mg X.base C x k ps sp) (hr : Room j X.A) (hg : Gl X x) (ha : PA X (e :: es) t) (hk : k + 1 ≤ j := by decide) (hdb : (x == ("__debug__" : Str)) = false := by decide)
    (he : starEach (e :: es) X.env = (false, eval e X.env) :: starEach es X.env := by rfl) (hpl : (backTo pos (starEach es X.env)).any (·.1) = false := by rfl) : PE X (.Call (.Name x p) (e :: es) [] pos) (tMake C sp [] E0 t) := by
  obtain ⟨f, fd, h1, h2, h3, h4⟩ := D
  exact pe_make h2 h3 (hr.mono hk) hg h1 h4 .nil pass0 ha hdb he hpl
theorem eqD {R : Addr} {cs : List Int} {TT : List (Addr × PySem.Str)} (D : Ed X.prog X.w X.K X.mg X.base R cs TT k) (hr : Room j X.A) (hk : k ≤ j := by decide) : OpR X (compareOp .Eq) (rEq1 ⟨X.K, R, cs, TT⟩) := by
  obtain ⟨f, fd, h1, h2, h3⟩ := D
  exact opEq1 h2 hr hk h3 h1
theorem neD {R : Addr} {cs : List Int} {TT : List (Addr × PySem.Str)} (D : Ed X.prog X.w X.K X.mg X.base R cs TT k) (hr : Room j X.A) (hk : k + 1 ≤ j := by decide) : OpR X (compareOp .NotEq) (rNe1 ⟨X.K, R, cs, TT⟩) := by
  obtain ⟨f, fd, h1, h2, h3⟩ := D
  exact opNe1 h2 hr hk h3 h1
/-- a class's name as a value -/
theorem pe_cn (D : Nd X.prog X.w X.K X.mg X.base C x k ps sp) (hg : Gl X x) (hd : (x == ("__debug__" : Str)) = false := by decide) : PE X (.Name x pos) (tC (.ref C)) := by
  obtain ⟨f, fd, h1, _⟩ := D
  exact pe_glob hg h1 rfl hd
/-! ### o[i] op= e -/
theorem get_list : PGet X (rIxL X.K) := by
  intro pins s σ H o i ov iv Q I ro ri h
  obtain ⟨p, xs, i, z, rfl, rfl, hq, he, q⟩ := h
  cases ro
  obtain ⟨t, rfl⟩ := ri
  obtain ⟨its, r, pl, hz⟩ := I.list hq
  obtain ⟨j, h1, h2, h3, h4, h5⟩ := atI_get he
  obtain ⟨w, ew, rw'⟩ := r.get h2
  have hl := r.length
  have hn := line63
  have fin : EP X pins σ Q w s := ⟨z, H, I, rw', q⟩
  by_cases h0 : 0 ≤ i
  · have hj : i.toNat = j := by
      rw [seqIndex_of h0 h5] at h1
      exact Option.some.inj h1
    exact wpAny_getItem_list pl.isList h0 (by omega) (by rw [hj]; simpa using ew) fin
  · have hj : (i + (its.toArray.size : Int)).toNat = j := by
      rw [seqIndex_neg (by omega) h4] at h1
      rw [List.size_toArray, ← hl]
      exact Option.some.inj h1
    exact wpAny_getItem_list_neg (x := w) pl.isList (by omega) (by rw [List.size_toArray] <;> omega) (by omega) (by rw [hj]; simpa using ew) fin
end
section
variable {c : Cn}
theorem kg_rpl {t : Addr} {G : Hp} {n m : Nat} {xs ys : List D} {vs us : List V} (h : RpL c t G xs vs) (h' : RpL c t G ys us) : RpL c t G (kg n m xs ys) (kg n m vs us) := by
  unfold kg
  rw [RpL.len h, RpL.len h']
  split
  · exact RpL.append h h'
  · exact RpL.nil
def wCallK1 (N : Nat) (F : FD) (wk : WA) : WE := fun ds μ n Q => wk ds μ n fun ys μ1 n1 => F (kg 0 N [] ys) n1 fun d n2 => Q d μ1 n2
theorem snd_dk {tk : TA} {wk : WA} {k N : Nat} {F : FD} {E : XK} (hF : ∀ ds n Q, F ds n Q → ds.length = k) (h2 : SndA c tk wk) : Snd c (tCallK0 (spD c k F) (kg 0 N) E tk) (wCallK1 N F wk) := fun t H0 G0 H G σ ds μ n Q Qd r s w kk =>
  h2 t H0 G0 H G σ ds μ n _ _ r s w fun us H2 G2 ys μ2 n2 s2 g2 rs2 w2 => by
    have rr := kg_rpl (n := 0) (m := N) (c := c) (t := t) (G := G2) RpL.nil rs2
    exact ⟨t, G2, _, n2, _, (RpL.len rr).trans (hF _ _ _ w2), rr, s2.gh, s2.gt, s2.pen, w2, fun v H3 G3 d n3 st rv q => kk v H3 G3 d μ2 n3 (s2.step st) (Same.trans g2 st.g) rv q⟩
def wMk (N : Nat) (F : FD) (we : WE) (wr : WA) : WE := fun ds μ n Q => we ds μ n fun d μ1 n1 => (∃ ns, d = .row ns) ∧ wr ds μ1 n1 fun xs μ2 n2 => F (kg 1 N [d] xs) n2 fun r n3 => Q r μ2 n3
theorem snd_mk {te : TE} {we : WE} {tr : TA} {wr : WA} {m : Str} {k N : Nat} {F : FD} {E : XK} (hm : rowKeys.contains m = false) (hF : ∀ ds n Q, F ds n Q → ds.length = k) (h : Snd c te we) (h2 : SndA c tr wr) :
    Snd c (tMethK c.R m (spD c k F) (kg 1 N) E te tr) (wMk N F we wr) := fun t H0 G0 H G σ ds μ n Q Qd r s w kk =>
  h t H0 G0 H G σ ds μ n _ _ r s w fun v H1 G1 d μ1 n1 s1 g1 rv ⟨⟨ns, e⟩, w1⟩ => by
    subst e
    have rv0 := rv
    simp only [Rp] at rv
    obtain ⟨a, dx, tn, tm, rfl, q1, q2, q3⟩ := rv
    refine ⟨a, dx, _, rfl, s1.gh _ _ q1, lk_no hm, h2 t H0 G0 H1 G1 σ ds μ1 n1 _ _ (r.mono g1) s1 w1 fun vs H2 G2 xs μ2 n2 s2 g2 rs w2 => ?_⟩
    have rr := kg_rpl (n := 1) (m := N) (RpL.one (Rp.mono g2 _ _ rv0)) rs
    exact ⟨t, G2, _, n2, _, (RpL.len rr).trans (hF _ _ _ w2), rr, s2.gh, s2.gt, s2.pen, w2, fun v H3 G3 d n3 st rv q => kk v H3 G3 d μ2 n3 (s2.step st) (Same.trans g1 (Same.trans g2 st.g)) rv q⟩
/-- numbers[i] += e, numbers an owned list of ints -/
def wAugO (wo wi we : WE) (f : Int → Int → Int) : WS := fun De ds μ n => wo ds μ n fun o μ1 n1 => wi ds μ1 n1 fun i μ2 n2 => ∃ p k xs j a, o = .own p ∧ i = .int k ∧ μ2.lookup p = some xs ∧ ixN xs.length k = some j ∧ xs[j]? = some (.int a) ∧
  we ds μ2 n2 fun d μ3 n3 => ∃ b, d = .int b ∧ μ3 = μ2 ∧ De.nx ds (muSet μ3 p (xs.set j (.int (f a b)))) n3
theorem sndS_augO {to ti te : TE} {wo wi we : WE} {f : Int → Int → Int} (ho : Snd c to wo) (hi : Snd c ti wi) (he : Snd c te we) : SndS c (tAugS to ti te (rIxL c.K) (ipI f) rSetL) (wAugO wo wi we f) := fun t H0 G0 H G σ ds μ n De E r s k1 k2 k3 k4 w =>
  ho t H0 G0 H G σ ds μ n _ _ r s w fun o H1 G1 od μ1 n1 s1 g1 ro w1 =>
    hi t H0 G0 H1 G1 σ ds μ1 n1 _ _ (r.mono g1) s1 w1 fun iv H2 G2 id μ2 n2 s2 g2 ri ⟨p, kk, xs, j, a, e1, e2, e3, e4, e5, w2⟩ => by
      subst e1 e2
      simp only [Rp] at ro ri
      subst ro ri
      obtain ⟨vs, h1, h2⟩ := lookup_of_own s2 e3
      obtain ⟨v, h3, h4⟩ := RpL.get h2 e5
      simp only [Rp] at h4
      subst h4
      refine ⟨p, vs, kk, .int a, rfl, rfl, SqL.of h1, by unfold atI; rw [RpL.len h2, e4]; exact h3, ?_⟩
      refine he t H0 G0 H2 G2 σ ds μ2 n2 _ _ ((r.mono g1).mono g2) s2 w2 fun u H3 G3 d μ3 n3 s3 g3 ru ⟨b, e6, e7, q⟩ => ?_
      subst e6 e7
      simp only [Rp] at ru
      subst ru
      obtain ⟨vs', h1', h2'⟩ := lookup_of_own s3 e3
      refine ⟨a, b, rfl, rfl, p, vs', kk, j, rfl, rfl, h1', by rw [RpL.len h2']; exact e4, ?_⟩
      exact k1 σ _ G3 ds _ n3 (((r.mono g1).mono g2).mono g3) (s3.setOwn (lookup_mem e3) (RpL.set j (by simp only [Rp]) h2')) q
/-- a < b < c -/
def wChain (rd rd' : D → D → Mu → Nat → KD → Prop) (wa wb wc : WE) : WE := fun ds μ n Q => wa ds μ n fun x μ1 n1 => wb ds μ1 n1 fun y μ2 n2 => rd x y μ2 n2 fun z μ3 n3 => ∃ k, z = .bl k ∧ if k = true then wc ds μ3 n3 fun u μ4 n4 => rd' y u μ4 n4 Q else Q (.bl false) μ3 n3
theorem snd_chain {r r' : R2} {ta tb tc : TE} {wa wb wc : WE} {rd rd' : D → D → Mu → Nat → KD → Prop} (hr : SndR c r rd) (hr' : SndR c r' rd') (ha : Snd c ta wa) (hb : Snd c tb wb) (hc : Snd c tc wc) : Snd c (tChain r r' ta tb tc) (wChain rd rd' wa wb wc) := fun t H0 G0 H G σ ds μ n Q Qd r s w k =>
  ha t H0 G0 H G σ ds μ n _ _ r s w fun x H1 G1 dx μ1 n1 s1 g1 rx w1 =>
    hb t H0 G0 H1 G1 σ ds μ1 n1 _ _ (r.mono g1) s1 w1 fun y H2 G2 dy μ2 n2 s2 g2 ry w2 =>
      hr t H0 G0 H2 G2 x y dx dy μ2 n2 _ _ s2 (Rp.mono g2 _ _ rx) ry w2 fun z H3 G3 dz μ3 n3 s3 g3 rz ⟨b, e, w3⟩ => by
        subst e
        simp only [Rp] at rz
        refine ⟨b, rz, ?_⟩
        cases b with
        | false => exact iteF (k _ H3 G3 (.bl false) μ3 n3 s3 (Same.trans g1 (Same.trans g2 g3)) (by simp only [Rp]) (by simpa using w3))
        | true =>
          rw [if_pos rfl] at w3
          exact iteT (hc t H0 G0 H3 G3 σ ds μ3 n3 _ _ (((r.mono g1).mono g2).mono g3) s3 w3 fun u H4 G4 du μ4 n4 s4 g4 ru w4 =>
            hr' t H0 G0 H4 G4 y u dy du μ4 n4 _ _ s4 (Rp.mono g4 _ _ (Rp.mono g3 _ _ ry)) ru w4 ((((k.mono g1).mono g2).mono g3).mono g4))
end
end Dp
namespace Dp
open PySem PySem.Spec PyProof.Rows L2
section
variable {P : Program} {w : World} {K : PySem.W.Frag} {mg : Str → Option Value} {base : Heap} {x qual : Str} {params : Arguments} {body : List Stmt} {scope : Scope} {f C : Addr} {fd : FuncData} {ps : List Str} {k : Nat} {sp : Sp}
abbrev BindH (x qual : Str) (params : Arguments) (body : List Stmt) (scope : Scope) (ps : List Str) : Prop := ∀ (kV doc pm : Value) (an : Option Addr) (cdv ct : Value) (us : List Value), us.length = ps.length →
  bindArgs (PySem.W.fnOf x qual params body scope .none kV doc pm an cdv ct) ⟨us, []⟩ = pure (ps.zip us) ∧ bindArgs (PySem.W.fnOf x qual params body scope .none kV doc pm an cdv ct) ⟨[], ps.zip us⟩ = pure (ps.zip us) ∧
  bindArgs (PySem.W.fnOf x qual params body scope .none kV doc pm an cdv ct) ⟨us.take 1, ps.tail.zip us.tail⟩ = pure (ps.zip us)
theorem kb_of (Fn : FunD K x qual params body scope [] [] f fd) (h : BindH x qual params body scope ps) : Binds K fd ps [] ∧ (1 ≤ ps.length → KBinds K fd ps ps (kg 0 ps.length) (kg 0 ps.length)) ∧ (2 ≤ ps.length → KBinds K fd ps ps.tail (kg 1 (ps.length - 1)) (kg 1 (ps.length - 1))) := by
  have key : ∀ (s : Shared) (us ws : List Value) (ks : List Str) (r : List Value), (∀ (kV doc pm : Value) (an : Option Addr) (cdv ct : Value), bindArgs (PySem.W.fnOf x qual params body scope .none kV doc pm an cdv ct) ⟨us, ks.zip ws⟩ = pure (ps.zip r)) → BindsTo s fd ⟨us, ks.zip ws⟩ (ps.zip r) := by
    intro s us ws ks r hh
    obtain ⟨oc, od, dV, kV, doc, pm, an, cdv, ct, osl, rfl, lk, hcd, hD, hK⟩ := Fn.ex
    rcases hD with ⟨_, rfl⟩ | ⟨e, _⟩
    · exact .of_eq (hh _ _ _ _ _ _)
    · exact absurd rfl e
  refine ⟨Fn.bindsN fun kV doc pm an cdv ct us hl => (h kV doc pm an cdv ct us hl).1, fun h1 => ⟨fun s us ws X hl => ?_, kg_rel⟩, fun h2 => ⟨fun s us ws X hl => ?_, kg_rel⟩⟩
  · unfold kg at hl ⊢
    by_cases c : us.length = 0 ∧ ws.length = ps.length
    · rw [if_pos c]
      obtain ⟨c1, c2⟩ := c
      have e : us = [] := List.length_eq_zero_iff.mp c1
      subst e
      exact key s [] ws ps ws fun kV doc pm an cdv ct => (h _ _ _ _ _ _ ws c2).2.1
    · rw [if_neg c] at hl
      simp at hl; omega
  · unfold kg at hl ⊢
    by_cases c : us.length = 1 ∧ ws.length = ps.length - 1
    · rw [if_pos c]
      obtain ⟨c1, c2⟩ := c
      match us, c1 with
      | [u], _ =>
        have e := fun kV doc pm an cdv ct => (h kV doc pm an cdv ct (u :: ws) (by simp; omega)).2.2
        exact key s [u] ws ps.tail (u :: ws) e
    · rw [if_neg c] at hl
      simp at hl; omega
theorem dn_mk (Fn : FunD K x qual params body scope [] [] f fd) (hm : mg x = some (.ref f)) (F : FnOk P w K mg base CX0 k f fd ps sp) (h : BindH x qual params body scope ps) : Dn P w K mg base x k ps sp :=
  ⟨f, fd, hm, F, Fn.kp, (kb_of Fn h).1, (kb_of Fn h).2.1⟩
theorem md_mk (Fn : FunD K x qual params body scope [] [] f fd) (hm : Meth K C x f) (F : FnOk P w K mg base CX0 k f fd ps sp) (h : BindH x qual params body scope ps) : Md P w K mg base C x k ps sp :=
  ⟨f, fd, hm, F, (kb_of Fn h).1, (kb_of Fn h).2.2⟩
theorem sd_mk {mc : Value} {p : Addr} (Fn : FunD K x qual params body scope [] [] f fd) (hr : ClX.CRead K C mc) (hm : SMet K C mc x p f) (F : FnOk P w K mg base CX0 k f fd ps sp) (h : BindH x qual params body scope ps) : Sd P w K mg base C x k ps sp :=
  ⟨mc, p, f, fd, hr, hm, F, (kb_of Fn h).1⟩
theorem nd_mk {y : Str} (Fn : FunD K x qual params body scope [] [] f fd) (hm : mg y = some (.ref C)) (M : Mk K C f) (F : FnOk P w K mg base CX0 k f fd ps sp) (h : BindH x qual params body scope ps) : Nd P w K mg base C y k ps sp :=
  ⟨f, fd, hm, M, F, (kb_of Fn h).1⟩
theorem ed_mk {mg : Str → Option Value} {cs : List Int} {TT : List (Addr × PySem.Str)} (Fn : FunD K x qual params body scope [] [] f fd) (e : EqCls K C f) (F : FnOk P w K mg base CX0 k f fd ["self", "other"] (spD ⟨K, C, cs, TT⟩ 2 FEq)) (h : BindH x qual params body scope ["self", "other"]) : Ed P w K mg base C cs TT k :=
  ⟨f, fd, e, F, (kb_of Fn h).1⟩
end
section
variable {X : Cx} {K : PySem.W.Frag}
theorem opAddK (h : X.K = K := by rfl) : OpR X (binaryOp .Add) (rAdd K) := h ▸ opAdd
theorem opMulK (h : X.K = K := by rfl) : OpR X (binaryOp .Mult) (rMul K) := h ▸ opMul
theorem ixK (h : X.K = K := by rfl) : IxR X (rIx K) := h ▸ ix_seq
theorem slK (h : X.K = K := by rfl) : SlR X (rSl K) := h ▸ slAny
theorem eq0K {k : Nat} (hr : Room k X.A) (h : X.K = K := by rfl) : OpR X (compareOp .Eq) (rEq0 K) := h ▸ opEq0 hr
theorem ne0K {k : Nat} (hr : Room k X.A) (h : X.K = K := by rfl) : OpR X (compareOp .NotEq) (rNe0 K) := h ▸ opNe0 hr
theorem eqK {R : Addr} {cs : List Int} {TT : List (Addr × PySem.Str)} {j k : Nat} (D : Ed X.prog X.w K X.mg X.base R cs TT k) (hr : Room j X.A) (hk : k ≤ j := by decide) (h : X.K = K := by rfl) : OpR X (compareOp .Eq) (rEq1 ⟨K, R, cs, TT⟩) := by
  subst h; exact eqD D hr hk
theorem neK {R : Addr} {cs : List Int} {TT : List (Addr × PySem.Str)} {j k : Nat} (D : Ed X.prog X.w K X.mg X.base R cs TT k) (hr : Room j X.A) (hk : k + 1 ≤ j := by decide) (h : X.K = K := by rfl) : OpR X (compareOp .NotEq) (rNe1 ⟨K, R, cs, TT⟩) := by
  subst h; exact neD D hr hk
theorem lenK (h : X.K = K := by rfl) : CallR X (.builtin "len") (rLen K) := h ▸ callLen
theorem sumK (hc : X.calm = true := by rfl) (h : X.K = K := by rfl) : CallR X (.builtin "sum") (rSumA K) := h ▸ callSum hc
theorem allK (hc : X.calm = true := by rfl) (h : X.K = K := by rfl) : CallR X (.builtin "all") (rAll K) := h ▸ callAll hc
theorem tupleK (h : X.K = K := by rfl) : CallR X (.type "tuple") (rTuple K) := h ▸ callTuple
theorem listK (h : X.K = K := by rfl) : CallR X (.type "list") (rList K) := h ▸ callList
theorem isiK (h : X.K = K := by rfl) : CallR X (.builtin "isinstance") (rIsi1 K) := h ▸ callIsi
theorem fldK {e : Expr} {f : Str} {pos : Pos} {ta : TE} (he : PE X e ta) (hb : attributeBase e f X.env (eval e X.env) = eval e X.env) (h : X.K = K := by rfl) : PE X (.Attribute e f pos) (tFld K ta f) := h ▸ pe_fld he hb
end
end Dp

set_option Elab.async false
set_option linter.all false
set_option maxRecDepth 100000
set_option maxHeartbeats 4000001
namespace Dp
open PySem PySem.Spec PyProof.Rows L2
section
variable {μ : Mu} {n : Nat} {Q : KD}
theorem map_int_inj {xs ys : List Int} (h : xs.map D.int = ys.map D.int) : xs = ys := by
  induction xs generalizing ys with
  | nil => cases ys with
    | nil => rfl
    | cons y ys => cases h
  | cons x xs ih => cases ys with
    | nil => cases h
    | cons y ys =>
      simp only [List.map_cons, List.cons.injEq, D.int.injEq] at h
      rw [h.1, ih h.2]
theorem map_bl_inj {xs ys : List Bool} (h : xs.map D.bl = ys.map D.bl) : xs = ys := by
  induction xs generalizing ys with
  | nil => cases ys with
    | nil => rfl
    | cons y ys => cases h
  | cons x xs ih => cases ys with
    | nil => cases h
    | cons y ys =>
      simp only [List.map_cons, List.cons.injEq, D.bl.injEq] at h
      rw [h.1, ih h.2]
theorem dv_eq {x y : D} {b : Bool} (h : EqOk μ x y b) : rdEq x y μ n Q = Q (.bl b) μ n := propext ⟨fun ⟨b', h', q⟩ => by rw [EqOk.uniq h h']; exact q, fun q => ⟨b, h, q⟩⟩
theorem dv_ne {x y : D} {b : Bool} (h : EqOk μ x y b) : rdNe x y μ n Q = Q (.bl (!b)) μ n := propext ⟨fun ⟨b', h', q⟩ => by rw [EqOk.uniq h h']; exact q, fun q => ⟨b, h, q⟩⟩
theorem dv_eq_row {a b : List Int} : rdEq (.row a) (.row b) μ n Q = Q (.bl (decide (a = b))) μ n := dv_eq eqok_row
theorem dv_ne_row {a b : List Int} : rdNe (.row a) (.row b) μ n Q = Q (.bl (!decide (a = b))) μ n := dv_ne eqok_row
theorem dv_eq_tup {a b : List Int} : rdEq (.tup (a.map D.int)) (.tup (b.map D.int)) μ n Q = Q (.bl (decide (a = b))) μ n := dv_eq eqok_tup
theorem dv_ne_tup {a b : List Int} : rdNe (.tup (a.map D.int)) (.tup (b.map D.int)) μ n Q = Q (.bl (!decide (a = b))) μ n := dv_ne eqok_tup
theorem dv_ne_tup0 {a : List Int} : rdNe (.tup (a.map D.int)) (.tup []) μ n Q = Q (.bl (!decide (a = []))) μ n := dv_ne (eqok_tup (ys := []))
theorem dv_eq_lst {a b : List Int} : rdEq (.lst (a.map D.int)) (.lst (b.map D.int)) μ n Q = Q (.bl (decide (a = b))) μ n := dv_eq eqok_lst
theorem dv_ne_lst {a b : List Int} : rdNe (.lst (a.map D.int)) (.lst (b.map D.int)) μ n Q = Q (.bl (!decide (a = b))) μ n := dv_ne eqok_lst
theorem dv_eq_int {a b : Int} : rdEq (.int a) (.int b) μ n Q = Q (.bl (decide (a = b))) μ n := dv_eq eqok_int
theorem dv_ne_int {a b : Int} : rdNe (.int a) (.int b) μ n Q = Q (.bl (!decide (a = b))) μ n := dv_ne eqok_int
def mkQ : List D → Mu → Nat → KD → Prop := fun xs μ1 n1 Q => ∃ d ns, xs = [d] ∧ seqI d = some (ns.map D.int) ∧ 2 ≤ ns.length ∧ ns.length ≤ 24 ∧ Q (.row ns) μ1 n1
theorem dv_make {wr : WA} {ds : Env} : wMake wr ds μ n Q = wr ds μ n fun xs μ1 n1 => mkQ xs μ1 n1 Q := rfl
theorem dv_mk {d : D} {ns : List Int} (h : seqI d = some (ns.map D.int)) : mkQ [d] μ n Q = (2 ≤ ns.length ∧ ns.length ≤ 24 ∧ Q (.row ns) μ n) := propext ⟨fun ⟨d', ns', e, h', l1, l2, q⟩ => by
  cases e
  rw [h] at h'
  have := map_int_inj (Option.some.inj h')
  subst this
  exact ⟨l1, l2, q⟩, fun ⟨l1, l2, q⟩ => ⟨d, ns, rfl, h, l1, l2, q⟩⟩
theorem dv_mk_lst {ns : List Int} : mkQ [.lst (ns.map D.int)] μ n Q = (2 ≤ ns.length ∧ ns.length ≤ 24 ∧ Q (.row ns) μ n) := dv_mk rfl
theorem dv_mk_tup {ns : List Int} : mkQ [.tup (ns.map D.int)] μ n Q = (2 ≤ ns.length ∧ ns.length ≤ 24 ∧ Q (.row ns) μ n) := dv_mk rfl
theorem dv_sum {d : D} {ns : List Int} (h : seqOf μ d = some (ns.map D.int)) : rdSum [d] μ n Q = Q (.int ns.sum) μ n := propext ⟨fun ⟨ns', h', q⟩ => by
  rw [h] at h'
  have := map_int_inj (Option.some.inj h')
  subst this
  exact q, fun q => ⟨ns, h, q⟩⟩
theorem dv_sum_lst {ns : List Int} : rdSum [.lst (ns.map D.int)] μ n Q = Q (.int ns.sum) μ n := dv_sum rfl
theorem dv_sum_tup {ns : List Int} : rdSum [.tup (ns.map D.int)] μ n Q = Q (.int ns.sum) μ n := dv_sum rfl
theorem dv_all {bs : List Bool} : rdAll [.lst (bs.map D.bl)] μ n Q = Q (.bl (bs.all id)) μ n := propext ⟨fun ⟨bs', h, _, q⟩ => by
  have := map_bl_inj (Option.some.inj h)
  subst this
  exact q, fun q => ⟨bs, rfl, (fun _ z => by cases z), q⟩⟩
theorem dv_tuple {d : D} {xs : List D} (h : seqOf μ d = some xs) : rdTuple [d] μ n Q = Q (.tup xs) μ n := propext ⟨fun ⟨ys, h', q⟩ => by
  rw [h] at h'; cases h'; exact q, fun q => ⟨xs, h, q⟩⟩
theorem dv_tuple_lst {xs : List D} : rdTuple [.lst xs] μ n Q = Q (.tup xs) μ n := dv_tuple rfl
theorem dv_tuple_tup {xs : List D} : rdTuple [.tup xs] μ n Q = Q (.tup xs) μ n := dv_tuple rfl
theorem dv_len_lst {xs : List D} : rdLen [.lst xs] μ n Q = Q (.int xs.length) μ n := propext ⟨fun ⟨ys, h', q⟩ => by cases h'; exact q, fun q => ⟨xs, rfl, q⟩⟩
theorem dv_len_tup {xs : List D} : rdLen [.tup xs] μ n Q = Q (.int xs.length) μ n := propext ⟨fun ⟨ys, h', q⟩ => by cases h'; exact q, fun q => ⟨xs, rfl, q⟩⟩
theorem dv_ix {d x : D} {i : Int} {xs : List D} (h : seqOf μ d = some xs) (e : atI xs i = some x) (q : Q x μ n) (hs : ∀ z, d ≠ .str z) : rdIx d (.int i) μ n Q := by
  cases d <;> simp only [rdIx] <;> first | exact absurd rfl (hs _) | exact ⟨xs, x, h, e, q⟩
theorem dv_ixI {d : D} {i : Int} {ns : List Int} {x : Int} (h : seqOf μ d = some (ns.map D.int)) (e : atI ns i = some x) (q : Q (.int x) μ n) (hs : ∀ z, d ≠ .str z) : rdIx d (.int i) μ n Q := by
  refine dv_ix h (x := .int x) ?_ q hs
  unfold atI at e ⊢
  rw [List.length_map]
  cases hj : ixN ns.length i with
  | none => rw [hj] at e; cases e
  | some j =>
    rw [hj] at e
    show (ns.map D.int)[j]? = some (.int x)
    rw [List.getElem?_map]
    rw [show ns[j]? = some x from e]; rfl
theorem atI_nat {α : Type} {xs : List α} {i : Int} {j : Nat} {x : α} (e : i = j) (h : xs[j]? = some x) : atI xs i = some x := by
  subst e
  have hj : j < xs.length := by
    rcases Nat.lt_or_ge j xs.length with h' | h'
    · exact h'
    · rw [List.getElem?_eq_none h'] at h; cases h
  unfold atI ixN
  rw [if_pos (Int.natCast_nonneg j), if_pos (by omega)]
  simpa using h
theorem ixN_nat {m : Nat} {i : Int} {j : Nat} (e : i = j) (h : j < m) : ixN m i = some j := by
  subst e
  unfold ixN
  rw [if_pos (Int.natCast_nonneg j), if_pos (by omega)]
  simp
theorem take_push {α : Type} {ys : List α} {i : Nat} {y : α} (h : ys[i]? = some y) : ys.take i ++ [y] = ys.take (i + 1) := by
  rw [List.take_add_one, h]; rfl
end
/-- a comprehension whose items are told -/
theorem lc_pure {wi : WI} {g : WG} {wt : WT} {we : WE} {vs : List Nat} {ds : Env} {μ μ1 : Mu} {n n1 : Nat} {Q : KD} {items ys : List D} (hi : ∀ k, k items μ1 n1 → wi ds μ n k) (hl : items.length < 100000) (hy : ys.length = items.length)
    (step : ∀ (i : Nat) (d y : D) (p : Addr) (acc : List D) (J : List D → Nat → Prop), items[i]? = some d → ys[i]? = some y → (∀ e ∈ μ1, e.1 ≠ p) → J (acc ++ [y]) n1 → g d (wipeE ds vs) fun ds2 => wt ds2 ((p, acc) :: μ1) n1 fun b μ2 n2 => μ2 = (p, acc) :: μ1 ∧ if b = true then we ds2 μ2 n2 fun z μ3 n3 => μ3 = (p, acc) :: μ1 ∧ J (acc ++ [z]) n3 else J acc n2)
    (q : Q (.lst ys) μ1 n1) : wLc wi g wt we vs ds μ n Q := by
  refine hi _ ⟨hl, fun p hp => ⟨fun i acc n' => acc = ys.take i ∧ n' = n1, ⟨rfl, rfl⟩, ?_, ?_⟩⟩
  · rintro i d acc n' hd ⟨ha, rfl⟩
    have hlt : i < items.length := by
      rcases Nat.lt_or_ge i items.length with h' | h'
      · exact h'
      · rw [List.getElem?_eq_none h'] at hd; cases hd
    obtain ⟨y, hy'⟩ : ∃ y, ys[i]? = some y := ⟨_, List.getElem?_eq_getElem (by omega)⟩
    have := step i d y p acc (fun acc' n2 => acc' = ys.take (i + 1) ∧ n2 = n') hd hy' hp ⟨by rw [ha]; exact take_push hy', rfl⟩
    exact this
  · rintro acc n' ⟨ha, rfl⟩
    rw [ha, ← hy, List.take_length]
    exact q
theorem lc_iv {wi : WI} {g : WG} {wt : WT} {we : WE} {vs : List Nat} {ds : Env} {μ μ1 : Mu} {n n1 : Nat} {Q : KD} {items : List D} (Iv : Nat → List D → Nat → Prop) (hi : ∀ k, k items μ1 n1 → wi ds μ n k) (hl : items.length < 100000) (h0 : Iv 0 [] n1)
    (step : ∀ i d p acc n, items[i]? = some d → i < items.length → (∀ e ∈ μ1, e.1 ≠ p) → Iv i acc n → g d (wipeE ds vs) fun ds2 => wt ds2 ((p, acc) :: μ1) n fun b μ2 n2 => μ2 = (p, acc) :: μ1 ∧ if b = true then we ds2 μ2 n2 fun y μ3 n3 => μ3 = (p, acc) :: μ1 ∧ Iv (i + 1) (acc ++ [y]) n3 else Iv (i + 1) acc n2)
    (q : ∀ acc n, Iv items.length acc n → Q (.lst acc) μ1 n) : wLc wi g wt we vs ds μ n Q :=
  hi _ ⟨hl, fun p hp => ⟨Iv, h0, fun i d acc n hd iv => step i d p acc n hd (by
    rcases Nat.lt_or_ge i items.length with h' | h'
    · exact h'
    · rw [List.getElem?_eq_none h'] at hd; cases hd) hp iv, q⟩⟩
theorem for_iv {wi : WI} {g : WG} {wb : WS} {De : DEnds} {ds : Env} {μ μ1 : Mu} {n n1 : Nat} {items : List D} (Iv : Nat → Env → Mu → Nat → Prop) (hi : ∀ k, k items μ1 n1 → wi ds μ n k) (h0 : Iv 0 ds μ1 n1)
    (step : ∀ i d ds μ n, items[i]? = some d → i < items.length → Iv i ds μ n → g d ds fun ds2 => wb { De with nx := Iv (i + 1), ct := Iv (i + 1), bk := De.nx } ds2 μ n)
    (q : ∀ ds μ n, Iv items.length ds μ n → De.nx ds μ n) : wFor wi g wb De ds μ n :=
  hi _ ⟨Iv, h0, fun i d ds μ n hd iv => step i d ds μ n hd (by
    rcases Nat.lt_or_ge i items.length with h' | h'
    · exact h'
    · rw [List.getElem?_eq_none h'] at hd; cases hd) iv, q⟩
theorem map_get {α β : Type} {f : α → β} {xs : List α} {i : Nat} {y : β} (h : (xs.map f)[i]? = some y) : ∃ x, xs[i]? = some x ∧ y = f x := by
  rw [List.getElem?_map] at h
  cases e : xs[i]? with
  | none => rw [e] at h; cases h
  | some x => rw [e] at h; cases h; exact ⟨x, rfl, rfl⟩

theorem frzL_ints {μ : Mu} : ∀ xs : List Int, frzL μ (xs.map D.int) = xs.map D.int
  | [] => rfl
  | x :: xs => by simp only [List.map_cons, frzL, frz, frzL_ints xs]
theorem map_lookup {p : Addr} {xs : List D} {μ : Mu} : ((p, xs) :: μ).lookup p = some xs := by rw [List.lookup_cons, beq_self_eq_true]
theorem muSet_one {p : Addr} {xs ys : List D} : muSet [(p, xs)] p ys = [(p, ys)] := by unfold muSet; rw [List.map_cons, if_pos rfl]; rfl
theorem lc_map {α : Type} {wi : WI} {g : WG} {wt : WT} {we : WE} {vs : List Nat} {ds : Env} {μ μ1 : Mu} {n n1 : Nat} {Q : KD} (as : List α) (G F : α → D) (hi : ∀ k, k (as.map G) μ1 n1 → wi ds μ n k) (hl : as.length < 100000)
    (step : ∀ (a : α) (p : Addr) (acc : List D) (J : List D → Nat → Prop), a ∈ as → (∀ e ∈ μ1, e.1 ≠ p) → J (acc ++ [F a]) n1 → g (G a) (wipeE ds vs) fun ds2 => wt ds2 ((p, acc) :: μ1) n1 fun b μ2 n2 => μ2 = (p, acc) :: μ1 ∧ if b = true then we ds2 μ2 n2 fun z μ3 n3 => μ3 = (p, acc) :: μ1 ∧ J (acc ++ [z]) n3 else J acc n2)
    (q : Q (.lst (as.map F)) μ1 n1) : wLc wi g wt we vs ds μ n Q := by
  refine lc_pure (items := as.map G) (ys := as.map F) hi (by simpa using hl) (by simp) (fun i d y p acc J hd hy hp hJ => ?_) q
  obtain ⟨a, ha, rfl⟩ := map_get hd
  obtain ⟨a', ha', rfl⟩ := map_get hy
  rw [ha] at ha'
  cases ha'
  exact step a p acc J (List.mem_of_getElem? ha) hp hJ
section
variable {μ : Mu} {n : Nat} {Q : KD}
theorem dv_eq0 {x y : D} {b : Bool} (h : EqOk μ x y b) (hr : ∀ ns, x ≠ .row ns) : rdEq0 x y μ n Q = Q (.bl b) μ n := propext ⟨fun ⟨b', h', q⟩ => by rw [EqOk.uniq h h'.1]; exact q, fun q => ⟨b, ⟨h, hr⟩, q⟩⟩
theorem dv_ne0 {x y : D} {b : Bool} (h : EqOk μ x y b) (hr : ∀ ns, x ≠ .row ns) : rdNe0 x y μ n Q = Q (.bl (!b)) μ n := propext ⟨fun ⟨b', h', q⟩ => by rw [EqOk.uniq h h'.1]; exact q, fun q => ⟨b, ⟨h, hr⟩, q⟩⟩
theorem dv_eq0_tup {a b : List Int} : rdEq0 (.tup (a.map D.int)) (.tup (b.map D.int)) μ n Q = Q (.bl (decide (a = b))) μ n := dv_eq0 eqok_tup fun _ z => by cases z
theorem dv_eq0_int {a b : Int} : rdEq0 (.int a) (.int b) μ n Q = Q (.bl (decide (a = b))) μ n := dv_eq0 eqok_int fun _ z => by cases z
theorem dv_ne0_int {a b : Int} : rdNe0 (.int a) (.int b) μ n Q = Q (.bl (!decide (a = b))) μ n := dv_ne0 eqok_int fun _ z => by cases z
theorem dv_ne0_tup {a b : List Int} : rdNe0 (.tup (a.map D.int)) (.tup (b.map D.int)) μ n Q = Q (.bl (!decide (a = b))) μ n := dv_ne0 eqok_tup fun _ z => by cases z
end
theorem cut_ints {a : List Int} {lo hi : Option Int} : Dp.cutD (a.map D.int) lo hi = ((a.drop (HT.sIx a.length 0 lo)).take (HT.sIx a.length a.length hi - HT.sIx a.length 0 lo)).map D.int := by
  unfold Dp.cutD; simp only [List.length_map, List.map_take, List.map_drop]
theorem rep_one {m : Nat} {d : D} : (List.replicate m [d]).flatten = List.replicate m d := by
  induction m with
  | zero => rfl
  | succ m ih => rw [List.replicate_succ, List.flatten_cons, ih]; rfl
theorem zip_ints {a b : List Int} (h : a.length = b.length) : zipD (a.map D.int) (b.map D.int) = (a.zip b).map fun e => .tup [.int e.1, .int e.2] := by
  refine List.ext_getElem? fun i => ?_
  unfold zipD
  simp only [List.length_map, List.getElem?_map]
  rcases Nat.lt_or_ge i a.length with hi | hi
  · rw [List.getElem?_range (by omega), List.getElem?_eq_getElem (show i < (a.zip b).length by simp; omega)]
    simp [List.getD_eq_getElem?_getD, List.getElem?_map, List.getElem?_eq_getElem hi, List.getElem?_eq_getElem (show i < b.length by omega)]
  · rw [List.getElem?_eq_none (by simp; omega), List.getElem?_eq_none (by simp; omega)]; rfl
theorem dv_gcons {g : WG} {gs : WGs} {x : D} {xs : List D} {ds : Env} {Q : Env → Prop} : gwCons g gs (x :: xs) ds Q = g x ds fun ds' => gs xs ds' Q := propext ⟨fun ⟨d, r, e, h⟩ => by cases e; exact h, fun h => ⟨x, xs, rfl, h⟩⟩
theorem dv_gnil {ds : Env} {Q : Env → Prop} : gwNil [] ds Q = Q ds := propext ⟨fun ⟨_, h⟩ => h, fun h => ⟨rfl, h⟩⟩
theorem dv_gtup {m : Nat} {gs : WGs} {xs : List D} {ds : Env} {Q : Env → Prop} : gwTup m gs (.tup xs) ds Q = (xs.length = m ∧ gs xs ds Q) := propext ⟨fun ⟨ys, e, h⟩ => by cases e; exact h, fun h => ⟨xs, rfl, h⟩⟩
theorem dv_gunl {m : Nat} {gs : WGs} {xs : List D} {ds : Env} {Q : Env → Prop} : gwUnl m gs (.lst xs) ds Q = (xs.length = m ∧ gs xs ds Q) := propext ⟨fun ⟨ys, e, h⟩ => by cases e; exact h, fun h => ⟨xs, rfl, h⟩⟩
theorem enum_ints {a : List Int} : enumD (a.map D.int) = (List.range a.length).map fun i => .tup [.int (i : Nat), .int (a.getD i 0)] := by
  unfold enumD
  rw [List.length_map]
  refine List.map_congr_left fun i hi => ?_
  have : i < a.length := by simpa using hi
  simp [List.getD_eq_getElem?_getD, List.getElem?_map, List.getElem?_eq_getElem this]
theorem zip_sum : ∀ a b : List Int, (a.zip b).map (fun e => D.int (e.1 + e.2)) = (List.zipWith (· + ·) a b).map D.int
  | [], _ => by simp
  | _ :: _, [] => by simp
  | x :: a, y :: b => by simp only [List.zip_cons_cons, List.map_cons, List.zipWith_cons_cons, zip_sum a b]
theorem for_j {wi : WI} {g : WG} {wb : WS} {De : DEnds} {ds : Env} {μ μ1 : Mu} {n n1 : Nat} {items : List D} (Iv : Nat → Env → Mu → Nat → Prop) (hi : ∀ k, k items μ1 n1 → wi ds μ n k) (h0 : Iv 0 ds μ1 n1)
    (step : ∀ i d ds μ n (J : Env → Mu → Nat → Prop), items[i]? = some d → i < items.length → Iv i ds μ n → (∀ ds μ n, Iv (i + 1) ds μ n → J ds μ n) → g d ds fun ds2 => wb { De with nx := J, ct := J, bk := De.nx } ds2 μ n)
    (q : ∀ ds μ n, Iv items.length ds μ n → De.nx ds μ n) : wFor wi g wb De ds μ n :=
  for_iv Iv hi h0 (fun i d ds μ n hd hl iv => step i d ds μ n _ hd hl iv fun _ _ _ h => h) q
theorem lc_j {wi : WI} {g : WG} {wt : WT} {we : WE} {vs : List Nat} {ds : Env} {μ μ1 : Mu} {n n1 : Nat} {Q : KD} {items : List D} (Iv : Nat → List D → Nat → Prop) (hi : ∀ k, k items μ1 n1 → wi ds μ n k) (hl : items.length < 100000) (h0 : Iv 0 [] n1)
    (step : ∀ i d p acc n (J : List D → Nat → Prop), items[i]? = some d → i < items.length → (∀ e ∈ μ1, e.1 ≠ p) → Iv i acc n → (∀ acc n, Iv (i + 1) acc n → J acc n) → g d (wipeE ds vs) fun ds2 => wt ds2 ((p, acc) :: μ1) n fun b μ2 n2 => μ2 = (p, acc) :: μ1 ∧ if b = true then we ds2 μ2 n2 fun y μ3 n3 => μ3 = (p, acc) :: μ1 ∧ J (acc ++ [y]) n3 else J acc n2)
    (q : ∀ acc n, Iv items.length acc n → Q (.lst acc) μ1 n) : wLc wi g wt we vs ds μ n Q :=
  lc_iv Iv hi hl h0 (fun i d p acc n hd hl hp iv => step i d p acc n _ hd hl hp iv fun _ _ h => h) q
section
variable {μ : Mu} {n : Nat} {Q : KD}
theorem dv_add_int {i j : Int} : rdAdd (.int i) (.int j) μ n Q = Q (.int (i + j)) μ n := rfl
theorem dv_add_lst {xs ys : List D} : rdAdd (.lst xs) (.lst ys) μ n Q = (xs.length + ys.length ≤ 100000 ∧ Q (.lst (xs ++ ys)) μ n) := rfl
theorem dv_add_tup {xs ys : List D} : rdAdd (.tup xs) (.tup ys) μ n Q = (xs.length + ys.length ≤ 100000 ∧ Q (.tup (xs ++ ys)) μ n) := rfl
theorem dv_mul_int {i j : Int} : rdMul (.int i) (.int j) μ n Q = ((CMul i j ∨ CMulW i j) ∧ Q (.int (i * j)) μ n) := rfl
theorem dv_mul_lst {xs : List D} {k : Int} : rdMul (.lst xs) (.int k) μ n Q = (-1000 ≤ k ∧ k ≤ 1000 ∧ xs.length ≤ 1000 ∧ Q (.lst (List.replicate k.toNat xs).flatten) μ n) := rfl
theorem dv_mul_tup {xs : List D} {k : Int} : rdMul (.tup xs) (.int k) μ n Q = (xs ≠ [] ∧ 2 ≤ k ∧ k ≤ 1000 ∧ xs.length ≤ 1000 ∧ Q (.tup (List.replicate k.toNat xs).flatten) μ n) := rfl
end
end Dp

set_option Elab.async false
set_option linter.all false
set_option maxRecDepth 100000
set_option maxHeartbeats 4000001
/-! sums, the product of two rings -/
namespace Dp
def Sg : Nat → (Nat → Int) → Int
  | 0, _ => 0
  | n + 1, f => Sg n f + f n
theorem Sg_congr {n : Nat} {f g : Nat → Int} (h : ∀ i, i < n → f i = g i) : Sg n f = Sg n g := by
  induction n with
  | zero => rfl
  | succ n ih => simp only [Sg]; rw [ih fun i hi => h i (by omega), h n (by omega)]
theorem Sg_add {n : Nat} {f g : Nat → Int} : Sg n (fun i => f i + g i) = Sg n f + Sg n g := by
  induction n with
  | zero => rfl
  | succ n ih => simp only [Sg]; rw [ih]; omega
theorem Sg_mulL {n : Nat} {f : Nat → Int} {k : Int} : Sg n (fun i => k * f i) = k * Sg n f := by
  induction n with
  | zero => simp [Sg]
  | succ n ih => simp only [Sg]; rw [ih, Int.mul_add]
theorem Sg_mulR {n : Nat} {f : Nat → Int} {k : Int} : Sg n (fun i => f i * k) = Sg n f * k := by
  induction n with
  | zero => simp [Sg]
  | succ n ih => simp only [Sg]; rw [ih, Int.add_mul]
theorem Sg_zero {n : Nat} : Sg n (fun _ => 0) = 0 := by
  induction n with
  | zero => rfl
  | succ n ih => simp only [Sg]; rw [ih]; rfl
theorem Sg_swap {n m : Nat} {f : Nat → Nat → Int} : Sg n (fun i => Sg m fun j => f i j) = Sg m (fun j => Sg n fun i => f i j) := by
  induction n with
  | zero => simp only [Sg]; exact Sg_zero.symm
  | succ n ih => simp only [Sg]; rw [ih, ← Sg_add]
theorem Sg_ind {n k : Nat} {f : Nat → Int} (hk : k < n) : Sg n (fun i => if i = k then f i else 0) = f k := by
  induction n with
  | zero => omega
  | succ n ih =>
    simp only [Sg]
    by_cases h : n = k
    · subst h
      rw [if_pos rfl, Sg_congr (g := fun _ => 0) (fun i hi => if_neg (by omega)), Sg_zero]; omega
    · rw [if_neg h, ih (by omega)]; omega
/-- sum with 1 at one place, told by a property -/
theorem Sg_one {n k : Nat} {p : Nat → Bool} {f : Nat → Int} (hk : k < n) (hp : ∀ i, i < n → (p i = true ↔ i = k)) : Sg n (fun i => if p i = true then f i else 0) = f k := by
  rw [← Sg_ind (f := f) hk]
  refine Sg_congr fun i hi => ?_
  by_cases h : i = k
  · rw [if_pos ((hp i hi).2 h), if_pos h]
  · rw [if_neg (fun z => h ((hp i hi).1 z)), if_neg h]
/-- the i-th number -/
def nt (xs : List Int) (i : Nat) : Int := xs.getD i 0
theorem nt_get {xs : List Int} {i : Nat} {x : Int} (h : xs[i]? = some x) : nt xs i = x := by unfold nt; rw [List.getD_eq_getElem?_getD, h]; rfl
theorem nt_lt {xs : List Int} {i : Nat} (h : i < xs.length) : xs[i]? = some (nt xs i) := by
  rw [List.getElem?_eq_getElem h]; congr 1; rw [nt_get (List.getElem?_eq_getElem h)]
theorem ext_nt {xs ys : List Int} (hl : xs.length = ys.length) (h : ∀ i, i < xs.length → nt xs i = nt ys i) : xs = ys := by
  refine List.ext_getElem? fun i => ?_
  rcases Nat.lt_or_ge i xs.length with hi | hi
  · rw [nt_lt hi, nt_lt (by omega), h i hi]
  · rw [List.getElem?_eq_none hi, List.getElem?_eq_none (by omega)]
def tab (n : Nat) (f : Nat → Int) : List Int := (List.range n).map f
@[simp] theorem tab_len {n : Nat} {f : Nat → Int} : (tab n f).length = n := by unfold tab; simp
theorem tab_get {n : Nat} {f : Nat → Int} {i : Nat} (h : i < n) : (tab n f)[i]? = some (f i) := by unfold tab; rw [List.getElem?_map, List.getElem?_range h]; rfl
theorem tab_nt {n : Nat} {f : Nat → Int} {i : Nat} (h : i < n) : nt (tab n f) i = f i := nt_get (tab_get h)
theorem sum_append_one {xs : List Int} {x : Int} : (xs ++ [x]).sum = xs.sum + x := by simp
theorem tab_sum {n : Nat} {f : Nat → Int} : (tab n f).sum = Sg n f := by
  induction n with
  | zero => rfl
  | succ n ih =>
    unfold tab at ih ⊢
    rw [List.range_succ, List.map_append, List.map_cons, List.map_nil, sum_append_one, ih]; rfl
theorem tab_self {xs : List Int} : tab xs.length (nt xs) = xs := ext_nt (by simp) fun i hi => tab_nt (by simpa using hi)
theorem sum_nt {xs : List Int} : xs.sum = Sg xs.length (nt xs) := by rw [← tab_sum, tab_self]
theorem tab_congr {n : Nat} {f g : Nat → Int} (h : ∀ i, i < n → f i = g i) : tab n f = tab n g := ext_nt (by simp) fun i hi => by
  rw [tab_len] at hi; rw [tab_nt hi, tab_nt hi, h i hi]
/-- the product round a ring -/
def cv (m : Nat) (f g : Nat → Int) (k : Nat) : Int := Sg m fun i => Sg m fun j => if (i + j) % m = k then f i * g j else 0
def rp (a b : List Int) : List Int := tab a.length (cv a.length (nt a) (nt b))
@[simp] theorem rp_len {a b : List Int} : (rp a b).length = a.length := tab_len
theorem rp_nt {a b : List Int} {k : Nat} (h : k < a.length) : nt (rp a b) k = cv a.length (nt a) (nt b) k := tab_nt h
theorem cv_congr {m k : Nat} {f g f' g' : Nat → Int} (h : ∀ i, i < m → f i = f' i) (h' : ∀ i, i < m → g i = g' i) : cv m f g k = cv m f' g' k :=
  Sg_congr fun i hi => Sg_congr fun j hj => by rw [h i hi, h' j hj]
theorem cv_comm {m k : Nat} {f g : Nat → Int} : cv m f g k = cv m g f k := by
  unfold cv
  rw [Sg_swap]
  exact Sg_congr fun i _ => Sg_congr fun j _ => by rw [Nat.add_comm j i, Int.mul_comm (f j)]
theorem rp_comm {a b : List Int} (h : a.length = b.length) : rp a b = rp b a := by
  unfold rp; rw [h]; exact tab_congr fun k _ => cv_comm
theorem ite_add {p : Prop} [Decidable p] {x y : Int} : (if p then x + y else 0) = (if p then x else 0) + (if p then y else 0) := by split <;> omega
theorem cv_addR {m k : Nat} {f g h : Nat → Int} : cv m f (fun i => g i + h i) k = cv m f g k + cv m f h k := by
  unfold cv
  rw [← Sg_add]
  refine Sg_congr fun i _ => ?_
  rw [← Sg_add]
  refine Sg_congr fun j _ => ?_
  rw [Int.mul_add, ite_add]
theorem cv_mulR {m k : Nat} {f g : Nat → Int} {c : Int} : cv m f (fun i => c * g i) k = c * cv m f g k := by
  unfold cv
  rw [← Sg_mulL]
  refine Sg_congr fun i _ => ?_
  rw [← Sg_mulL]
  refine Sg_congr fun j _ => ?_
  split
  · exact Int.mul_left_comm _ _ _
  · omega
theorem cv_mulL {m k : Nat} {f g : Nat → Int} {c : Int} : cv m (fun i => c * f i) g k = c * cv m f g k := by rw [cv_comm, cv_mulR, cv_comm]
theorem Sg_ite {n : Nat} {p : Prop} [Decidable p] {f : Nat → Int} : Sg n (fun i => if p then f i else 0) = if p then Sg n f else 0 := by
  split
  · rfl
  · exact Sg_zero
/-- three rings at once -/
def cv3 (m : Nat) (f g h : Nat → Int) (k : Nat) : Int := Sg m fun i => Sg m fun j => Sg m fun l => if (i + j + l) % m = k then f i * g j * h l else 0
theorem cv_cv {m k : Nat} {f g h : Nat → Int} : cv m (cv m f g) h k = cv3 m f g h k := by
  unfold cv cv3
  have e : ∀ s l, (if (s + l) % m = k then (Sg m fun i => Sg m fun j => if (i + j) % m = s then f i * g j else 0) * h l else 0) = Sg m fun i => Sg m fun j => if (i + j) % m = s then (if (s + l) % m = k then f i * g j * h l else 0) else 0 := by
    intro s l
    by_cases c : (s + l) % m = k
    · rw [if_pos c, ← Sg_mulR]
      refine Sg_congr fun i _ => ?_
      rw [← Sg_mulR]
      refine Sg_congr fun j _ => ?_
      rw [if_pos c]
      split
      · rfl
      · omega
    · rw [if_neg c]
      refine Eq.trans Sg_zero.symm (Sg_congr fun i _ => Eq.trans Sg_zero.symm (Sg_congr fun j _ => ?_))
      rw [if_neg c]; split <;> rfl
  rw [Sg_congr fun s _ => Sg_congr fun l _ => e s l]
  rw [Sg_congr fun s _ => Sg_swap, Sg_swap]
  refine Sg_congr fun i _ => ?_
  rw [Sg_congr fun s _ => Sg_swap, Sg_swap]
  refine Sg_congr fun j _ => ?_
  rw [Sg_swap]
  refine Sg_congr fun l hl => ?_
  have hm : (i + j) % m < m := Nat.mod_lt _ (by omega)
  have := Sg_one (n := m) (k := (i + j) % m) (p := fun s => decide ((i + j) % m = s)) (f := fun s => if (s + l) % m = k then f i * g j * h l else 0) hm (fun s _ => by rw [decide_eq_true_iff]; exact eq_comm)
  simp only [decide_eq_true_iff] at this
  rw [this, Nat.mod_add_mod]
theorem rp_assoc {a b c : List Int} (h : a.length = b.length) (h' : b.length = c.length) : rp (rp a b) c = rp a (rp b c) := by
  unfold rp
  rw [tab_len]
  refine tab_congr fun k hk => ?_
  rw [cv_congr (f' := cv a.length (nt a) (nt b)) (g' := nt c) (fun i hi => tab_nt hi) (fun _ _ => rfl), cv_cv]
  rw [cv_comm, cv_congr (f' := cv a.length (nt b) (nt c)) (g' := nt a) (fun i hi => by rw [← h]; exact tab_nt hi) (fun _ _ => rfl), cv_cv]
  unfold cv3
  rw [Sg_swap]
  have : ∀ j, (Sg a.length fun i => Sg a.length fun l => if (i + j + l) % a.length = k then nt a i * nt b j * nt c l else 0) = Sg a.length fun l => Sg a.length fun i => if (j + l + i) % a.length = k then nt b j * nt c l * nt a i else 0 := fun j => by
    rw [Sg_swap]
    refine Sg_congr fun l _ => Sg_congr fun i _ => ?_
    rw [show i + j + l = j + l + i by omega, show nt a i * nt b j * nt c l = nt b j * nt c l * nt a i by rw [Int.mul_assoc, Int.mul_comm]]
  exact Sg_congr fun j _ => this j
theorem mod_uniq {m k s : Nat} (i : Nat) (hk : k < m) (hs : s < m) : (s + i) % m = k ↔ s = (k + (m - i % m)) % m := by
  have hi : i % m < m := Nat.mod_lt _ (by omega)
  have e : (s + i) % m = (s + i % m) % m := by rw [Nat.add_mod_mod]
  rw [e]
  constructor
  · intro h
    by_cases c : s + i % m < m
    · rw [Nat.mod_eq_of_lt c] at h
      rw [show k + (m - i % m) = s + m by omega, Nat.add_mod_right, Nat.mod_eq_of_lt hs]
    · rw [Nat.mod_eq_sub_mod (by omega), Nat.mod_eq_of_lt (by omega)] at h
      rw [Nat.mod_eq_of_lt (by omega)]; omega
  · intro h
    subst h
    by_cases c : k + (m - i % m) < m
    · rw [Nat.mod_eq_of_lt c, show k + (m - i % m) + i % m = k + m by omega, Nat.add_mod_right, Nat.mod_eq_of_lt hk]
    · rw [Nat.mod_eq_sub_mod (a := k + (m - i % m)) (by omega), Nat.mod_eq_of_lt (a := k + (m - i % m) - m) (by omega), show k + (m - i % m) - m + i % m = k by omega, Nat.mod_eq_of_lt hk]
/-- the sum of the product -/
theorem rp_sum {a b : List Int} (h : a.length = b.length) (h0 : 0 < a.length) : (rp a b).sum = a.sum * b.sum := by
  unfold rp
  rw [tab_sum, sum_nt (xs := a), sum_nt (xs := b), ← h]
  unfold cv
  rw [Sg_swap, ← Sg_mulR]
  refine Sg_congr fun i _ => ?_
  rw [Sg_swap, ← Sg_mulL]
  refine Sg_congr fun j _ => ?_
  have := Sg_one (n := a.length) (k := (i + j) % a.length) (p := fun s => decide ((i + j) % a.length = s)) (f := fun _ => nt a i * nt b j) (Nat.mod_lt _ h0) (fun s _ => by rw [decide_eq_true_iff]; exact eq_comm)
  simpa only [decide_eq_true_iff] using this
/-- by the one mark, turned by t -/
theorem cv_mark {m k t : Nat} {f g : Nat → Int} (hk : k < m) (ht : t < m) (hg : ∀ i, i < m → g i = if i = t then 1 else 0) : cv m f g k = f ((k + (m - t)) % m) := by
  unfold cv
  have e : ∀ i, (Sg m fun j => if (i + j) % m = k then f i * g j else 0) = if (i + t) % m = k then f i else 0 := fun i => by
    have : (Sg m fun j => if (i + j) % m = k then f i * g j else 0) = Sg m fun j => if j = t then (if (i + j) % m = k then f i else 0) else 0 := Sg_congr fun j hj => by
      rw [hg j hj]
      by_cases c : j = t
      · rw [if_pos c, if_pos c, Int.mul_one]
      · rw [if_neg c, if_neg c, Int.mul_zero]; split <;> rfl
    rw [this, Sg_ind (f := fun j => if (i + j) % m = k then f i else 0) ht]
  rw [Sg_congr fun i _ => e i]
  have hm : (k + (m - t)) % m < m := Nat.mod_lt _ (by omega)
  have := Sg_one (n := m) (k := (k + (m - t)) % m) (p := fun i => decide ((i + t) % m = k)) (f := f) hm (fun i hi => by
    rw [decide_eq_true_iff, mod_uniq t hk hi, Nat.mod_eq_of_lt ht])
  simpa only [decide_eq_true_iff] using this
/-- by a row of one number -/
theorem cv_const {m k : Nat} {f g : Nat → Int} {c : Int} (hk : k < m) (hg : ∀ i, i < m → g i = c) : cv m f g k = Sg m f * c := by
  unfold cv
  rw [← Sg_mulR]
  refine Sg_congr fun i hi => ?_
  have : (Sg m fun j => if (i + j) % m = k then f i * g j else 0) = Sg m fun j => if decide ((j + i) % m = k) = true then f i * c else 0 := Sg_congr fun j hj => by
    rw [hg j hj, Nat.add_comm i j]; simp only [decide_eq_true_iff]
  rw [this]
  exact Sg_one (n := m) (k := (k + (m - i % m)) % m) (p := fun j => decide ((j + i) % m = k)) (f := fun _ => f i * c) (Nat.mod_lt _ (by omega)) (fun j hj => by
    rw [decide_eq_true_iff, mod_uniq i hk hj])
theorem tab_set {m j : Nat} {v : Int} {f : Nat → Int} : (tab m f).set j v = tab m (fun k => if k = j then v else f k) := by
  refine List.ext_getElem? fun i => ?_
  rw [List.getElem?_set, tab_len]
  rcases Nat.lt_or_ge i m with hi | hi
  · rw [tab_get hi]
    by_cases h : j = i
    · subst h; rw [if_pos rfl, if_pos hi, tab_get hi, if_pos rfl]
    · rw [if_neg h, tab_get hi, if_neg (Ne.symm h)]
  · rw [List.getElem?_eq_none (l := tab m _) (by rw [tab_len]; exact hi), List.getElem?_eq_none (l := tab m _) (by rw [tab_len]; exact hi)]
    split
    · rw [if_neg (by omega)]
    · rfl
theorem rep_tab {m : Nat} {c : Int} : List.replicate m c = tab m fun _ => c := by
  refine List.ext_getElem? fun i => ?_
  rw [List.getElem?_replicate]
  split
  · rw [tab_get (by assumption)]
  · rw [List.getElem?_eq_none (by rw [tab_len]; omega)]
/-- what stands in the list behind i rows and j steps of the next -/
def st2 (m : Nat) (f g : Nat → Int) (i j k : Nat) : Int := (Sg i fun i' => Sg m fun j' => if (i' + j') % m = k then f i' * g j' else 0) + Sg j fun j' => if (i + j') % m = k then f i * g j' else 0
theorem st2_step {m i j k : Nat} {f g : Nat → Int} : (if k = (i + j) % m then st2 m f g i j ((i + j) % m) + f i * g j else st2 m f g i j k) = st2 m f g i (j + 1) k := by
  unfold st2
  simp only [Sg]
  by_cases h : k = (i + j) % m
  · subst h; rw [if_pos rfl, if_pos rfl]; omega
  · rw [if_neg h, if_neg (Ne.symm h)]; omega
theorem st2_row {m i k : Nat} {f g : Nat → Int} : st2 m f g i m k = st2 m f g (i + 1) 0 k := by
  unfold st2
  simp only [Sg]
  omega
theorem st2_skip {m i k : Nat} {f g : Nat → Int} (h : f i = 0) : st2 m f g i 0 k = st2 m f g (i + 1) 0 k := by
  unfold st2
  simp only [Sg]
  rw [Sg_congr (n := m) (g := fun _ => 0) fun j _ => by rw [h, Int.zero_mul]; split <;> rfl, Sg_zero]
  omega
theorem st2_end {m k : Nat} {f g : Nat → Int} : st2 m f g m 0 k = cv m f g k := by unfold st2 cv; simp only [Sg]; omega
theorem st2_start {m k : Nat} {f g : Nat → Int} : st2 m f g 0 0 k = 0 := rfl
end Dp

set_option Elab.async false
set_option linter.all false
set_option maxRecDepth 100000
set_option maxHeartbeats 4000001
namespace Dp
open PySem PySem.Spec PyProof.Rows L2
/-! ### an object that is being made -/
def fvD : FV → D
  | .int i => .int i
  | .bl b => .bl b
  | .str x => .str x
  | .tup ns => .tup (ns.map D.int)
section
variable {c : Cb} {t : Addr} {G H : Hp}
theorem fv_of {a : FV} {v : V} (r : Rp c t G (fvD a) v) : FvR c.K G a v := by
  cases a <;> simp only [fvD, Rp] at r <;> simp only [FvR] <;> first | exact r | skip
  obtain ⟨a, vs, rfl, h1, h2⟩ := r
  rw [rpl_ints] at h2
  subst h2
  exact ⟨a, rfl, h1⟩
theorem of_fv {a : FV} {v : V} (r : FvR c.K G a v) : Rp c t G (fvD a) v := by
  cases a <;> simp only [FvR] at r <;> simp only [fvD, Rp] <;> first | exact r | skip
  obtain ⟨a, rfl, h1⟩ := r
  exact ⟨a, _, rfl, h1, rpl_ints.mpr rfl⟩
theorem FsR.look {K : PySem.W.Frag} {f : Str} : ∀ {fs : List (Str × FV)} {vs : List (Str × V)} {a : FV}, FsR K G fs vs → fs.lookup f = some a → ∃ v, vs.lookup f = some v ∧ FvR K G a v
  | [], _, _, _, e => by cases e
  | (g, d) :: fs, vs, a, h, e => by
    simp only [FsR] at h
    obtain ⟨v, r, rfl, h2, h3⟩ := h
    rw [List.lookup_cons] at e ⊢
    cases q : f == g with
    | true => rw [q] at e; cases e; exact ⟨v, rfl, h2⟩
    | false => rw [q] at e; exact FsR.look h3 e
theorem FsR.keys {K : PySem.W.Frag} : ∀ {fs : List (Str × FV)} {vs : List (Str × V)}, FsR K G fs vs → vs.map (·.1) = fs.map (·.1)
  | [], vs, h => by simp only [FsR] at h; subst h; rfl
  | (g, d) :: fs, vs, h => by
    simp only [FsR] at h
    obtain ⟨v, r, rfl, h2, h3⟩ := h
    simp only [List.map_cons, FsR.keys h3]
theorem FsR.push {K : PySem.W.Frag} {f : Str} {a : FV} {v : V} (hv : FvR K G a v) : ∀ {fs : List (Str × FV)} {vs : List (Str × V)}, FsR K G fs vs → FsR K G (fs ++ [(f, a)]) (vs ++ [(f, v)])
  | [], vs, h => by
    simp only [FsR] at h; subst h
    simp only [List.nil_append, FsR]
    exact ⟨v, [], rfl, hv, rfl⟩
  | (g, d) :: fs, vs, h => by
    simp only [FsR] at h
    obtain ⟨u, r, rfl, h2, h3⟩ := h
    simp only [List.cons_append, FsR]
    exact ⟨u, _, rfl, h2, FsR.push hv h3⟩
theorem putF_new {f : Str} {v : V} : ∀ {vs : List (Str × V)}, f ∉ vs.map (·.1) → putF f v vs = vs ++ [(f, v)]
  | [], _ => rfl
  | (g, u) :: r, h => by
    simp only [List.map_cons, List.mem_cons, not_or] at h
    show (if g = f then _ else _) = _
    rw [if_neg (Ne.symm h.1), putF_new h.2]; rfl
theorem FvR.put {K : PySem.W.Frag} {x C dx : Addr} {fs : List (Str × V)} {o : HO} {a : FV} {v : V} (e : G x = some (.ins C dx fs)) (r : FvR K G a v) : FvR K (upd G x o) a v := by
  cases a <;> simp only [FvR] at r ⊢ <;> first | exact r | skip
  obtain ⟨a, rfl, h⟩ := r
  refine ⟨a, rfl, ?_⟩
  rcases h with (h | ⟨o, h⟩) | h
  · exact .inl (.inl (by rw [upd_ne (fun z => by rw [z, e] at h; cases h)]; exact h))
  · exact .inl (.inr ⟨o, by rw [upd_ne (fun z => by rw [z, e] at h; cases h)]; exact h⟩)
  · exact .inr h
theorem FsR.put {K : PySem.W.Frag} {x C dx : Addr} {fs' : List (Str × V)} {o : HO} (e : G x = some (.ins C dx fs')) : ∀ {fs : List (Str × FV)} {vs : List (Str × V)}, FsR K G fs vs → FsR K (upd G x o) fs vs
  | [], vs, h => by simpa only [FsR] using h
  | (g, d) :: fs, vs, h => by
    simp only [FsR] at h ⊢
    obtain ⟨u, r, rfl, h2, h3⟩ := h
    exact ⟨u, r, rfl, FvR.put e h2, FsR.put e h3⟩
end
theorem tabs_ins {c : Cb} {H : Hp} {p C dx : Addr} {o : HO} {vs : List (Str × V)} (T : TabsO c H) (h : H p = some (.ins C dx vs)) : TabsO c (upd H p o) := fun e he => by
  obtain ⟨ps, h1, h2, h3⟩ := T e he
  refine ⟨ps, by rw [upd_ne (fun z => by rw [z, h] at h1; cases h1)]; exact h1, h2, fun pos cv hc => ?_⟩
  obtain ⟨a, e1, e2⟩ := h3 pos cv hc
  exact ⟨a, e1, by rw [upd_ne (fun z => by rw [z, h] at e2; unfold LamX.CodeO at e2; cases e2)]; exact e2⟩
structure Ini (c : Cb) (C t : Addr) (H1 G : Hp) (x dx : Addr) (n : Nat) (fs : List (Str × FV)) (H Gi : Hp) : Prop where
  gh : Same Gi H
  gt : ∀ b, Fx c t b → Gi b = none
  pen : PenOk c t H Gi n
  ob : ∃ vs, Gi x = some (.ins C dx vs) ∧ FsR c.K Gi fs vs
  g : Same G Gi
  h : ∀ b o, ¬ Fx c t b → Nt o → H1 b = some o → H b = some o
  nn : ∀ b o, Nt o → H1 b = some o → G b = none → Gi b = none
  x1 : H1 x = none
  gx : G x = none
section
variable {c : Cb} {C t x dx : Addr} {H1 G H Gi H' G' : Hp} {n : Nat} {fs : List (Str × FV)}
theorem Ini.s (I : Ini c C t H1 G x dx n fs H Gi) : S c.n t H Gi H Gi [] n := ⟨⟨I.gh, I.gt, I.pen, fun e he => (by cases he), Same.refl _, fun _ _ _ _ h => h, fun _ _ _ _ h => h⟩, trivial⟩
theorem Ini.go (I : Ini c C t H1 G x dx n fs H Gi) (s : S c.n t H Gi H' G' [] n) : Ini c C t H1 G x dx n fs H' G' := by
  obtain ⟨vs, h1, h2⟩ := I.ob
  refine ⟨s.gh, s.gt, s.pen, ⟨vs, s.g0 _ _ h1, h2.mono s.g0⟩, Same.trans I.g s.g0, fun b o hb no e => s.h0 b o hb no (I.h b o hb no e), fun b o no hb hg => ?_, I.x1, I.gx⟩
  by_cases hbt : Fx c t b
  · exact s.gt b hbt
  · exact s.n0 b o no (I.h b o hbt no hb) (I.nn b o no hb hg)
theorem Ini.put {f : Str} {a : FV} {v : V} {vs : List (Str × V)} (I : Ini c C t H1 G x dx n fs H Gi) (e : Gi x = some (.ins C dx vs)) (hs : FsR c.K Gi fs vs) (hv : FvR c.K Gi a v) (hk : f ∉ fs.map (·.1)) :
    Ini c C t H1 G x dx n (fs ++ [(f, a)]) (upd H x (.ins C dx (putF f v vs))) (upd Gi x (.ins C dx (putF f v vs))) := by
  have hxx : ¬ Fx c t x := fun z => by rw [I.gt x z] at e; cases e
  have hxt : x ≠ t := fun z => hxx (.inl z)
  have ep : putF f v vs = vs ++ [(f, v)] := putF_new (by rw [hs.keys]; exact hk)
  have gx := I.gx
  refine ⟨fun b o h => ?_, fun b hx => ?_, ?_, ⟨_, upd_same, ?_⟩, fun b o h => ?_, fun b o hb no h => ?_, fun b o no hb hg => ?_, I.x1, I.gx⟩
  · unfold upd at h ⊢
    by_cases hb : b = x
    · rw [if_pos hb] at h ⊢; exact h
    · rw [if_neg hb] at h ⊢; exact I.gh _ _ h
  · rw [upd_ne (fun z : b = x => hxx (by rw [← z]; exact hx))]; exact I.gt _ hx
  · obtain ⟨a', spot, rest, q1, q2, q3⟩ := I.pen.ex
    refine ⟨⟨a', spot, rest, by rw [upd_ne (Ne.symm hxt)]; exact q1, ?_, q3⟩, tabs_ins I.pen.tab (I.gh _ _ e), nt_upd (fun _ z => by cases z) I.pen.nt⟩
    rw [upd_ne (fun z => by rw [z, e] at q2; cases q2)]; exact q2
  · rw [ep]
    exact FsR.push (FvR.put e hv) (FsR.put e hs)
  · have : b ≠ x := fun z => by rw [z, gx] at h; cases h
    rw [upd_ne this]; exact I.g _ _ h
  · have : b ≠ x := fun z => by rw [z, I.x1] at h; cases h
    rw [upd_ne this]; exact I.h _ _ hb no h
  · have : b ≠ x := fun z => by rw [z, I.x1] at hb; cases hb
    rw [upd_ne this]; exact I.nn _ _ no hb hg
theorem Ini.start (gh : Same G H1) (gt : ∀ b, Fx c t b → G b = none) (pen : PenOk c t H1 G n) (nx : H1 x = none) (ndx : H1 dx = none) (ne : dx ≠ x) : Ini c C t H1 G x dx n [] (upd (upd H1 dx (.own x)) x (.ins C dx [])) (upd G x (.ins C dx [])) := by
  have gx : G x = none := gh.free nx
  have xx := pen.fresh nx
  have up : ∀ b o, H1 b = some o → upd (upd H1 dx (.own x)) x (.ins C dx []) b = some o := fun b o e => by
    rw [upd_ne (ne_of_none e nx), upd_ne (ne_of_none e ndx)]; exact e
  refine ⟨fun b o h => ?_, fun b hx => by rw [upd_ne (fun z : b = x => xx (by rw [← z]; exact hx))]; exact gt b hx, pen.keep (up t) (same_new gx) (fun T => T.ext up) (nt_upd (fun _ z => by cases z)), ⟨[], upd_same, by simp only [FsR]⟩, same_new gx, fun b o _ _ h => up b o h, fun b o no hb hg => ?_, nx, gx⟩
  · unfold upd at h
    by_cases hb : b = x
    · rw [if_pos hb] at h; rw [hb, upd_same]; exact h
    · rw [if_neg hb] at h; exact up _ _ (gh _ _ h)
  · have : b ≠ x := fun z => by rw [z, nx] at hb; cases hb
    rw [upd_ne this]; exact hg
theorem RpS.obj {σ : St} {ds : Env} {Gi : Hp} (r : RpS c t Gi σ (some (.adr x) :: ds)) (ob : ∃ vs, Gi x = some (.ins C dx vs) ∧ FsR c.K Gi fs vs) : RpS c t Gi σ (some (.obj C fs) :: ds) := by
  refine ⟨r.1, fun i d h => ?_⟩
  cases i with
  | zero =>
    simp at h; subst h
    obtain ⟨v, h1, h2⟩ := r.2 0 (.adr x) rfl
    simp only [Rp] at h2
    subst h2
    obtain ⟨vs, q1, q2⟩ := ob
    exact ⟨_, h1, by simp only [Rp]; exact ⟨x, dx, vs, rfl, q1, q2⟩⟩
  | succ i => exact r.2 (i + 1) d (by simpa using h)
theorem RpS.drop {σ : St} {ds : Env} {Gi G' : Hp} (r : RpS c t Gi σ (some (.adr x) :: ds)) : RpS c t G' σ (some (.adr x) :: List.replicate ds.length none) := by
  refine ⟨by rw [r.1]; simp, fun i d h => ?_⟩
  cases i with
  | zero =>
    simp at h; subst h
    obtain ⟨v, h1, h2⟩ := r.2 0 (.adr x) rfl
    simp only [Rp] at h2
    exact ⟨v, h1, by simp only [Rp]; exact h2⟩
  | succ i =>
    simp only [List.getElem?_cons_succ, List.getElem?_replicate] at h
    split at h <;> cases h
theorem init_fld {te : TE} {we : WE} {f : Str} {a : FV} {σ : St} {ds : Env} {E : Ends} (hS : Snd c.n te we) (cl : Cls c.K C) (hf : NoAttr c.K C f) (hk : f ∉ fs.map (·.1)) (hl : fs.length < 1000) (I : Ini c C t H1 G x dx n fs H Gi) (r : RpS c t Gi σ (some (.adr x) :: ds))
    (w : we (some (.obj C fs) :: ds) [] n fun d μ n' => d = fvD a ∧ μ = [] ∧ n' = n)
    (k : ∀ H' G', Ini c C t H1 G x dx n (fs ++ [(f, a)]) H' G' → RpS c t G' σ (some (.adr x) :: List.replicate ds.length none) → E.nx σ H') : sFld c.K (tVar 0) te f E σ H := by
  refine hS t H Gi H Gi σ _ [] n _ _ (r.obj I.ob) I.s w fun v H2 G2 d μ n2 s2 g2 rv ⟨e1, e2, e3⟩ => ?_
  subst e1 e2 e3
  have I2 := I.go s2
  obtain ⟨vs, q1, q2⟩ := I2.ob
  obtain ⟨u, h1, h2⟩ := r.2 0 (.adr x) rfl
  simp only [Rp] at h2
  subst h2
  refine ⟨_, h1, x, C, dx, vs, rfl, I2.gh _ _ q1, cl, hf, ?_, k _ _ (I2.put q1 q2 (fv_of rv) hk) r.drop⟩
  have : vs.length = fs.length := by have := congrArg List.length q2.keys; simpa using this
  omega
/-- an attribute of it -/
def wOF (C : Addr) (f : Str) (we : WE) : WE := fun ds μ n Q => we ds μ n fun d μ1 n1 => ∃ fs a, d = .obj C fs ∧ fs.lookup f = some a ∧ Q (fvD a) μ1 n1
theorem snd_of {c : Cn} {te : TE} {we : WE} {f : Str} (cl : Cls c.K C) (hn : NoAttr c.K C f) (h : Snd c te we) : Snd c (tFld c.K te f) (wOF C f we) := fun t H0 G0 H G σ ds μ n Q Qd r s w k =>
  h t H0 G0 H G σ ds μ n _ _ r s w fun v H1 G1 d μ1 n1 s1 g1 rv ⟨fs, a, e, l, q⟩ => by
    subst e
    simp only [Rp] at rv
    obtain ⟨x, dx, vs, rfl, h1, h2⟩ := rv
    obtain ⟨u, hu, ru⟩ := h2.look l
    exact ⟨x, C, dx, vs, u, rfl, s1.gh _ _ h1, cl, hn, hu, (k.mono g1).now s1 (of_fv ru) q⟩
theorem Ini.row {ns : List Int} (I : Ini c c.R t H1 G x dx n [("numbers", .tup ns), ("many", .int ns.length), ("total", .int ns.sum), ("marks", .tup (marksOf ns)), ("is_lot", .bl (isLot ns))] H Gi) : Rp c t Gi (.row ns) (.ref x) := by
  obtain ⟨vs, h1, h2⟩ := I.ob
  simp only [FsR, FvR] at h2
  obtain ⟨_, _, rfl, ⟨tn, rfl, q1⟩, _, _, rfl, rfl, _, _, rfl, rfl, _, _, rfl, ⟨tm, rfl, q2⟩, _, _, rfl, rfl, rfl⟩ := h2
  simp only [Rp]
  exact ⟨x, dx, tn, tm, rfl, h1, q1, q2⟩
theorem Ini.stp (I : Ini c C t H1 G x dx n fs H Gi) : Stp c t H1 G H Gi n := ⟨I.g, I.gh, I.gt, I.pen, I.h, I.nn⟩
end
theorem fn_raw {K : PySem.W.Frag} {P : Program} {w : World} {mg : Str → Option Value} {base : Heap} {x qual : Str} {params : Arguments} {body : List Stmt} {scope : Scope} {f : Addr} {fd : FuncData} {N ps : List Str} {k : Nat} {sp : Sp}
    (Fn : FunD K x qual params body scope [] [] f fd) (Sc : FnScope N ps scope) (len : ∀ vs H Q E, sp vs H Q E → vs.length = ps.length)
    (hb : ∀ (cdv : Value) (A : Around) (outer : List PySem.Env) (s : Shared) (H : Hp) (E : XK), Room k (A.deeper (envOfC qual scope s.heap.objs.size f cdv)) →
      ∃ t, PSs (cxOf CX0 P w K mg base N qual scope f cdv A outer s H E).nox body t ∧ ∀ vs Q, sp vs H Q E → t { nx := fun _ H' => Q .non H', rt := Q } (L2.start N vs) H) :
    FnOk P w K mg base CX0 (k + 1) f fd ps sp := by
  refine Fn.ok Sc len fun cdv A outer s H vs Q E hr h => ?_
  obtain ⟨tr, hp, hw⟩ := hb cdv A outer s H E hr
  exact ⟨tr, hp.nox, hw vs Q h⟩
theorem lkn {a : FV} {r : List (Str × FV)} : List.lookup ("numbers" : Str) (("numbers", a) :: r) = some a := by rw [List.lookup_cons, beq_self_eq_true]
theorem lkm {a b d e : FV} {r : List (Str × FV)} : List.lookup ("marks" : Str) (("numbers", a) :: ("many", b) :: ("total", d) :: ("marks", e) :: r) = some e := by
  rw [List.lookup_cons, sq4, List.lookup_cons, sq5, List.lookup_cons, sq6, List.lookup_cons, beq_self_eq_true]
end Dp

set_option Elab.async false
set_option linter.all false
set_option maxRecDepth 100000
set_option maxHeartbeats 4000001
namespace Dp
open PySem PySem.Spec PyProof.Rows L2
/-! ### the tray of a law -/
section
variable {c : Cn}
def wPen0 (we : WE) (cells : List Int) : WE := fun ds μ n Q => we ds μ n fun d μ1 n1 => d = .pen ∧ Q (.lst (cells.map D.int)) μ1 n1
def wPen1 (we : WE) : WE := fun ds μ n Q => we ds μ n fun d μ1 n1 => d = .pen ∧ ∀ s : Int, 0 ≤ s → s + n1 ≤ 1000000 → Q (.int s) μ1 n1
def wPen2 (we : WE) : WE := fun ds μ n Q => we ds μ n fun d μ1 n1 => d = .pen ∧ ∀ r : Int, 0 ≤ r → Q (.int r) μ1 n1
theorem snd_pen0 {te : TE} {we : WE} (h : Snd c te we) : Snd c (tOp (rIx c.K) te (tC (.int 0))) (wPen0 we c.cells) := fun t H0 G0 H G σ ds μ n Q Qd r s w k =>
  h t H0 G0 H G σ ds μ n _ _ r s w fun v H1 G1 d μ1 n1 s1 g1 rv ⟨e, q⟩ => by
    subst e
    simp only [Rp] at rv
    subst rv
    obtain ⟨a, spot, rest, h1, h2, h3⟩ := s1.pen.ex
    exact .inl ⟨t, _, 0, _, rfl, rfl, SqL.of h1, rfl, (k.mono g1).now s1 (Rp.lstNew h2 (rpl_ints.mpr rfl)) q⟩
theorem snd_pen1 {te : TE} {we : WE} (h : Snd c te we) : Snd c (tOp (rIx c.K) te (tC (.int 1))) (wPen1 we) := fun t H0 G0 H G σ ds μ n Q Qd r s w k =>
  h t H0 G0 H G σ ds μ n _ _ r s w fun v H1 G1 d μ1 n1 s1 g1 rv ⟨e, q⟩ => by
    subst e
    simp only [Rp] at rv
    subst rv
    obtain ⟨a, spot, rest, h1, h2, h3, h4, h5⟩ := s1.pen.ex
    exact .inl ⟨t, _, 1, _, rfl, rfl, SqL.of h1, rfl, (k.mono g1).now s1 (by simp only [Rp]) (q spot h3 h4)⟩
theorem snd_pen2 {te : TE} {we : WE} (h : Snd c te we) : Snd c (tOp (rIx c.K) te (tC (.int 2))) (wPen2 we) := fun t H0 G0 H G σ ds μ n Q Qd r s w k =>
  h t H0 G0 H G σ ds μ n _ _ r s w fun v H1 G1 d μ1 n1 s1 g1 rv ⟨e, q⟩ => by
    subst e
    simp only [Rp] at rv
    subst rv
    obtain ⟨a, spot, rest, h1, h2, h3, h4, h5⟩ := s1.pen.ex
    exact .inl ⟨t, _, 2, _, rfl, rfl, SqL.of h1, rfl, (k.mono g1).now s1 (by simp only [Rp]) (q rest h5)⟩
theorem S.tray {t : Addr} {H0 G0 H G : Hp} {μ : Mu} {n m : Nat} (s : S c t H0 G0 H G μ n) {o : HO} (p : PenOk c t (upd H t o) G m) : S c t H0 G0 (upd H t o) G μ m := by
  refine ⟨⟨fun b u e => ?_, s.gt, p, fun e he => ?_, s.g0, fun b u hb no e => by rw [upd_ne (fun z => hb (.inl z))]; exact s.h0 b u hb no e, s.n0⟩, s.adm⟩
  · have : b ≠ t := fun z => by rw [z, s.gt t (.inl rfl)] at e; cases e
    rw [upd_ne this]; exact s.gh _ _ e
  · obtain ⟨h1, h2, h3, vs, h4, h5⟩ := s.own e he
    exact ⟨h1, h2, h3, vs, by rw [upd_ne h1]; exact h4, h5⟩
def wPenS1 (we wo : WE) : WS := fun De ds μ n => we ds μ n fun d μ1 n1 => wo ds μ1 n1 fun o μ2 n2 => ∃ v m, d = .int v ∧ o = .pen ∧ 0 ≤ v ∧ v + (m : Nat) ≤ 1000000 ∧ De.nx ds μ2 m
def wPenS2 (we wo : WE) : WS := fun De ds μ n => we ds μ n fun d μ1 n1 => wo ds μ1 n1 fun o μ2 n2 => ∃ v, d = .int v ∧ o = .pen ∧ 0 ≤ v ∧ De.nx ds μ2 n2
theorem sndS_pen1 {te to : TE} {we wo : WE} (h : Snd c te we) (ho : Snd c to wo) : SndS c (tAsg te (gSub to (tC (.int 1)) rSetL)) (wPenS1 we wo) := fun t H0 G0 H G σ ds μ n De E r s k1 k2 k3 k4 w =>
  h t H0 G0 H G σ ds μ n _ _ r s w fun v H1 G1 d μ1 n1 s1 g1 rv w1 =>
    ho t H0 G0 H1 G1 σ ds μ1 n1 _ _ (r.mono g1) s1 w1 fun o H2 G2 od μ2 n2 s2 g2 ro ⟨i, m, e1, e2, h1, h2, q⟩ => by
      subst e1 e2
      simp only [Rp] at rv ro
      subst rv ro
      obtain ⟨a, spot, rest, q1, q2, q3, q4, q5⟩ := s2.pen.ex
      refine ⟨t, _, 1, 1, rfl, rfl, q1, rfl, ?_⟩
      exact k1 σ _ G2 ds _ m ((r.mono g1).mono g2) (s2.tray ⟨⟨a, i, rest, upd_same, q2, h1, h2, q5⟩, tabs_put s2.pen.tab q1, s2.pen.nt⟩) q
theorem sndS_pen2 {te to : TE} {we wo : WE} (h : Snd c te we) (ho : Snd c to wo) : SndS c (tAsg te (gSub to (tC (.int 2)) rSetL)) (wPenS2 we wo) := fun t H0 G0 H G σ ds μ n De E r s k1 k2 k3 k4 w =>
  h t H0 G0 H G σ ds μ n _ _ r s w fun v H1 G1 d μ1 n1 s1 g1 rv w1 =>
    ho t H0 G0 H1 G1 σ ds μ1 n1 _ _ (r.mono g1) s1 w1 fun o H2 G2 od μ2 n2 s2 g2 ro ⟨i, e1, e2, h1, q⟩ => by
      subst e1 e2
      simp only [Rp] at rv ro
      subst rv ro
      obtain ⟨a, spot, rest, q1, q2, q3, q4, q5⟩ := s2.pen.ex
      refine ⟨t, _, 2, 2, rfl, rfl, q1, rfl, ?_⟩
      exact k1 σ _ G2 ds _ n2 ((r.mono g1).mono g2) (s2.tray ⟨⟨a, spot, i, upd_same, q2, q3, q4, h1⟩, tabs_put s2.pen.tab q1, s2.pen.nt⟩) q
end
section
variable {μ : Mu} {n : Nat} {Q : KD}
theorem dv_int_int {i : Int} : rdInt [.int i] μ n Q = Q (.int i) μ n := rfl
theorem dv_int_bl {b : Bool} : rdInt [.bl b] μ n Q = Q (.int (if b = true then 1 else 0)) μ n := rfl
theorem dv_abs {i : Int} : rdAbs [.int i] μ n Q = Q (.int (if i < 0 then -i else i)) μ n := rfl
theorem dv_i0 {f : Int → Int → D} {i j : Int} : rdI0 f (.int i) (.int j) μ n Q = Q (f i j) μ n := rfl
theorem dv_i2 {cd : Int → Int → Prop} {f : Int → Int → D} {i j : Int} : rdI2 cd f (.int i) (.int j) μ n Q = (cd i j ∧ Q (f i j) μ n) := rfl
theorem dv_ne0_lst0 {a : List Int} : rdNe0 (.lst (a.map D.int)) (.lst []) μ n Q = Q (.bl (!decide (a = []))) μ n := dv_ne0 (eqok_lst (ys := [])) fun _ z => by cases z
theorem dv_eq0_lst0 {a : List Int} : rdEq0 (.lst (a.map D.int)) (.lst []) μ n Q = Q (.bl (decide (a = []))) μ n := dv_eq0 (eqok_lst (ys := [])) fun _ z => by cases z
end
end Dp

set_option Elab.async false
set_option linter.all false
set_option maxRecDepth 100000
set_option maxHeartbeats 4000001
namespace Dp
open PySem PySem.Spec PyProof.Rows L2
theorem cdv_of {i m : Int} (h1 : 1 ≤ m) (h2 : m < 1000000) : CDv i m := .inl ⟨by omega, by omega⟩
theorem cmulL {i j : Int} (h1 : -1000000000000000000 ≤ i) (h2 : i ≤ 1000000000000000000) : CMul i j ∨ CMulW i j := .inl (.inl ⟨by omega, by omega⟩)
theorem cmulR {i j : Int} (h1 : -1000000000000000000 ≤ j) (h2 : j ≤ 1000000000000000000) : CMul i j ∨ CMulW i j := .inl (.inr ⟨by omega, by omega⟩)
theorem mulB {a b A B : Int} (h1 : 0 ≤ a) (h2 : a ≤ A) (h3 : 0 ≤ b) (h4 : b ≤ B) : 0 ≤ a * b ∧ a * b ≤ A * B := ⟨Int.mul_nonneg h1 h3, Int.mul_le_mul h2 h4 h3 (by omega)⟩
theorem draw_tail {z s m : Int} {Q : Int → Prop} (hs0 : 0 ≤ s) (hs1 : s ≤ 1000000) (h1 : 1 ≤ m) (q : ∀ d, 0 ≤ d → d < m → Q d) :
    (0 : Int) < 2147483549 ∧ (CMul 53077 s ∨ CMulW 53077 s) ∧ CPow (z % 2147483549 + 53077 * s + 7129) 5 ∧ (0 : Int) < 2147483563 ∧ (CMul 2 s ∨ CMulW 2 s) ∧
      (CMul ((z % 2147483549 + 53077 * s + 7129) ^ Int.toNat 5 % 2147483563) (2 * s + 1433) ∨ CMulW ((z % 2147483549 + 53077 * s + 7129) ^ Int.toNat 5 % 2147483563) (2 * s + 1433)) ∧
      (CMul 39161 s ∨ CMulW 39161 s) ∧ (CMul (39161 * s) s ∨ CMulW (39161 * s) s) ∧
      CPow ((z % 2147483549 + 53077 * s + 7129) ^ Int.toNat 5 % 2147483563 * (2 * s + 1433) + 39161 * s * s + 53077) 3 ∧ (0 : Int) < 2147483579 ∧
      CDv (((z % 2147483549 + 53077 * s + 7129) ^ Int.toNat 5 % 2147483563 * (2 * s + 1433) + 39161 * s * s + 53077) ^ Int.toNat 3 % 2147483579) 64 ∧ 0 < m ∧
      Q (((z % 2147483549 + 53077 * s + 7129) ^ Int.toNat 5 % 2147483563 * (2 * s + 1433) + 39161 * s * s + 53077) ^ Int.toNat 3 % 2147483579 / 64 % m) := by
  have z1 := Int.emod_nonneg z (show (2147483549 : Int) ≠ 0 by decide)
  have z2 := Int.emod_lt_of_pos z (show (0 : Int) < 2147483549 by decide)
  generalize z % 2147483549 = y at *
  have m1 := Int.emod_nonneg ((y + 53077 * s + 7129) ^ Int.toNat 5) (show (2147483563 : Int) ≠ 0 by decide)
  have m2 := Int.emod_lt_of_pos ((y + 53077 * s + 7129) ^ Int.toNat 5) (show (0 : Int) < 2147483563 by decide)
  generalize (y + 53077 * s + 7129) ^ Int.toNat 5 % 2147483563 = M at *
  have p1 := mulB (A := 2147483563) (B := 2001433) m1 (by omega) (show 0 ≤ 2 * s + 1433 by omega) (by omega)
  have p2 := mulB (A := 39161000000) (B := 1000000) (show 0 ≤ 39161 * s by omega) (by omega) hs0 hs1
  refine ⟨by decide, cmulL (by decide) (by decide), ⟨by decide, by decide, by omega⟩, by decide, cmulL (by decide) (by decide), cmulR (by omega) (by omega), cmulL (by decide) (by decide), cmulR (by omega) (by omega), ⟨by decide, by decide, by omega⟩, by decide, .inl ⟨by decide, by decide⟩, by omega, q _ (Int.emod_nonneg _ (by omega)) (Int.emod_lt_of_pos _ (by omega))⟩
theorem draw_all {z s m L : Int} {Q : Int → Prop} (hs0 : 0 ≤ s) (hs1 : s ≤ 1000000) (h1 : 1 ≤ m) (h2 : m < 1000000) (q : ∀ d, 0 ≤ d → d < m → Q d) :
    if decide (s < L) = true then
      CPow 10 18 ∧ if decide (10 ^ Int.toNat 18 ≤ if z < 0 then -z else z) = true then
          CPow 10 18 ∧ (CMul 2 ((if z < 0 then -z else z) - 10 ^ Int.toNat 18) ∨ CMulW 2 ((if z < 0 then -z else z) - 10 ^ Int.toNat 18)) ∧
            CDv (2 * ((if z < 0 then -z else z) - 10 ^ Int.toNat 18) + if decide (z < 0) = true then 1 else 0) m ∧
            0 ≤ (2 * ((if z < 0 then -z else z) - 10 ^ Int.toNat 18) + if decide (z < 0) = true then 1 else 0) / m ∧ 0 < m ∧
            Q ((2 * ((if z < 0 then -z else z) - 10 ^ Int.toNat 18) + if decide (z < 0) = true then 1 else 0) % m)
        else
    (0 : Int) < 2147483549 ∧ (CMul 53077 s ∨ CMulW 53077 s) ∧ CPow (z % 2147483549 + 53077 * s + 7129) 5 ∧ (0 : Int) < 2147483563 ∧ (CMul 2 s ∨ CMulW 2 s) ∧
      (CMul ((z % 2147483549 + 53077 * s + 7129) ^ Int.toNat 5 % 2147483563) (2 * s + 1433) ∨ CMulW ((z % 2147483549 + 53077 * s + 7129) ^ Int.toNat 5 % 2147483563) (2 * s + 1433)) ∧
      (CMul 39161 s ∨ CMulW 39161 s) ∧ (CMul (39161 * s) s ∨ CMulW (39161 * s) s) ∧
      CPow ((z % 2147483549 + 53077 * s + 7129) ^ Int.toNat 5 % 2147483563 * (2 * s + 1433) + 39161 * s * s + 53077) 3 ∧ (0 : Int) < 2147483579 ∧
      CDv (((z % 2147483549 + 53077 * s + 7129) ^ Int.toNat 5 % 2147483563 * (2 * s + 1433) + 39161 * s * s + 53077) ^ Int.toNat 3 % 2147483579) 64 ∧ 0 < m ∧
      Q (((z % 2147483549 + 53077 * s + 7129) ^ Int.toNat 5 % 2147483563 * (2 * s + 1433) + 39161 * s * s + 53077) ^ Int.toNat 3 % 2147483579 / 64 % m)
    else
    (0 : Int) < 2147483549 ∧ (CMul 53077 s ∨ CMulW 53077 s) ∧ CPow (z % 2147483549 + 53077 * s + 7129) 5 ∧ (0 : Int) < 2147483563 ∧ (CMul 2 s ∨ CMulW 2 s) ∧
      (CMul ((z % 2147483549 + 53077 * s + 7129) ^ Int.toNat 5 % 2147483563) (2 * s + 1433) ∨ CMulW ((z % 2147483549 + 53077 * s + 7129) ^ Int.toNat 5 % 2147483563) (2 * s + 1433)) ∧
      (CMul 39161 s ∨ CMulW 39161 s) ∧ (CMul (39161 * s) s ∨ CMulW (39161 * s) s) ∧
      CPow ((z % 2147483549 + 53077 * s + 7129) ^ Int.toNat 5 % 2147483563 * (2 * s + 1433) + 39161 * s * s + 53077) 3 ∧ (0 : Int) < 2147483579 ∧
      CDv (((z % 2147483549 + 53077 * s + 7129) ^ Int.toNat 5 % 2147483563 * (2 * s + 1433) + 39161 * s * s + 53077) ^ Int.toNat 3 % 2147483579) 64 ∧ 0 < m ∧
      Q (((z % 2147483549 + 53077 * s + 7129) ^ Int.toNat 5 % 2147483563 * (2 * s + 1433) + 39161 * s * s + 53077) ^ Int.toNat 3 % 2147483579 / 64 % m) := by
  generalize (if z < 0 then -z else z) = A
  have hbit : (0 : Int) ≤ if decide (z < 0) = true then 1 else 0 := by split <;> omega
  generalize (if decide (z < 0) = true then (1 : Int) else 0) = e at *
  by_cases hL : decide (s < L) = true
  · rw [if_pos hL]
    refine ⟨⟨by decide, by decide, by decide⟩, ?_⟩
    by_cases hb : decide (10 ^ Int.toNat 18 ≤ A) = true
    · rw [if_pos hb]
      have hb := of_decide_eq_true hb
      generalize (10 : Int) ^ Int.toNat 18 = B at *
      exact ⟨⟨by decide, by decide, by decide⟩, cmulL (by decide) (by decide), cdv_of h1 h2, Int.ediv_nonneg (by omega) (by omega), by omega, q _ (Int.emod_nonneg _ (by omega)) (Int.emod_lt_of_pos _ (by omega))⟩
    · rw [if_neg hb]; exact draw_tail hs0 hs1 h1 q
  · rw [if_neg hL]; exact draw_tail hs0 hs1 h1 q
mutual
theorem frz_nil : ∀ d : D, frz [] d = d
  | .own p => by simp only [frz, List.lookup]
  | .lst xs => by simp only [frz, frzL_nil xs]
  | .tup xs => by simp only [frz, frzL_nil xs]
  | .non => by simp only [frz]
  | .bl _ => by simp only [frz]
  | .int _ => by simp only [frz]
  | .str _ => by simp only [frz]
  | .row _ => by simp only [frz]
  | .pen => by simp only [frz]
  | .ty _ => by simp only [frz]
  | .adr _ => by simp only [frz]
  | .obj _ _ => by simp only [frz]
  | .dic => by simp only [frz]
  | .exc _ _ _ => by simp only [frz]
theorem frzL_nil : ∀ ds : List D, frzL [] ds = ds
  | [] => by simp only [frzL]
  | d :: ds => by simp only [frzL, frz_nil d, frzL_nil ds]
end
/-- a comprehension over a range, each item an int that is drawn -/
theorem lc_ints {wi : WI} {g : WG} {wt : WT} {we : WE} {vs : List Nat} {ds : Env} {μ μ1 : Mu} {n n1 : Nat} {Q : KD} (m : Nat) (hi : ∀ k, k (rngD 0 m) μ1 n1 → wi ds μ n k) (hl : m ≤ 1000) (hn : 2 * m ≤ n1)
    (step : ∀ (i : Nat) (p : Addr) (acc : List D) (n' : Nat) (J : List D → Nat → Prop), i < m → 2 ≤ n' → (∀ e ∈ μ1, e.1 ≠ p) → (∀ (x : Int) (n'' : Nat), -100 ≤ x → x ≤ 100 → n' ≤ n'' + 2 → J (acc ++ [.int x]) n'') →
      g (.int (0 + (i : Nat))) (wipeE ds vs) fun ds2 => wt ds2 ((p, acc) :: μ1) n' fun b μ2 n2 => μ2 = (p, acc) :: μ1 ∧ if b = true then we ds2 μ2 n2 fun y μ3 n3 => μ3 = (p, acc) :: μ1 ∧ J (acc ++ [y]) n3 else J acc n2)
    (q : ∀ (ns : List Int) (n' : Nat), ns.length = m → (∀ x ∈ ns, -100 ≤ x ∧ x ≤ 100) → n1 ≤ n' + 2 * m → Q (.lst (ns.map D.int)) μ1 n') : wLc wi g wt we vs ds μ n Q := by
  refine lc_j (items := rngD 0 m) (μ1 := μ1) (n1 := n1) (fun i acc n' => ∃ ns : List Int, acc = ns.map D.int ∧ ns.length = i ∧ (∀ x ∈ ns, -100 ≤ x ∧ x ≤ 100) ∧ n1 ≤ n' + 2 * i) hi (by rw [rngD_len]; omega) ⟨[], rfl, rfl, fun x hx => (by cases hx), by omega⟩ ?_ ?_
  · rintro i d p acc n' J hd hlt hp ⟨ns, rfl, hlen, hb, hn'⟩ hJ
    rw [rngD_len] at hlt
    rw [rngD_get hlt] at hd
    cases hd
    refine step i p _ n' J hlt (by omega) hp fun x n'' b1 b2 hn'' => hJ _ _ ⟨ns ++ [x], by rw [List.map_append]; rfl, by simp [hlen], fun y hy => ?_, by omega⟩
    rcases List.mem_append.mp hy with hy | hy
    · exact hb y hy
    · rw [List.mem_singleton] at hy; subst hy; exact ⟨b1, b2⟩
  · rintro acc n' ⟨ns, rfl, hlen, hb, hn'⟩
    rw [rngD_len] at hlen hn'
    exact q ns n' hlen hb hn'
end Dp

set_option Elab.async false
set_option linter.all false
set_option maxRecDepth 100000
set_option maxHeartbeats 4000001
namespace Dp
open PySem PySem.Spec PyProof.Rows L2
/-! facts of rows, added and multiplied -/
abbrev za (a b : List Int) : List Int := List.zipWith (fun x y => x + y) a b
abbrev zm (a : List Int) (k : Int) : List Int := a.map fun x => x * k
theorem za_len {a b : List Int} (h : a.length = b.length) : (za a b).length = a.length := by unfold za; rw [List.length_zipWith, h, Nat.min_self]
theorem za_nt {a b : List Int} {i : Nat} (h : a.length = b.length) (hi : i < a.length) : nt (za a b) i = nt a i + nt b i := by
  refine nt_get ?_
  unfold za
  rw [List.getElem?_zipWith, nt_lt hi, nt_lt (show i < b.length by omega)]
theorem map_nt {a : List Int} {f : Int → Int} {i : Nat} (hi : i < a.length) : nt (a.map f) i = f (nt a i) := by
  refine nt_get ?_
  rw [List.getElem?_map, nt_lt hi]; rfl
theorem zm_nt {a : List Int} {k : Int} {i : Nat} (hi : i < a.length) : nt (zm a k) i = nt a i * k := map_nt hi
theorem rep_nt {m : Nat} {k : Int} {i : Nat} (hi : i < m) : nt (List.replicate m k) i = k := by
  refine nt_get ?_
  rw [List.getElem?_replicate, if_pos hi]
theorem e_comm {a b : List Int} (h : a.length = b.length) : za a b = za b a := ext_nt (by rw [za_len h, za_len h.symm, h]) fun i hi => by
  rw [za_len h] at hi
  rw [za_nt h hi, za_nt h.symm (by omega), Int.add_comm]
theorem e_times {a : List Int} {k : Int} : zm a k = a.map fun x => k * x := List.map_congr_left fun x _ => Int.mul_comm _ _
theorem e_tsum {k : Int} : ∀ {a : List Int}, (zm a k).sum = k * a.sum
  | [] => by simp
  | x :: a => by
    have := e_tsum (k := k) (a := a)
    unfold zm at this ⊢
    rw [List.map_cons, List.sum_cons, List.sum_cons, this, Int.mul_add, Int.mul_comm x k]
theorem marks_zero : ∀ (m k : Nat), marksFrom k (List.replicate m 0) = []
  | 0, k => rfl
  | m + 1, k => by
    rw [List.replicate_succ]; unfold marksFrom
    rw [if_pos rfl]; exact marks_zero m (k + 1)
theorem e_less {a : List Int} : za a (zm a (-1)) = List.replicate a.length 0 := ext_nt (by rw [za_len (by simp)]; simp) fun i hi => by
  rw [za_len (by simp)] at hi
  rw [za_nt (by simp) hi, zm_nt hi, rep_nt hi]; omega
theorem e_less_marks {a : List Int} : marksOf (za a (zm a (-1))) = [] := by rw [e_less]; exact marks_zero _ _
theorem e_two {a : List Int} : zm a 2 = za a a := ext_nt (by rw [za_len rfl]; simp) fun i hi => by
  have hi : i < a.length := by simpa using hi
  rw [za_nt rfl hi, zm_nt hi]; omega
theorem e_dist {a b : List Int} {k : Int} (h : a.length = b.length) : za (zm a k) (zm b k) = zm (za a b) k := ext_nt (by rw [za_len (by simpa using h), List.length_map, List.length_map, za_len h]) fun i hi => by
  rw [za_len (by simpa using h)] at hi
  have hi : i < a.length := by simpa using hi
  rw [za_nt (by simpa using h) (by simpa using hi), zm_nt hi, zm_nt (show i < b.length by omega), zm_nt (by rw [za_len h]; exact hi), za_nt h hi, Int.add_mul]
theorem e_out {a : List Int} : (a.map fun x => 1 - x) = za (List.replicate a.length 1) (zm a (-1)) := ext_nt (by rw [za_len (by simp)]; simp) fun i hi => by
  have hi : i < a.length := by simpa using hi
  rw [map_nt hi, za_nt (by simp) (by simpa using hi), rep_nt hi, zm_nt hi]; omega
theorem e_whole {a : List Int} : za a (a.map fun x => 1 - x) = List.replicate a.length 1 := ext_nt (by rw [za_len (by simp)]; simp) fun i hi => by
  rw [za_len (by simp)] at hi
  rw [za_nt (by simp) hi, map_nt hi, rep_nt hi]; omega
theorem sum_bound : ∀ {a : List Int} {m : Nat}, a.length ≤ m → (∀ x ∈ a, -100 ≤ x ∧ x ≤ 100) → -(100 * (m : Int)) ≤ a.sum ∧ a.sum ≤ 100 * (m : Int)
  | [], m, _, _ => by rw [List.sum_nil]; omega
  | x :: a, 0, h, _ => by simp at h
  | x :: a, m + 1, h, hb => by
    have h1 := sum_bound (a := a) (m := m) (by simp at h; omega) fun y hy => hb y (List.mem_cons_of_mem _ hy)
    have h2 := hb x List.mem_cons_self
    rw [List.sum_cons]; omega
theorem p_dist {a b c : List Int} (h : a.length = b.length) (h' : b.length = c.length) : rp a (za b c) = za (rp a b) (rp a c) := ext_nt (by rw [za_len (by simp)]; simp) fun i hi => by
  have hi : i < a.length := by simpa using hi
  rw [za_nt (by simp) (by simpa using hi), rp_nt hi, rp_nt hi, rp_nt hi, ← cv_addR]
  exact cv_congr (fun _ _ => rfl) fun j hj => za_nt h' (by omega)
theorem p_times {a b : List Int} {k : Int} : rp (zm a k) b = zm (rp a b) k := ext_nt (by simp) fun i hi => by
  have hi : i < a.length := by simpa using hi
  rw [rp_nt (by simpa using hi), zm_nt (by simpa using hi), rp_nt hi, Int.mul_comm, ← cv_mulL]
  rw [show (zm a k).length = a.length by simp]
  exact cv_congr (fun j hj => by rw [zm_nt hj, Int.mul_comm]) fun _ _ => rfl
theorem p_timesR {a b : List Int} {k : Int} (h : a.length = b.length) : rp a (zm b k) = zm (rp a b) k := by
  rw [rp_comm (by simpa using h), p_times, rp_comm h]
theorem p_turn {a b : List Int} {t : Int} (h0 : 0 < a.length) (hb : b = tab a.length fun k => nt (tab a.length fun k => if k = 0 then 1 else 0) (((k : Int) - t) % (a.length : Int)).toNat) :
    rp a b = tab a.length fun k => nt a (((k : Int) - t) % (a.length : Int)).toNat := by
  subst hb
  refine ext_nt (by simp) fun k hk => ?_
  have hk : k < a.length := by simpa using hk
  have g1 := Int.emod_nonneg t (show (a.length : Int) ≠ 0 by omega)
  have g2 := Int.emod_lt_of_pos t (show (0 : Int) < (a.length : Int) by omega)
  obtain ⟨r, hr⟩ : ∃ r : Nat, t % (a.length : Int) = r := ⟨(t % (a.length : Int)).toNat, by omega⟩
  have em : ∀ k : Nat, k < a.length → (((k : Int) - t) % (a.length : Int)).toNat = (k + (a.length - r)) % a.length := fun k hk => by
    have : ((k : Int) - t) % (a.length : Int) = ((k + (a.length - r) : Nat) : Int) % (a.length : Int) := by
      rw [show ((k + (a.length - r) : Nat) : Int) = (k : Int) - (r : Int) + (a.length : Int) by omega, Int.add_emod_right, ← hr, Int.sub_emod_emod]
    rw [this]; exact rfl
  rw [rp_nt hk, tab_nt hk, em k hk]
  refine cv_mark hk (t := r) (by omega) fun i hi => ?_
  rw [tab_nt hi, em i hi, tab_nt (Nat.mod_lt _ h0)]
  have : (i + (a.length - r)) % a.length = 0 ↔ i = r := by
    have := mod_uniq (m := a.length) (k := 0) (s := i) (a.length - r) h0 hi
    rw [this]
    by_cases hr0 : r = 0
    · subst hr0; rw [Nat.sub_zero, Nat.mod_self, Nat.sub_zero, Nat.zero_add, Nat.mod_self]
    · rw [Nat.mod_eq_of_lt (a := a.length - r) (by omega), show 0 + (a.length - (a.length - r)) = r by omega, Nat.mod_eq_of_lt (by omega)]
  by_cases c : i = r
  · rw [if_pos c, if_pos (this.2 c)]
  · rw [if_neg c, if_neg (fun z => c (this.1 z))]
theorem p_mark {a : List Int} (h0 : 0 < a.length) : rp a (tab a.length fun k => if k = 0 then 1 else 0) = a := by
  refine ext_nt (by simp) fun k hk => ?_
  have hk : k < a.length := by simpa using hk
  rw [rp_nt hk, cv_mark hk (t := 0) h0 fun i hi => tab_nt hi, Nat.sub_zero, Nat.add_mod_right, Nat.mod_eq_of_lt hk]
theorem p_const {a : List Int} {c : Int} : rp a (List.replicate a.length c) = List.replicate a.length (a.sum * c) := by
  refine ext_nt (by simp) fun k hk => ?_
  have hk : k < a.length := by simpa using hk
  rw [rp_nt hk, cv_const hk fun i hi => rep_nt hi, rep_nt hk, sum_nt (xs := a)]
theorem p_one {a : List Int} : rp a (List.replicate a.length 1) = List.replicate a.length a.sum := by rw [p_const, Int.mul_one]
theorem p_zero {a : List Int} : marksOf (rp a (List.replicate a.length 0)) = [] := by rw [p_const, Int.mul_zero]; exact marks_zero _ _
theorem p_out {a b : List Int} (h : a.length = b.length) : rp b (a.map fun x => 1 - x) = za (List.replicate a.length b.sum) (zm (rp a b) (-1)) := by
  rw [e_out, h, p_dist (by simp) (by simp [h]), p_one, p_timesR h.symm, rp_comm h.symm]
theorem rep_ints (a : List Int) (k : Int) : (List.replicate ((a.length : Int)).toNat [D.int k]).flatten = (List.replicate a.length k).map D.int := by
  rw [rep_one, List.map_replicate, Int.toNat_natCast]
theorem two_tups {μ : Mu} {a b : List Int} : EqOk μ (.tup [.tup (a.map D.int), .tup (b.map D.int)]) (.tup [.tup (a.map D.int), .tup (b.map D.int)]) true := by
  refine eqok_same (p := .tuple [.tuple (a.map .int), .tuple (b.map .int)]) (by simp only [pdOf, pd0, pd0L, ints_pd]) ?_
  unfold SeqAt.shaped
  simp only [PyData.canLay0, PyData.canLayAll0, PyData.depth, PyData.depthAll, (ints_lay a).1, (ints_lay a).2, (ints_lay b).1, (ints_lay b).2]
  decide
end Dp

set_option Elab.async false
set_option linter.all false
set_option maxRecDepth 100000
set_option maxHeartbeats 4000000
/-! ### the head: facts of a class of rows, static methods, one Hook -/
namespace Dp
open PySem PySem.Spec PyProof.Rows L2
/-- a static method's record and its def -/
def stP (K : PySem.W.Frag) (p : Str × Option Str) : Addr := He.fAd K p
def stG (K : PySem.W.Frag) (p : Str × Option Str) : Addr := match PySem.W.recIn K (stP K p) "staticmethod" with
  | some (.ref g :: _) => g
  | _ => 0
def stB (K : PySem.W.Frag) (C : Addr) (m : Str) (p g : Addr) : Bool := (match PySem.W.findCls K (.ref C) (.type "type") m with
  | some (.get (.builtin b) (.ref p') .none (.ref C')) => b == "staticmethod.__get__" && (p' == p && C' == C)
  | _ => false) && ((match PySem.W.recIn K p "staticmethod" with
  | some (.ref g' :: _) => g' == g
  | _ => false) && PySem.W.keepIn K (.ref g))
theorem stB_ok {K : PySem.W.Frag} {C p g : Addr} {m : Str} (h : stB K C m p g = true) : SMet K C (.type "type") m p g := by
  obtain ⟨h1, h2⟩ := He.ba h
  obtain ⟨h3, h4⟩ := He.ba h2
  refine ⟨?_, ?_, h4⟩
  · split at h1
    · rename_i b p' C' e
      obtain ⟨g1, g2⟩ := He.ba h1
      obtain ⟨g3, g4⟩ := He.ba g2
      rw [e, eq_of_beq g1, eq_of_beq g3, eq_of_beq g4]
    · cases h1
  · split at h3
    · rename_i g' r e
      exact ⟨r, by rw [e, eq_of_beq h3]⟩
    · cases h3
def crB (K : PySem.W.Frag) (C : Addr) : Bool := PySem.W.readsIn K C (.type "type") && He.eqO (PySem.W.specialIn K (.ref C) "__getattribute__") (some (some (.builtin "type.__getattribute__")))
theorem crB_ok {K : PySem.W.Frag} {C : Addr} (h : crB K C = true) : ClX.CRead K C (.type "type") := ⟨(He.ba h).1, He.eqO_ok (He.ba h).2⟩
def obB (a : Option Bool) (b : Bool) : Bool := match a with
  | some c => c == b
  | none => false
theorem obB_ok {a : Option Bool} {b : Bool} (h : obB a b = true) : a = some b := by
  cases a with
  | none => cases h
  | some c => rw [eq_of_beq (show (c == b) = true from h)]
/-- what a class of rows must have, beside its table of facts -/
def rowB (K : PySem.W.Frag) (R : Addr) : Bool := He.eqO (PySem.W.findIn K (.ref R) "__class__") (some (some (.builtin "object.__class__"))) && (He.eqO (PySem.W.specialIn K (.builtin "object.__class__") "__get__") (some (some (.builtin "getset_descriptor.__get__"))) &&
  (obB (PySem.W.takesIn K (.builtin "object.__class__")) true && (obB (PySem.W.mroIn K R (.type "object")) true && (obB (PySem.W.kitOne K (.ref R) (.ref R)) true && (obB (PySem.W.kitOne K (.ref R) (.type "int")) false && (obB (PySem.W.kitOne K (.ref R) (.type "list")) false &&
  (obB (PySem.W.kitOne K (.ref R) (.type "tuple")) false && obB (PySem.W.kitOne K (.ref R) (.type "str")) false)))))))
/-- facts of Row, in the order that rowT takes them -/
def faRow : List He.Fa := [.cls "Row", .noat "Row" "numbers", .noat "Row" "many", .noat "Row" "total", .noat "Row" "marks", .noat "Row" "is_lot", .mkr "Row", .glo "Row"]
theorem rowT_of {K : PySem.W.Frag} {R : Addr} {cells : List Int} {TT : List (Addr × PySem.Str)} (hR : R = He.ga K "Row") (h : rowB K R = true) (hf : ∀ f ∈ faRow, f.ok K = true) : RowT ⟨K, R, cells, TT⟩ := by
  subst hR
  obtain ⟨h1, h⟩ := He.ba h
  obtain ⟨h2, h⟩ := He.ba h
  obtain ⟨h3, h⟩ := He.ba h
  obtain ⟨h4, h⟩ := He.ba h
  obtain ⟨h5, h⟩ := He.ba h
  obtain ⟨h6, h⟩ := He.ba h
  obtain ⟨h7, h⟩ := He.ba h
  obtain ⟨h8, h9⟩ := He.ba h
  have g : ∀ {f}, f ∈ faRow → f.ok K = true := fun h => hf _ h
  exact ⟨He.cls_ok (g (f := .cls "Row") (by simp [faRow])), He.noat_ok (g (f := .noat "Row" "numbers") (by simp [faRow])), He.noat_ok (g (f := .noat "Row" "many") (by simp [faRow])), He.noat_ok (g (f := .noat "Row" "total") (by simp [faRow])), He.noat_ok (g (f := .noat "Row" "marks") (by simp [faRow])),
    He.noat_ok (g (f := .noat "Row" "is_lot") (by simp [faRow])), He.eqO_ok h1, He.eqO_ok h2, obB_ok h3, obB_ok h4, obB_ok h5, obB_ok h6, obB_ok h7, obB_ok h8, obB_ok h9⟩
/-! ### the Hook: what the library's hookA tells, and one Bool more -/
section
variable (fa : List He.Fa) (fn : List He5.DefA) (xb : PySem.W.Frag → Bool)
def obsY (K : PySem.W.Frag) : He.AlD := ((He5.obsA fa fn K).1 && xb K, (He5.obsA fa fn K).2)
def SaysY (K : PySem.W.Frag) : Prop := obsY fa fn xb K = He5.valA fn
def obsYG (n : Nat) (g : Addr → Option Obj) : He.AlD := obsY fa fn xb (He.frG g (He5.asA g n))
def hookY (n : Nat) : PySem.W.Hook where
  α := He.AlD
  obs := fun s => obsYG fa fn xb n s.heap.get?
  val := fun _ => He5.valA fn
  says := fun _ h => ∃ K : PySem.W.Frag, K.In h ∧ SaysY fa fn xb K
  of := fun _ _ e => ⟨_, He.frG_in, e⟩
  keeps := fun _ _ _ says kept => says.elim fun K two => ⟨K, PySem.W.Frag.In.keeps two.1 kept, two.2⟩
end
section
variable {fa : List He.Fa} {fn : List He5.DefA} {xb : PySem.W.Frag → Bool} {K : PySem.W.Frag}
theorem obsYG_eq {n : Nat} {g : Addr → Option Obj} {s : Shared} (h : ∀ a, g a = s.heap.get? a) : obsYG fa fn xb n g = (hookY fa fn xb n).obs s :=
  congrArg (obsYG fa fn xb n) (funext h)
theorem SaysY.d (c : SaysY fa fn xb K) : He5.SaysA fa fn K ∧ xb K = true := by
  have c1 : ((He5.obsA fa fn K).1 && xb K) = true := congrArg (fun z : He.AlD => z.1) (show obsY fa fn xb K = He5.valA fn from c)
  have c2 : (obsY fa fn xb K).2 = (He5.valA fn).2 := congrArg (fun z : He.AlD => z.2) (show obsY fa fn xb K = He5.valA fn from c)
  exact ⟨Prod.ext (He.ba c1).1 c2, (He.ba c1).2⟩
theorem SaysY.facts (c : SaysY fa fn xb K) {f : He.Fa} (hf : f ∈ fa) : f.ok K = true := (List.mem_iff_getElem.mp hf).elim fun i hi => hi.elim fun hl e =>
  c.d.1.fact i (f := f) (by rw [List.getElem?_eq_getElem hl, e])
end
end Dp

set_option Elab.async false
set_option linter.all false
set_option maxRecDepth 100000
set_option maxHeartbeats 4000001
/-! ### slices backwards: [::-1], [:0:-1] of tuples and lists -/
namespace Dp
open PySem PySem.Spec PyProof.Rows L2
/-- the part behind which is left: none (all), 0 (all but the first) -/
def bkHi : Bool → Option Int
  | true => some 0
  | false => none
def bkN : Bool → Nat
  | true => 1
  | false => 0
theorem bk_adjust (b : Bool) {n : Nat} (hn : 1 ≤ n) : Builtin.Slice.sliceAdjust none (bkHi b) (-1) (n : Int) = ((n : Int) - 1, (bkN b : Int) - 1) := by
  unfold Builtin.Slice.sliceAdjust
  cases b with
  | false => simp [bkHi, bkN]
  | true => simp [bkHi, bkN]; omega
theorem back_places (a h : Int) : Builtin.Slice.slicePlaces a h (-1) = (a - h).toNat := by
  unfold Builtin.Slice.slicePlaces
  rw [if_neg (by decide), show (-(-1 : Int)) = 1 from rfl, Int.ediv_one]
  by_cases c : a > h
  · rw [if_pos c]; omega
  · rw [if_neg c]; omega
theorem bk_places (b : Bool) {n : Nat} (hn : 1 ≤ n) : Builtin.Slice.slicePlaces ((n : Int) - 1) ((bkN b : Int) - 1) (-1) = n - bkN b := by
  rw [back_places]; omega
theorem bk_pick (xs : Array Value) (j : Nat) (hj : j ≤ xs.size) : ((List.range (xs.size - j)).filterMap fun (m : Nat) => xs[(((xs.size : Int) - 1) + (m : Int) * (-1)).toNat]?).toArray = (xs.toList.drop j).reverse.toArray := by
  congr 1
  have key : ∀ k, k ≤ xs.size → ((List.range k).filterMap fun (m : Nat) => xs[(((xs.size : Int) - 1) + (m : Int) * (-1)).toNat]?) = (xs.toList.drop (xs.size - k)).reverse := by
    intro k
    induction k with
    | zero => intro _; simp
    | succ k ih =>
      intro hk
      rw [List.range_succ, List.filterMap_append, ih (by omega)]
      have e : (((xs.size : Int) - 1) + (k : Int) * (-1)).toNat = xs.size - (k + 1) := by omega
      have h1 : xs[xs.size - (k + 1)]? = some xs[xs.size - (k + 1)] := Array.getElem?_eq_getElem (by omega)
      simp only [List.filterMap_cons, List.filterMap_nil, e, h1]
      have h2 : xs.toList.drop (xs.size - (k + 1)) = xs[xs.size - (k + 1)] :: xs.toList.drop (xs.size - k) := by
        rw [List.drop_eq_getElem_cons (by simp; omega)]
        congr 1
        · congr 1; omega
      rw [h2, List.reverse_cons]
  rw [key (xs.size - j) (by omega), show xs.size - (xs.size - j) = j by omega]
section
variable {prog : Program} {w : World} {A : Around} {E : Value → Shared → Prop} {s : Shared}
theorem bk_applied {sl : Addr} {vl vu vs : Value} {b : Bool} {n : Nat} {Q : Int × Int × Nat → Shared → Prop} (hn : 1 ≤ n) (slice : s.heap.IsSliceOf sl vl vu vs) (pl : IsPart vl none) (pu : IsPart vu (bkHi b)) (ps : IsPart vs (some (-1)))
    (good : Q ((n : Int) - 1, -1, n - bkN b) s) : wpAny (model prog w) A (Builtin.Slice.sliceApplied (.ref sl) (pure (n : Int))) Q E s := by
  obtain ⟨ob, hob, _, hdata⟩ := slice
  unfold Builtin.Slice.sliceApplied Builtin.Slice.sliceFields
  refine wpAny_bind (wpAny_bind (wpAny_field hob hdata (x := vl) rfl (wpAny_bind (wpAny_field hob hdata (x := vu) rfl (wpAny_bind (wpAny_field hob hdata (x := vs) rfl (wpAny_pure ?_)))))))
  refine wpAny_bind (HT.slicePart_ ps ?_)
  show wpAny _ _ (if ((-1 : Int) == 0) = true then _ else _) _ _ s
  rw [if_neg (by decide)]
  refine wpAny_bind (HT.slicePart_ pl (wpAny_bind (HT.slicePart_ pu (wpAny_bind (wpAny_pure ?_)))))
  show wpAny _ _ (match Builtin.Slice.sliceAdjust none (bkHi b) (-1) (n : Int) with | (lo, hi) => pure (lo, (-1 : Int), Builtin.Slice.slicePlaces lo hi (-1))) _ _ s
  rw [bk_adjust b hn]
  show wpAny _ _ (pure ((n : Int) - 1, (-1 : Int), Builtin.Slice.slicePlaces ((n : Int) - 1) ((bkN b : Int) - 1) (-1))) _ _ s
  rw [bk_places b hn]
  exact wpAny_pure good
theorem bk_tuple {t sl : Addr} {items : Array Value} {vl vu vs : Value} {b : Bool} {Q : Value → Shared → Prop} (tup : IsTup s.heap t items) (hn : 1 ≤ items.size) (slice : s.heap.IsSliceOf sl vl vu vs) (pl : IsPart vl none) (pu : IsPart vu (bkHi b)) (ps : IsPart vs (some (-1)))
    (good : Q (.ref s.heap.objs.size) { s with heap := s.heap.push { cls := .type "tuple", data := .seq (items.toList.drop (bkN b)).reverse.toArray } }) (fits : items.size ≤ sizeLine) : wpAny (model prog w) A (getItem (.ref t) (.ref sl)) Q E s := by
  have hj : bkN b ≤ items.size := by cases b <;> simp only [bkN] <;> omega
  have small : sizeOk (.seq (items.toList.drop (bkN b)).reverse.toArray) := by
    show ((items.toList.drop (bkN b)).reverse.toArray).size ≤ sizeLine
    rw [List.size_toArray, List.length_reverse, List.length_drop, Array.length_toList]
    omega
  obtain ⟨ob, hob, hcls, hdata⟩ := id slice
  have isSlice : s.TypeIs (.ref sl) "slice" := ⟨ob, hob, hcls⟩
  unfold getItem
  try with_reducible refine wpAny_holding ?_
  first | refine wpAny_bind (wpAny_pure ?_) | skip
  refine wpAny_bind (wpAny_sequenceKey tup.typeIs (by decide) ?_)
  refine wpAny_bind (wpAny_callSpecial?_slot (name := Str.ofString "__getitem__") tup.typeIs PyProof.Rows.slot_tuple_getitem
    (wpAny_call_entry PyProof.Rows.slot_tuple_getitem tup.typeIs PyProof.Rows.entry_tuple_getitem ?_ (PyProof.Rows.args_tuple_getitem _ _)))
  show wpAny _ _ (Builtin.Tuple.tupleItemsOf (.ref t) >>= _) _ _ s
  refine wpAny_bind (PyProof.Rows.tupleItemsOf_ tup ?_)
  refine wpAny_bind (wpAny_typeOf isSlice ?_)
  rw [if_pos (by decide)]
  refine wpAny_bind (bk_applied hn slice pl pu ps ?_)
  have part : ¬ ((((items.size : Int) - 1) == 0 && (-1 : Int) == 1 && (items.size - bkN b) == items.size) = true) := by
    intro q
    rw [Bool.and_eq_true, Bool.and_eq_true] at q
    exact absurd q.1.2 (by decide)
  show wpAny _ _ (if (((items.size : Int) - 1) == 0 && (-1 : Int) == 1 && (items.size - bkN b) == items.size) = true then _ else _) _ _ s
  rw [if_neg part, bk_pick items (bkN b) hj]
  first
    | exact wpAny_bind (m := Builtin.Tuple.tupleExact _) (wpAny_newObj_type (wpAny_pure ⟨_, rfl, wpAny_pure good⟩) small)
    | exact wpAny_bind (m := Builtin.Tuple.tupleExact _) (wpAny_newObj_type (wpAny_bind (wpAny_pure (wpAny_pure ⟨_, rfl, wpAny_pure good⟩))) small)
    | exact wpAny_bind (wpAny_bind (m := Builtin.Tuple.tupleExact _) (wpAny_newObj_type (wpAny_pure (wpAny_pure ⟨_, rfl, wpAny_pure good⟩)) small))
    | exact wpAny_bind (wpAny_bind (m := Builtin.Tuple.tupleExact _) (wpAny_newObj_type (wpAny_pure ⟨_, rfl, wpAny_pure good⟩) small))
end
end Dp
namespace Dp
open PySem PySem.Spec PyProof.Rows L2
theorem bk_bounds (b : Bool) {n : Nat} (hn : 1 ≤ n) : sliceBounds none (bkHi b) (some (-1)) n = ((n : Int) - 1, (bkN b : Int) - 1, -1) := by
  unfold sliceBounds
  cases b with
  | false => simp [bkHi, bkN]
  | true => simp [bkHi, bkN]; omega
theorem bk_range (b : Bool) {n : Nat} (hn : 1 ≤ n) : sliceRange ((n : Int) - 1) ((bkN b : Int) - 1) (-1) = (List.range (n - bkN b)).map fun (k : Nat) => (((n : Int) - 1) + (k : Int) * (-1)).toNat := by
  have down : ¬ ((-1 : Int) > 0) := by decide
  unfold sliceRange
  by_cases c : (n : Int) - 1 > (bkN b : Int) - 1
  · have e : ((n : Int) - 1 - ((bkN b : Int) - 1) - -1 - 1) / (- -1) = ((n - bkN b : Nat) : Int) := by
      rw [show (- -1 : Int) = 1 by decide, Int.ediv_one]; omega
    simp only [down, if_false, c, if_true, e, Int.toNat_natCast]
    exact List.map_congr_left fun k _ => by rw [Int.mul_comm (-1) (k : Int)]
  · have e : n - bkN b = 0 := by omega
    simp only [down, if_false, c, e]
    rfl
theorem bk_list (items : Array Value) (b : Bool) (hn : 1 ≤ items.size) : slicePick items none (bkHi b) (some (-1)) = (items.toList.drop (bkN b)).reverse.toArray := by
  have hj : bkN b ≤ items.size := by cases b <;> simp only [bkN] <;> omega
  unfold slicePick
  rw [bk_bounds b hn]
  show ((sliceRange ((items.size : Int) - 1) ((bkN b : Int) - 1) (-1)).filterMap (items[·]?)).toArray = _
  rw [bk_range b hn, List.filterMap_map]
  exact bk_pick items (bkN b) hj
/-- e[::-1] (b false), e[:0:-1] (b true), of a list or a tuple that is not empty -/
def tBk (K : PySem.W.Frag) (b : Bool) (te : TE) : TE := fun σ H Q => te σ H fun x H1 => ∃ a xs, x = .ref a ∧ 1 ≤ xs.length ∧ ((SqL K H1 a xs ∧ ∀ p, H1 p = none → Q (.ref p) (upd H1 p (.lst (xs.drop (bkN b)).reverse))) ∨
  (SqT K H1 a xs ∧ ∀ p, H1 p = none → Q (.ref p) (upd H1 p (.tup (xs.drop (bkN b)).reverse))))
theorem vals_rev {xs : List V} {us : List Value} (r : Vals xs us) (j : Nat) : Vals (xs.drop j).reverse (us.drop j).reverse := by
  have dr : ∀ {xs : List V} {us : List Value} (j : Nat), Vals xs us → Vals (xs.drop j) (us.drop j) := by
    intro xs us j r
    induction j generalizing xs us with
    | zero => exact r
    | succ j ih => cases r with
      | nil => exact .nil
      | cons h t => exact ih t
  exact (dr j r).reverse
theorem pe_bk {X : Cx} {b : Bool} {e : Expr} {te : TE} {hi : Option Expr} {k : Nat} {p1 p2 p3 pos : Pos} (he : PE X e te) (upper : PO X hi fun _ H Q => Q (bkHi b) H) :
    PE X (.Subscript e (.Slice none hi (some (.UnaryOp .USub (.Constant (.int 1) k p1) p2)) p3) pos) (tBk X.K b te) := by
  refine ⟨fun pins s σ H Q I h => ?_⟩
  refine Subscript_ (thn (he.run pins s σ H _ I h) fun v sA ⟨x, HA, IA, rA, good⟩ => ?_)
  obtain ⟨a, xs, ex, long, good⟩ := good
  subst ex
  cases rA
  have stepPart : PO X (some (.UnaryOp .USub (.Constant (.int 1) k p1) p2)) (tPart (tUn (rU fun i => .int (-i)) (tC (.int 1)))) := po_some (pe_un un_neg pe_int)
  refine wpAny_Slice (thn (po_none.run pins sA σ HA (fun o HB => o = none ∧ HB = HA) IA ⟨rfl, rfl⟩) fun vl sB ⟨_, HB, IB, pl, el, eB⟩ => ?_)
  subst el eB
  refine thn (upper.run pins sB σ HB (fun o HC => o = bkHi b ∧ HC = HB) IB ⟨rfl, rfl⟩) fun vu sC ⟨_, HC, IC, pu, eu, eC⟩ => ?_
  subst eu eC
  refine thn (stepPart.run pins sC σ HC (fun o HE => o = some (-1) ∧ HE = HC) IC ⟨1, rfl, -1, rfl, rfl, rfl⟩) fun vs sD ⟨_, HE, ID, ps, eo, eD⟩ => ?_
  subst eo eD
  have IE : Inv X pins σ HE { sD with heap := sD.heap.push { cls := .type "slice", data := .fields #[vl, vu, vs] } } := ID.kept (t' := sD.toks) fun c oc q => Heap.get?_push_of_some _ q
  show wpAny (model X.prog X.w) X.A (subscriptTail e (.Slice none hi (some (.UnaryOp .USub (.Constant (.int 1) k p1) p2)) p3) (.ref a) (.ref sD.heap.objs.size)) (EP X pins σ Q) X.xe { sD with heap := sD.heap.push { cls := .type "slice", data := .fields #[vl, vu, vs] } }
  rcases good with ⟨hx, good⟩ | ⟨hx, good⟩
  · obtain ⟨its, r, isL, fits⟩ := IE.list hx
    have same := r.length
    refine tail_any (ops := [.ref a, .ref sD.heap.objs.size]) isL.isList.typeIs (PySem.slot_list_getitem.lookup) ?_ (by with_unfolding_all rfl)
    refine wpAny_getItem_list_slice isL.isList (Heap.IsSliceOf.new _ vl vu vs) pl pu ps (by decide) ?_ (by rw [List.size_toArray]; omega)
    rw [bk_list _ b (by rw [List.size_toArray]; omega)]
    refine ⟨.ref _, _, IE.laid (t' := sD.toks) (o := .lst (xs.drop (bkN b)).reverse) (fun c oc q => Heap.get?_push_of_some _ q) (Nat.le_refl _) ?_, rfl, good _ (IE.hok.fresh (Nat.le_refl _))⟩
    exact ⟨by rw [List.length_reverse, List.length_drop]; omega, _, 0, vals_rev r (bkN b), Heap.get?_push_size _ rfl⟩
  · obtain ⟨its, r, isT, fits⟩ := IE.tuple hx
    have same := r.length
    refine tail_any (ops := [.ref a, .ref sD.heap.objs.size]) isT.typeIs (PyProof.Rows.slot_tuple_getitem.lookup) ?_ (by with_unfolding_all rfl)
    refine bk_tuple (b := b) isT (by rw [List.size_toArray]; omega) (Heap.IsSliceOf.new _ vl vu vs) pl pu ps ?_ (by rw [List.size_toArray]; omega)
    refine ⟨.ref _, _, IE.laid (t' := sD.toks) (o := .tup (xs.drop (bkN b)).reverse) (fun c oc q => Heap.get?_push_of_some _ q) (Nat.le_refl _) ?_, rfl, good _ (IE.hok.fresh (Nat.le_refl _))⟩
    exact ⟨by rw [List.length_reverse, List.length_drop]; omega, _, vals_rev r (bkN b), IsTup.new _ _⟩
theorem po_no0 {X : Cx} : PO X none fun _ H Q => Q (bkHi false) H := po_none
theorem po_zero {X : Cx} {k : Nat} {pos : Pos} : PO X (some (.Constant (.int 0) k pos)) fun _ H Q => Q (bkHi true) H := by
  refine ⟨fun pins s σ H Q I h => ?_⟩
  exact (po_some (X := X) pe_int).run pins s σ H Q I ⟨0, rfl, h⟩
section
variable {c : Cn}
def wBk (b : Bool) (we : WE) : WE := fun ds μ n Q => we ds μ n fun d μ1 n1 => ∃ xs, 1 ≤ xs.length ∧ ((d = .lst xs ∧ Q (.lst (xs.drop (bkN b)).reverse) μ1 n1) ∨ (d = .tup xs ∧ Q (.tup (xs.drop (bkN b)).reverse) μ1 n1))
theorem RpL.reverse {t : Addr} {G : Hp} : ∀ {xs : List D} {vs : List V}, RpL c t G xs vs → RpL c t G xs.reverse vs.reverse
  | [], vs, h => by simp only [RpL] at h; subst h; exact RpL.nil
  | x :: xs, vs, h => by
    simp only [RpL] at h
    obtain ⟨v, r, rfl, h2, h3⟩ := h
    rw [List.reverse_cons, List.reverse_cons]
    exact RpL.append (RpL.reverse h3) (RpL.one h2)
theorem snd_bk {te : TE} {we : WE} {b : Bool} (h : Snd c te we) : Snd c (tBk c.K b te) (wBk b we) := fun t H0 G0 H G σ ds μ n Q Qd r s w k =>
  h t H0 G0 H G σ ds μ n _ _ r s w fun v H1 G1 d μ1 n1 s1 g1 rv ⟨xs, long, both⟩ => by
    rcases both with ⟨rfl, q⟩ | ⟨rfl, q⟩
    · simp only [Rp] at rv
      obtain ⟨a, vs, rfl, h1, h2⟩ := rv
      refine ⟨a, vs, rfl, by rw [RpL.len h2]; exact long, .inl ⟨SqL.of (s1.gh _ _ h1), fun p hp => ?_⟩⟩
      have st := s1.new (o := .lst (vs.drop (bkN b)).reverse) hp
      exact k _ _ _ _ _ _ (s1.step st) (Same.trans g1 st.g) (Rp.lstNew upd_same (RpL.mono st.g _ _ (RpL.reverse (RpL.drop _ h2)))) q
    · simp only [Rp] at rv
      obtain ⟨a, vs, rfl, h1, h2⟩ := rv
      refine ⟨a, vs, rfl, by rw [RpL.len h2]; exact long, .inr ⟨Same.tup s1.gh h1, fun p hp => ?_⟩⟩
      have st := s1.new (o := .tup (vs.drop (bkN b)).reverse) hp
      exact k _ _ _ _ _ _ (s1.step st) (Same.trans g1 st.g) (Rp.tupNew upd_same (RpL.mono st.g _ _ (RpL.reverse (RpL.drop _ h2)))) q
end
end Dp

set_option Elab.async false
set_option linter.all false
set_option maxRecDepth 100000
set_option maxHeartbeats 4000001
/-! ### sums round a ring, gone through in another order; turned, mirrored, stretched rows, spans -/
namespace Dp
/-- a map of the beats with one way back -/
theorem Sg_bij {m : Nat} {p q : Nat → Nat} {f : Nat → Int} (hp : ∀ i, i < m → p i < m) (hq : ∀ j, j < m → q j < m) (h : ∀ i j, i < m → j < m → (p i = j ↔ i = q j)) : Sg m (fun i => f (p i)) = Sg m f := by
  have e : Sg m (fun i => f (p i)) = Sg m fun i => Sg m fun j => if decide (p i = j) = true then f j else 0 := Sg_congr fun i hi => by
    rw [Sg_one (n := m) (k := p i) (p := fun j => decide (p i = j)) (f := f) (hp i hi) (fun j _ => by rw [decide_eq_true_iff]; exact eq_comm)]
  rw [e, Sg_swap]
  refine Sg_congr fun j hj => ?_
  exact Sg_one (n := m) (k := q j) (p := fun i => decide (p i = j)) (f := fun _ => f j) (hq j hj) (fun i hi => by rw [decide_eq_true_iff]; exact h i j hi hj)
theorem Sg_shift {m d : Nat} {f : Nat → Int} (h0 : 0 < m) : Sg m (fun i => f ((i + d) % m)) = Sg m f :=
  Sg_bij (p := fun i => (i + d) % m) (q := fun j => (j + (m - d % m)) % m) (fun _ _ => Nat.mod_lt _ h0) (fun _ _ => Nat.mod_lt _ h0) fun i j hi hj => mod_uniq d hj hi
/-- the beat opposite -/
def ng (m i : Nat) : Nat := (m - i) % m
theorem ng_lt {m i : Nat} (h0 : 0 < m) : ng m i < m := Nat.mod_lt _ h0
theorem ng_ng {m i : Nat} (h : i < m) : ng m (ng m i) = i := by
  unfold ng
  by_cases c : i = 0
  · subst c; rw [Nat.sub_zero, Nat.mod_self, Nat.sub_zero, Nat.mod_self]
  · rw [Nat.mod_eq_of_lt (a := m - i) (by omega), show m - (m - i) = i by omega, Nat.mod_eq_of_lt h]
theorem Sg_mirror {m : Nat} {f : Nat → Int} (h0 : 0 < m) : Sg m (fun i => f (ng m i)) = Sg m f :=
  Sg_bij (p := ng m) (q := ng m) (fun _ _ => ng_lt h0) (fun _ _ => ng_lt h0) fun i j hi hj => ⟨fun h => by rw [← h, ng_ng hi], fun h => by rw [h, ng_ng hj]⟩
/-- a stretch has one that undoes it: gone through, to 24 beats -/
def invOf (m b : Nat) : Nat := ((List.range m).find? fun c => decide (b * c % m = 1 % m)).getD 0
theorem inv_table : ((List.range 25).all fun m => (List.range m).all fun b => decide (Nat.gcd b m ≠ 1) || (decide (b * invOf m b % m = 1 % m) && decide (m = 0 ∨ invOf m b < m))) = true := by decide +kernel
theorem inv_ok {m b : Nat} (hm : m ≤ 24) (hb : b < m) (hg : Nat.gcd b m = 1) : b * invOf m b % m = 1 % m ∧ invOf m b < m := by
  have h1 := List.all_eq_true.mp inv_table m (by simp; omega)
  have h2 := List.all_eq_true.mp h1 b (by simpa using hb)
  rw [Bool.or_eq_true, Bool.and_eq_true] at h2
  rcases h2 with h | ⟨h, h'⟩
  · exact absurd hg (of_decide_eq_true h)
  · exact ⟨of_decide_eq_true h, (of_decide_eq_true h').resolve_left (by omega)⟩
theorem mul_back {m b c i : Nat} (h : b * c % m = 1 % m) : (c * (b * i % m)) % m = i % m := by
  rw [Nat.mul_mod_mod, ← Nat.mul_assoc, Nat.mul_comm c b, ← Nat.mod_mul_mod, h, Nat.mod_mul_mod, Nat.one_mul]
theorem str_uniq {m b c i j : Nat} (h : b * c % m = 1 % m) (hi : i < m) (hj : j < m) : b * i % m = j ↔ i = c * j % m := by
  constructor
  · intro e; rw [← e, mul_back h, Nat.mod_eq_of_lt hi]
  · intro e; rw [e, mul_back (by rw [Nat.mul_comm]; exact h), Nat.mod_eq_of_lt hj]
theorem Sg_stretch {m b : Nat} {f : Nat → Int} (hm : m ≤ 24) (hb : b < m) (hg : Nat.gcd b m = 1) : Sg m (fun i => f (b * i % m)) = Sg m f :=
  Sg_bij (p := fun i => b * i % m) (q := fun j => invOf m b * j % m) (fun _ _ => Nat.mod_lt _ (by omega)) (fun _ _ => Nat.mod_lt _ (by omega)) fun i j hi hj => str_uniq (inv_ok hm hb hg).1 hi hj
/-- cross spans, by the beats of the first -/
def xs (m : Nat) (f g : Nat → Int) (d : Nat) : Int := Sg m fun i => f i * g ((i + d) % m)
theorem xs_congr {m d : Nat} {f g f' g' : Nat → Int} (h : ∀ i, i < m → f i = f' i) (h' : ∀ i, i < m → g i = g' i) : xs m f g d = xs m f' g' d :=
  Sg_congr fun i hi => by rw [h i hi, h' _ (Nat.mod_lt _ (by omega))]
/-- as a product: the first mirrored by the second -/
theorem cv_mirror {m k : Nat} {f g : Nat → Int} (hk : k < m) : cv m (fun i => f (ng m i)) g k = xs m f g k := by
  have h0 : 0 < m := by omega
  unfold cv xs
  have e : ∀ i, i < m → (Sg m fun j => if (i + j) % m = k then f (ng m i) * g j else 0) = f (ng m i) * g ((ng m i + k) % m) := fun i hi => by
    have hn : (ng m i + k) % m < m := Nat.mod_lt _ h0
    have key : ∀ j, j < m → (decide ((i + j) % m = k) = true ↔ j = (ng m i + k) % m) := fun j hj => by
      rw [decide_eq_true_iff, Nat.add_comm i j, mod_uniq i hk hj, Nat.mod_eq_of_lt hi]
      have : (k + (m - i)) % m = (ng m i + k) % m := by unfold ng; rw [Nat.mod_add_mod, Nat.add_comm]
      rw [this]
    have := Sg_one (n := m) (k := (ng m i + k) % m) (p := fun j => decide ((i + j) % m = k)) (f := fun j => f (ng m i) * g j) hn key
    simpa only [decide_eq_true_iff] using this
  rw [Sg_congr e]
  exact Sg_mirror (f := fun a => f a * g ((a + k) % m)) h0
/-- exchanged, they stand at the beat opposite -/
theorem xs_swap {m d : Nat} {f g : Nat → Int} (hd : d < m) : xs m f g (ng m d) = xs m g f d := by
  have h0 : 0 < m := by omega
  unfold xs
  rw [← Sg_shift (d := d) (f := fun i => f i * g ((i + ng m d) % m)) h0]
  refine Sg_congr fun i hi => ?_
  have e : ((i + d) % m + ng m d) % m = i := by
    unfold ng
    rw [Nat.mod_add_mod, Nat.add_mod_mod, show i + d + (m - d) = i + m by omega, Nat.add_mod_right, Nat.mod_eq_of_lt hi]
  rw [e, Int.mul_comm]
/-- turned alike they stay -/
theorem xs_turn {m d t : Nat} {f g : Nat → Int} (h0 : 0 < m) : xs m (fun i => f ((i + t) % m)) (fun i => g ((i + t) % m)) d = xs m f g d := by
  unfold xs
  rw [← Sg_shift (d := t) (f := fun i => f i * g ((i + d) % m)) h0]
  refine Sg_congr fun i _ => ?_
  show f ((i + t) % m) * g (((i + d) % m + t) % m) = f ((i + t) % m) * g (((i + t) % m + d) % m)
  rw [Nat.mod_add_mod, Nat.mod_add_mod, show i + d + t = i + t + d by omega]
theorem xs_mul {m d : Nat} {f g : Nat → Int} {a b : Int} : xs m (fun i => f i * a) (fun i => g i * b) d = a * b * xs m f g d := by
  unfold xs
  rw [← Sg_mulL]
  refine Sg_congr fun i _ => ?_
  show f i * a * (g ((i + d) % m) * b) = a * b * (f i * g ((i + d) % m))
  generalize f i = u
  generalize g ((i + d) % m) = v
  rw [Int.mul_comm u a, Int.mul_assoc a u, Int.mul_left_comm u v b, Int.mul_comm u b, Int.mul_left_comm v b u, Int.mul_comm v u, Int.mul_assoc a b]
/-- together: both totals multiplied -/
theorem xs_sum {m : Nat} {f g : Nat → Int} : Sg m (xs m f g) = Sg m f * Sg m g := by
  by_cases h0 : 0 < m
  · unfold xs
    rw [Sg_swap, ← Sg_mulR]
    refine Sg_congr fun i _ => ?_
    rw [Sg_mulL]
    congr 1
    have := Sg_shift (m := m) (d := i) (f := g) h0
    rw [← this]
    exact Sg_congr fun j _ => by rw [Nat.add_comm]
  · have : m = 0 := by omega
    subst this; rfl
/-- stretched alike: at b d what was at d -/
theorem xs_stretch {m b d : Nat} {f g F G : Nat → Int} (hm : m ≤ 24) (hb : b < m) (hg : Nat.gcd b m = 1) (hF : ∀ i, i < m → F (b * i % m) = f i) (hG : ∀ i, i < m → G (b * i % m) = g i) : xs m F G (b * d % m) = xs m f g d := by
  unfold xs
  rw [← Sg_stretch (f := fun i => F i * G ((i + b * d % m) % m)) hm hb hg]
  refine Sg_congr fun i hi => ?_
  have e : (b * i % m + b * d % m) % m = b * ((i + d) % m) % m := by
    rw [Nat.mod_add_mod, Nat.add_mod_mod, ← Nat.mul_add, Nat.mul_mod_mod]
  rw [hF i hi, e, hG _ (Nat.mod_lt _ (by omega))]
/-- of what is left out -/
theorem xs_out {m d : Nat} {f : Nat → Int} (h0 : 0 < m) : xs m (fun i => 1 - f i) (fun i => 1 - f i) d = xs m f f d + (m : Int) - 2 * Sg m f := by
  unfold xs
  have e : ∀ i, (1 - f i) * (1 - f ((i + d) % m)) = f i * f ((i + d) % m) + (1 + (-1 * f i + -1 * f ((i + d) % m))) := fun i => by
    rw [Int.sub_mul, Int.mul_sub, Int.mul_sub]; omega
  have ones : Sg m (fun _ => (1 : Int)) = m := by
    have : ∀ n : Nat, Sg n (fun _ => (1 : Int)) = n := fun n => by
      induction n with
      | zero => rfl
      | succ n ih => simp only [Sg]; rw [ih]; omega
    exact this m
  rw [Sg_congr fun i _ => e i, Sg_add, Sg_add, Sg_add, Sg_mulL, Sg_mulL, ones, Sg_shift (f := f) h0]
  omega
end Dp

set_option Elab.async false
set_option linter.all false
set_option maxRecDepth 100000
set_option maxHeartbeats 4000001
/-! ### gcd, max, min, sorted of ints; in, not in -/
namespace Dp
open PySem PySem.Spec PyProof.Rows L2
section
variable {c : Cn}
def rdGcd : List D → Mu → Nat → KD → Prop
  | [.int a, .int b], μ, n, Q => Q (.int ((Nat.gcd a.natAbs b.natAbs : Nat) : Int)) μ n
  | _, _, _, _ => False
theorem sndC_gcd : SndC c rGcd rdGcd := fun t H0 G0 H G vs ds μ n Q Qd s rs w k => by
  unfold rdGcd at w
  split at w
  · rename_i a b
    have e := (rpl_ints (ns := [a, b])).mp rs
    subst e
    exact ⟨a, b, rfl, k.now s (by simp only [Rp]) w⟩
  · exact w.elim
/-- max (hi true), min of a list of ints, told by the list's data -/
def rdBest (hi : Bool) : List D → Mu → Nat → KD → Prop := fun ds μ n Q => ∃ (d : D) (ns : List Int), ds = [d] ∧ (∀ xs, d ≠ .tup xs) ∧ seqOf μ d = some (ns.map D.int) ∧ ns ≠ [] ∧ ∀ m : Int, m ∈ ns → (∀ y, y ∈ ns → if hi = true then y ≤ m else m ≤ y) → Q (.int m) μ n
theorem list_at {t : Addr} {H0 G0 H G : Hp} {μ : Mu} {n : Nat} {d : D} {v : V} {ns : List Int} (s : S c t H0 G0 H G μ n) (rv : Rp c t G d v) (nt : ∀ xs, d ≠ .tup xs) (e : seqOf μ d = some (ns.map D.int)) : ∃ a, v = .ref a ∧ SqL c.K H a (ns.map V.int) := by
  cases d <;> simp only [seqOf] at e <;> simp only [Rp] at rv
  all_goals try (cases e; done)
  case lst ys =>
    cases e
    obtain ⟨a, vs, rfl, h1, h2⟩ := rv
    rw [rpl_ints] at h2
    subst h2
    exact ⟨a, rfl, SqL.of (s.gh _ _ h1)⟩
  case tup ys => exact absurd rfl (nt ys)
  case own p =>
    subst rv
    obtain ⟨vs, h1, h2⟩ := lookup_of_own s e
    rw [rpl_ints] at h2
    subst h2
    exact ⟨p, rfl, SqL.of h1⟩
theorem sndC_max : SndC c (rMax c.K) (rdBest true) := fun t H0 G0 H G vs ds μ n Q Qd s rs ⟨d, ns, e, nt, sq, ne, w⟩ k => by
  subst e
  simp only [RpL] at rs
  obtain ⟨v, _, rfl, rv, rfl⟩ := rs
  obtain ⟨a, rfl, h⟩ := list_at s rv nt sq
  exact ⟨a, ns, rfl, h, List.length_pos_iff.mpr ne, fun m hm hb => k.now s (by simp only [Rp]) (w m hm fun y hy => by rw [if_pos rfl]; exact hb y hy)⟩
theorem sndC_min : SndC c (rMin c.K) (rdBest false) := fun t H0 G0 H G vs ds μ n Q Qd s rs ⟨d, ns, e, nt, sq, ne, w⟩ k => by
  subst e
  simp only [RpL] at rs
  obtain ⟨v, _, rfl, rv, rfl⟩ := rs
  obtain ⟨a, rfl, h⟩ := list_at s rv nt sq
  exact ⟨a, ns, rfl, h, List.length_pos_iff.mpr ne, fun m hm hb => k.now s (by simp only [Rp]) (w m hm fun y hy => by rw [if_neg (by decide)]; exact hb y hy)⟩
def rdSorted : List D → Mu → Nat → KD → Prop := fun ds μ n Q => ∃ (d : D) (ns : List Int), ds = [d] ∧ (∀ xs, d ≠ .tup xs) ∧ seqOf μ d = some (ns.map D.int) ∧ ns.length < 64 ∧ ∀ ms : List Int, ms.Perm ns → ms.Pairwise (· ≤ ·) → Q (.lst (ms.map D.int)) μ n
theorem sndC_sorted : SndC c (rSorted c.K) rdSorted := fun t H0 G0 H G vs ds μ n Q Qd s rs ⟨d, ns, e, nt, sq, few, w⟩ k => by
  subst e
  simp only [RpL] at rs
  obtain ⟨v, _, rfl, rv, rfl⟩ := rs
  obtain ⟨a, rfl, h⟩ := list_at s rv nt sq
  refine ⟨a, ns, rfl, h, few, fun ms p hp hs hn => ?_⟩
  have st := s.new (o := .lst (ms.map V.int)) hn
  exact k _ _ _ _ _ _ (s.step st) st.g (Rp.lstNew upd_same (rpl_ints.mpr rfl)) (w ms hp hs)
/-- an int in, not in a list or tuple of ints -/
def rdIn (neg : Bool) : D → D → Mu → Nat → KD → Prop := fun x y μ n Q => ∃ (i : Int) (ns : List Int), x = .int i ∧ seqOf μ y = some (ns.map D.int) ∧ Q (.bl (if neg = true then !decide (i ∈ ns) else decide (i ∈ ns))) μ n
theorem inV_ints {i : Int} : ∀ ns : List Int, inV (.int i) (ns.map V.int) = decide (i ∈ ns)
  | [] => rfl
  | z :: ns => by
    have e := inV_ints (i := i) ns
    unfold inV at e ⊢
    rw [List.map_cons, List.any_cons, e]
    have : eqV (.int z) (.int i) = decide (z = i) := Bool.beq_eq_decide_eq z i
    rw [this]
    by_cases h : z = i
    · subst h; simp
    · have h2 : ¬ i = z := fun q => h q.symm
      simp [h, h2]
theorem flat_ints : ∀ ns : List Int, (ns.map V.int).all flatV = true
  | [] => rfl
  | _ :: ns => by rw [List.map_cons, List.all_cons, flat_ints ns]; rfl
theorem sndR_inN {neg : Bool} : SndR c (rIn c.K neg) (rdIn neg) := fun t H0 G0 H G x y dx dy μ n Q Qd s rx ry ⟨i, ns, e, sq, q⟩ k => by
  subst e
  simp only [Rp] at rx
  subst rx
  obtain ⟨a, vs, rfl, h1, h2⟩ := seq_at s ry sq
  rw [rpl_ints] at h2
  subst h2
  refine ⟨a, _, rfl, h1, rfl, flat_ints ns, ?_⟩
  rw [inV_ints]
  exact k.now s (by cases neg <;> simp only [Rp]) q
end
section
variable {c : Cn}
/-- an owned list is given away: it stays as it is -/
def wRel (we : WE) : WE := fun ds μ n Q => we ds μ n fun d μ1 n1 => ∃ p xs μ', d = .own p ∧ μ1 = (p, xs) :: μ' ∧ (∀ e ∈ μ', e.1 ≠ p) ∧ Q (.lst xs) μ' n1
theorem snd_rel {te : TE} {we : WE} (h : Snd c te we) : Snd c te (wRel we) := fun t H0 G0 H G σ ds μ n Q Qd r s w k =>
  h t H0 G0 H G σ ds μ n _ _ r s w fun v H1 G1 d μ1 n1 s1 g1 rv ⟨p, xs, μ', e1, e2, hf, q⟩ => by
    subst e1 e2
    simp only [Rp] at rv
    subst rv
    obtain ⟨G2, s2, g2, r2⟩ := s1.unown hf
    exact k _ _ _ _ _ _ s2 (Same.trans g1 g2) r2 q
end
section
variable {X : Cx} {K : PySem.W.Frag}
theorem maxK (hc : X.calm = true := by rfl) (h : X.K = K := by rfl) : CallR X (.builtin "max") (rMax K) := h ▸ cr_max hc
theorem minK (hc : X.calm = true := by rfl) (h : X.K = K := by rfl) : CallR X (.builtin "min") (rMin K) := h ▸ cr_min hc
theorem sortedK (h : X.K = K := by rfl) : CallR X (.builtin "sorted") (rSorted K) := h ▸ cr_sorted
theorem inK (h : X.K = K := by rfl) : OpR X (compareOp .In) (rIn K false) := h ▸ op_in_seq
theorem notInK (h : X.K = K := by rfl) : OpR X (compareOp .NotIn) (rIn K true) := h ▸ op_notIn_seq
theorem bkK {b : Bool} {e : Expr} {te : TE} {hi : Option Expr} {k : Nat} {p1 p2 p3 pos : Pos} (he : PE X e te) (upper : PO X hi fun _ H Q => Q (bkHi b) H) (h : X.K = K := by rfl) :
    PE X (.Subscript e (.Slice none hi (some (.UnaryOp .USub (.Constant (.int 1) k p1) p2)) p3) pos) (tBk K b te) := h ▸ pe_bk he upper
end
end Dp

set_option Elab.async false
set_option linter.all false
set_option maxRecDepth 100000
set_option maxHeartbeats 4000001
/-! a law's draw, whatever its constants -/
namespace Dp
open PySem PySem.Spec PyProof.Rows L2
/-- the constants of a draw are small -/
structure DrawC (M1 a b M2 d e f M3 : Int) : Prop where
  m1 : 0 < M1 ∧ M1 ≤ 2147483648
  m2 : 0 < M2 ∧ M2 ≤ 2147483648
  m3 : 0 < M3
  sm : (0 ≤ a ∧ a ≤ 100000) ∧ (0 ≤ b ∧ b ≤ 100000) ∧ (0 ≤ d ∧ d ≤ 100000) ∧ (0 ≤ e ∧ e ≤ 100000) ∧ (0 ≤ f ∧ f ≤ 100000)
theorem drawG_tail {z s m M1 a b M2 d e f M3 : Int} {Q : Int → Prop} (cc : DrawC M1 a b M2 d e f M3) (hs0 : 0 ≤ s) (hs1 : s ≤ 1000000) (h1 : 1 ≤ m) (q : ∀ d, 0 ≤ d → d < m → Q d) :
    0 < M1 ∧ (CMul a s ∨ CMulW a s) ∧ CPow (z % M1 + a * s + b) 5 ∧ 0 < M2 ∧ (CMul 2 s ∨ CMulW 2 s) ∧
      (CMul ((z % M1 + a * s + b) ^ Int.toNat 5 % M2) (2 * s + d) ∨ CMulW ((z % M1 + a * s + b) ^ Int.toNat 5 % M2) (2 * s + d)) ∧
      (CMul e s ∨ CMulW e s) ∧ (CMul (e * s) s ∨ CMulW (e * s) s) ∧
      CPow ((z % M1 + a * s + b) ^ Int.toNat 5 % M2 * (2 * s + d) + e * s * s + f) 3 ∧ 0 < M3 ∧
      CDv (((z % M1 + a * s + b) ^ Int.toNat 5 % M2 * (2 * s + d) + e * s * s + f) ^ Int.toNat 3 % M3) 64 ∧ 0 < m ∧
      Q (((z % M1 + a * s + b) ^ Int.toNat 5 % M2 * (2 * s + d) + e * s * s + f) ^ Int.toNat 3 % M3 / 64 % m) := by
  obtain ⟨⟨u1, u2⟩, ⟨u3, u4⟩, u5, ⟨a1, a2⟩, ⟨b1, b2⟩, ⟨d1, d2⟩, ⟨e1, e2⟩, f1, f2⟩ := cc
  have z1 := Int.emod_nonneg z (show M1 ≠ 0 by omega)
  have z2 := Int.emod_lt_of_pos z u1
  generalize z % M1 = y at *
  have p0 := mulB (A := 100000) (B := 1000000) a1 a2 hs0 hs1
  have m1 := Int.emod_nonneg ((y + a * s + b) ^ Int.toNat 5) (show M2 ≠ 0 by omega)
  have m2 := Int.emod_lt_of_pos ((y + a * s + b) ^ Int.toNat 5) u3
  generalize (y + a * s + b) ^ Int.toNat 5 % M2 = M at *
  have p1 := mulB (A := 2147483648) (B := 2100000) m1 (by omega) (show 0 ≤ 2 * s + d by omega) (by omega)
  have p2 := mulB (A := 100000) (B := 1000000) e1 e2 hs0 hs1
  have p3 := mulB (A := 100000000000) (B := 1000000) p2.1 (by omega) hs0 hs1
  refine ⟨u1, cmulL (by omega) (by omega), ⟨by decide, by decide, by omega⟩, u3, cmulL (by decide) (by decide), cmulR (by omega) (by omega), cmulL (by omega) (by omega), cmulR (by omega) (by omega), ⟨by decide, by decide, by omega⟩, u5, .inl ⟨by decide, by decide⟩, by omega, q _ (Int.emod_nonneg _ (by omega)) (Int.emod_lt_of_pos _ (by omega))⟩
/-- how a great cell gives digits -/
theorem drawG_great {z m : Int} {Q : Int → Prop} {U : Prop} (h1 : 1 ≤ m) (h2 : m < 1000000) (q : ∀ d, 0 ≤ d → d < m → Q d) (u : U) :
    CPow 10 18 ∧ if decide (10 ^ Int.toNat 18 ≤ if z < 0 then -z else z) = true then
          CPow 10 18 ∧ (CMul 2 ((if z < 0 then -z else z) - 10 ^ Int.toNat 18) ∨ CMulW 2 ((if z < 0 then -z else z) - 10 ^ Int.toNat 18)) ∧
            CDv (2 * ((if z < 0 then -z else z) - 10 ^ Int.toNat 18) + if decide (z < 0) = true then 1 else 0) m ∧
            0 ≤ (2 * ((if z < 0 then -z else z) - 10 ^ Int.toNat 18) + if decide (z < 0) = true then 1 else 0) / m ∧ 0 < m ∧
            Q ((2 * ((if z < 0 then -z else z) - 10 ^ Int.toNat 18) + if decide (z < 0) = true then 1 else 0) % m)
        else U := by
  generalize (if z < 0 then -z else z) = A
  have hbit : (0 : Int) ≤ if decide (z < 0) = true then 1 else 0 := by split <;> omega
  generalize (if decide (z < 0) = true then (1 : Int) else 0) = e at *
  refine ⟨⟨by decide, by decide, by decide⟩, ?_⟩
  by_cases hb : decide (10 ^ Int.toNat 18 ≤ A) = true
  · rw [if_pos hb]
    have hb := of_decide_eq_true hb
    generalize (10 : Int) ^ Int.toNat 18 = B at *
    exact ⟨⟨by decide, by decide, by decide⟩, cmulL (by decide) (by decide), cdv_of h1 h2, Int.ediv_nonneg (by omega) (by omega), by omega, q _ (Int.emod_nonneg _ (by omega)) (Int.emod_lt_of_pos _ (by omega))⟩
  · rw [if_neg hb]; exact u
theorem ite_two {p : Prop} [Decidable p] {A B : Prop} (a : A) (b : B) : if p then A else B := by split <;> assumption
/-- a comprehension over a range, each item an int that is drawn, between -B and B -/
theorem lc_intsB (B : Int) {wi : WI} {g : WG} {wt : WT} {we : WE} {vs : List Nat} {ds : Env} {μ μ1 : Mu} {n n1 : Nat} {Q : KD} (m : Nat) (hi : ∀ k, k (rngD 0 m) μ1 n1 → wi ds μ n k) (hl : m ≤ 1000) (hn : 2 * m ≤ n1)
    (step : ∀ (i : Nat) (p : Addr) (acc : List D) (n' : Nat) (J : List D → Nat → Prop), i < m → 2 ≤ n' → (∀ e ∈ μ1, e.1 ≠ p) → (∀ (x : Int) (n'' : Nat), -B ≤ x → x ≤ B → n' ≤ n'' + 2 → J (acc ++ [.int x]) n'') →
      g (.int (0 + (i : Nat))) (wipeE ds vs) fun ds2 => wt ds2 ((p, acc) :: μ1) n' fun b μ2 n2 => μ2 = (p, acc) :: μ1 ∧ if b = true then we ds2 μ2 n2 fun y μ3 n3 => μ3 = (p, acc) :: μ1 ∧ J (acc ++ [y]) n3 else J acc n2)
    (q : ∀ (ns : List Int) (n' : Nat), ns.length = m → (∀ x ∈ ns, -B ≤ x ∧ x ≤ B) → n1 ≤ n' + 2 * m → Q (.lst (ns.map D.int)) μ1 n') : wLc wi g wt we vs ds μ n Q := by
  refine lc_j (items := rngD 0 m) (μ1 := μ1) (n1 := n1) (fun i acc n' => ∃ ns : List Int, acc = ns.map D.int ∧ ns.length = i ∧ (∀ x ∈ ns, -B ≤ x ∧ x ≤ B) ∧ n1 ≤ n' + 2 * i) hi (by rw [rngD_len]; omega) ⟨[], rfl, rfl, fun x hx => (by cases hx), by omega⟩ ?_ ?_
  · rintro i d p acc n' J hd hlt hp ⟨ns, rfl, hlen, hb, hn'⟩ hJ
    rw [rngD_len] at hlt
    rw [rngD_get hlt] at hd
    cases hd
    refine step i p _ n' J hlt (by omega) hp fun x n'' b1 b2 hn'' => hJ _ _ ⟨ns ++ [x], by rw [List.map_append]; rfl, by simp [hlen], fun y hy => ?_, by omega⟩
    rcases List.mem_append.mp hy with hy | hy
    · exact hb y hy
    · rw [List.mem_singleton] at hy; subst hy; exact ⟨b1, b2⟩
  · rintro acc n' ⟨ns, rfl, hlen, hb, hn'⟩
    rw [rngD_len] at hlen hn'
    exact q ns n' hlen hb hn'
/-- ints between -B and B -/
def within (B : Int) : D → Bool
  | .int i => decide (-B ≤ i) && decide (i ≤ B)
  | _ => false
theorem within_ok {B : Int} {xs : List D} (h : xs.all (within B) = true) {x : D} (hx : x ∈ xs) : ∃ i, x = .int i ∧ -B ≤ i ∧ i ≤ B := by
  have one := List.all_eq_true.mp h x hx
  cases x <;> simp only [within] at one <;> first | (cases one; done) | skip
  rw [Bool.and_eq_true] at one
  exact ⟨_, rfl, of_decide_eq_true one.1, of_decide_eq_true one.2⟩
/-- common divisors, ascending -/
def cdl (x y : Nat) : Nat → List Int
  | 0 => []
  | i + 1 => if x % (i + 1) = 0 ∧ y % (i + 1) = 0 then cdl x y i ++ [((i + 1 : Nat) : Int)] else cdl x y i
theorem cdl_mem {x y : Nat} {m : Int} : ∀ i, m ∈ cdl x y i ↔ ∃ k : Nat, 1 ≤ k ∧ k ≤ i ∧ m = k ∧ x % k = 0 ∧ y % k = 0
  | 0 => by
    unfold cdl
    exact ⟨(fun h => by cases h), fun ⟨k, h1, h2, _⟩ => by omega⟩
  | i + 1 => by
    have ih := cdl_mem (x := x) (y := y) (m := m) i
    unfold cdl
    constructor
    · intro h
      split at h
      · rename_i both
        rcases List.mem_append.mp h with h | h
        · obtain ⟨k, h1, h2, h3⟩ := ih.1 h
          exact ⟨k, h1, by omega, h3⟩
        · rw [List.mem_singleton] at h
          exact ⟨i + 1, by omega, Nat.le_refl _, h, both⟩
      · obtain ⟨k, h1, h2, h3⟩ := ih.1 h
        exact ⟨k, h1, by omega, h3⟩
    · rintro ⟨k, h1, h2, h3, h4⟩
      by_cases c : k = i + 1
      · subst c
        rw [if_pos h4, h3]
        exact List.mem_append_right _ (List.mem_singleton.mpr rfl)
      · have old := ih.2 ⟨k, h1, by omega, h3, h4⟩
        split
        · exact List.mem_append_left _ old
        · exact old
theorem cdl_gcd {x y : Nat} (hx : 1 ≤ x) {m : Int} (hm : m ∈ cdl x y x) (top : ∀ z, z ∈ cdl x y x → z ≤ m) : m = ((Nat.gcd x y : Nat) : Int) := by
  obtain ⟨k, k1, k2, rfl, k3, k4⟩ := (cdl_mem x).1 hm
  have g1 : Nat.gcd x y ∣ x := Nat.gcd_dvd_left x y
  have g2 : Nat.gcd x y ∣ y := Nat.gcd_dvd_right x y
  have g0 : 0 < Nat.gcd x y := Nat.gcd_pos_of_pos_left y (by omega)
  have le := Nat.le_of_dvd (by omega) g1
  have a := top ((Nat.gcd x y : Nat) : Int) ((cdl_mem x).2 ⟨_, g0, le, rfl, Nat.mod_eq_zero_of_dvd g1, Nat.mod_eq_zero_of_dvd g2⟩)
  have b := Nat.le_of_dvd g0 (Nat.dvd_gcd (Nat.dvd_of_mod_eq_zero k3) (Nat.dvd_of_mod_eq_zero k4))
  omega
theorem cdl_ne {x y : Nat} (hx : 1 ≤ x) : cdl x y x ≠ [] := fun e => by
  have : (1 : Int) ∈ cdl x y x := (cdl_mem x).2 ⟨1, by omega, hx, rfl, Nat.mod_one _, Nat.mod_one _⟩
  rw [e] at this; cases this
end Dp

set_option Elab.async false
set_option linter.all false
set_option maxRecDepth 100000
set_option maxHeartbeats 4000001
/-! spans of rows turned, mirrored, taken some times, left out -/
namespace Dp
/-- the cross spans of two rows, as numbers -/
def spn (a b : List Int) : List Int := tab a.length (xs a.length (nt a) (nt b))
theorem spn_len {a b : List Int} : (spn a b).length = a.length := tab_len
def trn (a : List Int) (t : Int) : List Int := tab a.length fun k => nt a (((k : Int) - t) % (a.length : Int)).toNat
theorem turn_at {m : Nat} {t : Int} (h0 : 0 < m) : ∃ r : Nat, ∀ k : Nat, k < m → (((k : Int) - t) % (m : Int)).toNat = (k + r) % m := by
  have g1 := Int.emod_nonneg t (show (m : Int) ≠ 0 by omega)
  have g2 := Int.emod_lt_of_pos t (show (0 : Int) < (m : Int) by omega)
  obtain ⟨r, hr⟩ : ∃ r : Nat, t % (m : Int) = r := ⟨(t % (m : Int)).toNat, by omega⟩
  refine ⟨m - r, fun k hk => ?_⟩
  have : ((k : Int) - t) % (m : Int) = ((k + (m - r) : Nat) : Int) % (m : Int) := by
    rw [show ((k + (m - r) : Nat) : Int) = (k : Int) - (r : Int) + (m : Int) by omega, Int.add_emod_right, ← hr, Int.sub_emod_emod]
  rw [this]; exact rfl
theorem spn_turn {a : List Int} {t : Int} (h0 : 0 < a.length) : spn (trn a t) (trn a t) = spn a a := by
  unfold spn
  rw [show (trn a t).length = a.length from tab_len]
  refine tab_congr fun d _ => ?_
  obtain ⟨r, hr⟩ := turn_at (t := t) h0
  rw [xs_congr (f' := fun i => nt a ((i + r) % a.length)) (g' := fun i => nt a ((i + r) % a.length)) (fun i hi => by unfold trn; rw [tab_nt hi, hr i hi]) (fun i hi => by unfold trn; rw [tab_nt hi, hr i hi])]
  exact xs_turn h0
def mir (a : List Int) : List Int := tab a.length fun k => nt a (ng a.length k)
theorem ng_add {m i d : Nat} (hi : i < m) (hd : d < m) : ng m ((ng m i + d) % m) = (i + ng m d) % m := by
  unfold ng
  have one : ∀ x, x < m → (m - x) % m = if x = 0 then 0 else m - x := fun x hx => by
    split
    · subst_vars; rw [Nat.sub_zero, Nat.mod_self]
    · rw [Nat.mod_eq_of_lt (by omega)]
  rw [one i hi, one d hd]
  have lt := Nat.mod_lt ((if i = 0 then 0 else m - i) + d) (show 0 < m by omega)
  rw [one _ lt]
  by_cases c1 : i = 0
  · subst c1
    rw [if_pos rfl, Nat.zero_add, Nat.mod_eq_of_lt hd, Nat.zero_add]
    split
    · rw [Nat.zero_mod]
    · rw [Nat.mod_eq_of_lt (by omega)]
  · rw [if_neg c1]
    by_cases c2 : d = 0
    · subst c2
      rw [if_pos rfl, Nat.add_zero, Nat.add_zero, Nat.mod_eq_of_lt (a := m - i) (by omega), Nat.mod_eq_of_lt hi, if_neg (by omega)]; omega
    · rw [if_neg c2]
      by_cases c3 : m - i + d < m
      · rw [Nat.mod_eq_of_lt c3, if_neg (by omega), Nat.mod_eq_sub_mod (by omega), Nat.mod_eq_of_lt (by omega)]; omega
      · rw [Nat.mod_eq_sub_mod (a := m - i + d) (by omega), Nat.mod_eq_of_lt (by omega)]
        split
        · rw [show i + (m - d) = m by omega, Nat.mod_self]
        · rw [Nat.mod_eq_of_lt (by omega)]; omega
theorem spn_mirror {a : List Int} (h0 : 0 < a.length) : spn (mir a) (mir a) = spn a a := by
  unfold spn
  rw [show (mir a).length = a.length from tab_len]
  refine tab_congr fun d hd => ?_
  rw [xs_congr (f' := fun i => nt a (ng a.length i)) (g' := fun i => nt a (ng a.length i)) (fun i hi => by unfold mir; rw [tab_nt hi]) (fun i hi => by unfold mir; rw [tab_nt hi])]
  rw [← xs_swap (f := nt a) (g := nt a) hd]
  unfold xs
  rw [← Sg_mirror (f := fun i => nt a (ng a.length i) * nt a (ng a.length ((i + d) % a.length))) h0]
  exact Sg_congr fun i hi => by
    show nt a (ng a.length (ng a.length i)) * nt a (ng a.length ((ng a.length i + d) % a.length)) = _
    rw [ng_ng hi, ng_add hi hd]
theorem spn_times {a : List Int} {k : Int} : spn (zm a k) (zm a k) = (spn a a).map fun z => k * k * z := by
  unfold spn
  rw [show (zm a k).length = a.length by simp]
  refine ext_nt (by simp) fun d hd => ?_
  have hd : d < a.length := by simpa using hd
  rw [tab_nt hd, map_nt (by simpa using hd), tab_nt hd, ← xs_mul]
  exact xs_congr (fun i hi => zm_nt hi) (fun i hi => zm_nt hi)
theorem spn_sum {a b : List Int} (h : a.length = b.length) : (spn a b).sum = a.sum * b.sum := by
  unfold spn
  rw [tab_sum, xs_sum, sum_nt (xs := a), sum_nt (xs := b), ← h]
theorem spn_out {a : List Int} (h0 : 0 < a.length) : spn (a.map fun x => 1 - x) (a.map fun x => 1 - x) = (spn a a).map fun z => z + (a.length : Int) - 2 * a.sum := by
  unfold spn
  rw [List.length_map]
  refine ext_nt (by simp) fun d hd => ?_
  have hd : d < a.length := by simpa using hd
  rw [tab_nt hd, map_nt (by simpa using hd), tab_nt hd, sum_nt (xs := a), ← xs_out h0]
  exact xs_congr (fun i hi => map_nt hi) (fun i hi => map_nt hi)
end Dp

set_option Elab.async false
set_option linter.all false
set_option maxRecDepth 100000
set_option maxHeartbeats 4000001
/-! spans of rows read from behind, of products, of the one mark -/
namespace Dp
theorem rp_mir {a b : List Int} : rp (mir a) b = spn a b := by
  unfold rp spn mir
  rw [tab_len]
  exact tab_congr fun k hk => Eq.trans (cv_congr (f' := fun i => nt a (ng a.length i)) (g' := nt b) (fun i hi => tab_nt hi) (fun _ _ => rfl)) (cv_mirror hk)
theorem mir_len {a : List Int} : (mir a).length = a.length := tab_len
theorem trn_len {a : List Int} {t : Int} : (trn a t).length = a.length := tab_len
theorem xs_mir {a : List Int} {d : Nat} (h0 : 0 < a.length) (hd : d < a.length) : xs a.length (fun i => nt a (ng a.length i)) (fun i => nt a (ng a.length i)) d = xs a.length (nt a) (nt a) d := by
  have e := congrArg (fun l => nt l d) (spn_mirror h0)
  unfold spn at e
  rw [mir_len] at e
  rw [tab_nt hd, tab_nt hd] at e
  rw [← e]
  exact xs_congr (fun i hi => by unfold mir; rw [tab_nt hi]) (fun i hi => by unfold mir; rw [tab_nt hi])
theorem spn_rev {a : List Int} (h0 : 0 < a.length) : spn a.reverse a.reverse = spn a a := by
  unfold spn
  rw [List.length_reverse]
  refine tab_congr fun d hd => ?_
  have r : ∀ i, i < a.length → nt a.reverse i = nt a (ng a.length ((i + 1) % a.length)) := fun i hi => by
    refine nt_get ?_
    rw [List.getElem?_reverse hi, nt_lt (by omega)]
    congr 2
    unfold ng
    by_cases c : i + 1 < a.length
    · rw [Nat.mod_eq_of_lt c, Nat.mod_eq_of_lt (by omega)]; omega
    · rw [show i + 1 = a.length by omega, Nat.mod_self, Nat.sub_zero, Nat.mod_self]; omega
  rw [xs_congr r r, xs_turn (f := fun i => nt a (ng a.length i)) (g := fun i => nt a (ng a.length i)) h0]
  exact xs_mir h0 hd
theorem ng_sum {m i j k : Nat} (hi : i < m) (hj : j < m) (hk : k < m) : (ng m i + ng m j) % m = k ↔ (i + j) % m = ng m k := by
  have one : ∀ x, x < m → ng m x = if x = 0 then 0 else m - x := fun x hx => by
    unfold ng
    split
    · subst_vars; rw [Nat.sub_zero, Nat.mod_self]
    · rw [Nat.mod_eq_of_lt (by omega)]
  have md : ∀ x, x < 2 * m → x % m = if x < m then x else x - m := fun x hx => by
    split
    · rw [Nat.mod_eq_of_lt (by omega)]
    · rw [Nat.mod_eq_sub_mod (by omega), Nat.mod_eq_of_lt (by omega)]
  have l1 := ng_lt (i := i) (show 0 < m by omega)
  have l2 := ng_lt (i := j) (show 0 < m by omega)
  rw [md _ (by omega), md _ (by omega), one i hi, one j hj, one k hk]
  by_cases a : i = 0 <;> by_cases b : j = 0 <;> by_cases e : k = 0 <;> simp only [a, b, e, if_true, if_false] <;> constructor <;> intro h <;> (try split at h) <;> (try split) <;> omega
theorem cv_ng {m k : Nat} {f g : Nat → Int} (hk : k < m) : cv m (fun i => f (ng m i)) (fun i => g (ng m i)) k = cv m f g (ng m k) := by
  have h0 : 0 < m := by omega
  unfold cv
  rw [← Sg_mirror (f := fun i => Sg m fun j => if (i + j) % m = k then f (ng m i) * g (ng m j) else 0) h0]
  refine Sg_congr fun i hi => ?_
  rw [← Sg_mirror (f := fun j => if (ng m i + j) % m = k then f (ng m (ng m i)) * g (ng m j) else 0) h0]
  refine Sg_congr fun j hj => ?_
  rw [ng_ng hi, ng_ng hj]
  by_cases c : (i + j) % m = ng m k
  · rw [if_pos c, if_pos ((ng_sum hi hj hk).2 c)]
  · rw [if_neg c, if_neg fun z => c ((ng_sum hi hj hk).1 z)]
theorem mir_rp {a b : List Int} (h : a.length = b.length) (h0 : 0 < a.length) : mir (rp a b) = rp (mir a) (mir b) := by
  unfold mir rp
  rw [tab_len, tab_len]
  refine tab_congr fun k hk => ?_
  rw [tab_nt (ng_lt h0), ← cv_ng hk]
  exact cv_congr (fun i hi => (tab_nt (f := fun k => nt a (ng a.length k)) hi).symm) (fun i hi => by rw [← h]; exact (tab_nt (f := fun k => nt b (ng a.length k)) hi).symm)
theorem spn_rp {a b : List Int} (h : a.length = b.length) (h0 : 0 < a.length) : spn (rp a b) (rp a b) = rp (spn a a) (spn b b) := by
  rw [← rp_mir, ← rp_mir, ← rp_mir, mir_rp h h0]
  have la := mir_len (a := a)
  have lb := mir_len (a := b)
  rw [rp_assoc (by omega) (by rw [rp_len]; omega), rp_assoc (by omega) (by rw [rp_len]; omega)]
  congr 1
  rw [rp_comm h, ← rp_assoc (by omega) (by omega), rp_comm (b := a) (by rw [rp_len]; omega)]
abbrev om (m : Nat) : List Int := tab m fun k => if k = 0 then 1 else 0
theorem mir_om {m : Nat} : mir (om m) = om m := by
  unfold mir
  rw [tab_len]
  refine tab_congr fun k hk => ?_
  rw [tab_nt (ng_lt (by omega))]
  have : ng m k = 0 ↔ k = 0 := by
    unfold ng
    constructor
    · intro h
      by_cases c : k = 0
      · exact c
      · rw [Nat.mod_eq_of_lt (by omega)] at h; omega
    · rintro rfl; rw [Nat.sub_zero, Nat.mod_self]
  by_cases c : k = 0
  · rw [if_pos c, if_pos (this.2 c)]
  · rw [if_neg c, if_neg fun z => c (this.1 z)]
theorem spn_om {m : Nat} (h0 : 0 < m) : spn (om m) (om m) = om m := by
  rw [← rp_mir, mir_om]
  have := p_mark (a := om m) (by rw [tab_len]; exact h0)
  rwa [tab_len] at this
theorem om_list {m : Int} (h : 1 ≤ m) : (D.int 1 :: List.replicate (m - 1).toNat (D.int 0)) = (om m.toNat).map D.int := by
  obtain ⟨k, rfl⟩ : ∃ k : Nat, m = k + 1 := ⟨(m - 1).toNat, by omega⟩
  rw [show ((k : Int) + 1).toNat = k + 1 by omega, show ((k : Int) + 1 - 1).toNat = k by omega]
  unfold om tab
  rw [List.range_succ_eq_map, List.map_cons, List.map_map, List.map_cons, List.map_map, if_pos rfl]
  congr 1
  refine List.ext_getElem? fun i => ?_
  rw [List.getElem?_replicate, List.getElem?_map]
  split
  · rw [List.getElem?_range (by assumption)]; rfl
  · rw [List.getElem?_eq_none (by simp; omega)]; rfl
theorem trn_sum {a : List Int} {t : Int} (h0 : 0 < a.length) : (trn a t).sum = a.sum := by
  unfold trn
  obtain ⟨r, hr⟩ := turn_at (t := t) h0
  rw [tab_sum, sum_nt (xs := a), ← Sg_shift (d := r) (f := nt a) h0]
  exact Sg_congr fun i hi => by rw [hr i hi]
theorem spn_zero {a : List Int} (h0 : 0 < a.length) : nt (spn a a) 0 = (a.map fun x => x * x).sum := by
  unfold spn
  rw [tab_nt h0, sum_nt, List.length_map]
  unfold xs
  exact Sg_congr fun i hi => by rw [Nat.add_zero, Nat.mod_eq_of_lt hi, map_nt hi]
theorem spn_back {a : List Int} {k : Nat} (h1 : 1 ≤ k) (h : k < a.length) : nt (spn a a) k = nt (spn a a) (a.length - k) := by
  unfold spn
  rw [tab_nt h, tab_nt (show a.length - k < a.length by omega), ← xs_swap (f := nt a) (g := nt a) h]
  unfold ng
  rw [Nat.mod_eq_of_lt (by omega)]
theorem tab_all {p : Int → Prop} {n : Nat} {f : Nat → Int} (h : ∀ i, i < n → p (f i)) : ∀ x ∈ tab n f, p x := by
  intro x hx
  obtain ⟨i, hi, rfl⟩ := List.mem_map.mp hx
  exact h i (List.mem_range.mp hi)
theorem Sg_bound {B : Int} : ∀ {n : Nat} {f : Nat → Int}, (∀ i, i < n → -B ≤ f i ∧ f i ≤ B) → -(B * (n : Int)) ≤ Sg n f ∧ Sg n f ≤ B * (n : Int)
  | 0, f, _ => by simp [Sg]
  | n + 1, f, h => by
    have ih := Sg_bound (n := n) (f := f) fun i hi => h i (by omega)
    have l := h n (by omega)
    simp only [Sg]
    rw [show ((n + 1 : Nat) : Int) = (n : Int) + 1 by omega, Int.mul_add, Int.mul_one]
    omega
/-- a product of two bounded integers -/
theorem mul_bound {A B x y : Int} (hx : -A ≤ x ∧ x ≤ A) (hy : -B ≤ y ∧ y ≤ B) : -(A * B) ≤ x * y ∧ x * y ≤ A * B := by
  have h := Int.natAbs_mul x y
  have e : (x * y).natAbs ≤ (A * B).natAbs := by
    rw [Int.natAbs_mul, Int.natAbs_mul]
    exact Nat.mul_le_mul (by omega) (by omega)
  have p : 0 ≤ A * B := Int.mul_nonneg (by omega) (by omega)
  omega
theorem nt_bound {B : Int} {a : List Int} (hb : 0 ≤ B) (h : ∀ x ∈ a, -B ≤ x ∧ x ≤ B) (i : Nat) : -B ≤ nt a i ∧ nt a i ≤ B := by
  by_cases c : i < a.length
  · exact h _ (List.mem_of_getElem? (nt_lt c))
  · unfold nt
    rw [List.getD_eq_getElem?_getD, List.getElem?_eq_none (by omega)]
    exact ⟨by simp; omega, by simp; omega⟩
theorem spn_bound {B : Int} {a : List Int} (hb : 0 ≤ B) (h : ∀ x ∈ a, -B ≤ x ∧ x ≤ B) : ∀ x ∈ spn a a, -(B * B * (a.length : Int)) ≤ x ∧ x ≤ B * B * (a.length : Int) :=
  tab_all (p := fun x => -(B * B * (a.length : Int)) ≤ x ∧ x ≤ B * B * (a.length : Int)) fun d _ => Sg_bound fun i _ => mul_bound (nt_bound hb h _) (nt_bound hb h _)
theorem sum_boundB {B : Int} {a : List Int} (hb : 0 ≤ B) (h : ∀ x ∈ a, -B ≤ x ∧ x ≤ B) : -(B * (a.length : Int)) ≤ a.sum ∧ a.sum ≤ B * (a.length : Int) := by
  rw [sum_nt]
  exact Sg_bound fun i _ => nt_bound hb h i
theorem cv_bound {A B : Int} {m k : Nat} {f g : Nat → Int} (ha : 0 ≤ A) (hb : 0 ≤ B) (hf : ∀ i, -A ≤ f i ∧ f i ≤ A) (hg : ∀ i, -B ≤ g i ∧ g i ≤ B) : -(A * B * (m : Int) * (m : Int)) ≤ cv m f g k ∧ cv m f g k ≤ A * B * (m : Int) * (m : Int) := by
  unfold cv
  refine Sg_bound fun i _ => Sg_bound fun j _ => ?_
  split
  · exact mul_bound (hf i) (hg j)
  · have := Int.mul_nonneg ha hb; omega
end Dp

set_option Elab.async false
set_option linter.all false
set_option maxRecDepth 100000
set_option maxHeartbeats 4000001
/-! how many unlike ints a list has: len(set(xs)) -/
namespace Dp
open PySem PySem.Spec PyProof.Rows L2
/-- how many unlike integers stand in a list -/
def unl (ns : List Int) : Nat := (firstMet (fun i => ns.getD i 0) ns.length).length
def tUnl (K : PySem.W.Frag) (te : TE) : TE := fun σ H Q => te σ H fun v H1 => ∃ (l : Addr) (ns : List Int), v = .ref l ∧ SqL K H1 l (ns.map V.int) ∧ ns.length ≤ 4000 ∧ Q (.int (unl ns : Nat)) H1
section
variable {X : Cx}
theorem unl_le (ns : List Int) : unl ns ≤ ns.length := firstMet_length_le _ _
theorem pe_unl0 {e : Expr} {te : TE} {p1 p2 p3 p4 : Pos} (calm : X.calm = true) (g1 : Gl X "len") (m1 : X.mg "len" = none) (g2 : Gl X "set") (m2 : X.mg "set" = none) (he : PE X e te)
    (st : starEach [e] X.env = (false, eval e X.env) :: starEach [] X.env) : PE X (.Call (.Name "len" p1) [.Call (.Name "set" p2) [e] [] p3] [] p4) (tUnl X.K te) := by
  refine ⟨fun pins s σ H Q I h => ?_⟩
  refine Call_ (ld_blt I g1 m1 PySem.boot_len (PyProof.Rows.callWith_builtin1 (PyProof.Rows.args_cons (Call_ (ld_blt I g2 m2 PyProof.Rows.boot_set ?_)) rfl) rfl rfl))
  refine PyProof.Rows.callWith_type1 (PyProof.Rows.args_cons (thn (he.run pins s σ H _ I h) ?_) st) st rfl
  rintro v s1 ⟨x, H1, I1, r1, l, ns, rfl, sq, few, q⟩
  refine PyProof.Rows.args_nil ?_
  cases r1
  obtain ⟨us, r, pl, hz⟩ := I1.list sq
  have long : us.toArray.size = ns.length := by simp [← r.length]
  refine call_set_list (ns := ns) (I1.ok.hd calm) pl.isList (by simpa using r.ints) (by unfold scanBound; omega) fun h2 tk isSet kept => PyProof.Rows.args_nil ?_
  rw [long] at isSet
  obtain ⟨o, es, ep, tb, got, exact, data, _, _, _, fits, num⟩ := isSet
  have I2 : Inv X pins σ H1 { s1 with heap := h2, toks := tk } := I1.kept fun b o e => kept b o (Heap.lt_size e) e
  have small := unl_le ns
  refine call_len_set got exact data fits (by rw [num]; unfold unl at small; omega) ⟨.int (unl ns), H1, I2.tok _, ⟨_, by rw [num]; rfl⟩, q⟩
theorem unlK {K : PySem.W.Frag} {e : Expr} {te : TE} {p1 p2 p3 p4 : Pos} (g1 : Gl X "len") (m1 : X.mg "len" = none) (g2 : Gl X "set") (m2 : X.mg "set" = none) (he : PE X e te) (calm : X.calm = true := by rfl) (h : X.K = K := by rfl)
    (st : starEach [e] X.env = (false, eval e X.env) :: starEach [] X.env := by rfl) : PE X (.Call (.Name "len" p1) [.Call (.Name "set" p2) [e] [] p3] [] p4) (tUnl K te) := h ▸ pe_unl0 calm g1 m1 g2 m2 he st
end
section
variable {c : Cn}
def wUnl (we : WE) : WE := fun ds μ n Q => we ds μ n fun d μ1 n1 => ∃ ns : List Int, d = .lst (ns.map D.int) ∧ ns.length ≤ 4000 ∧ Q (.int (unl ns)) μ1 n1
theorem snd_unl {te : TE} {we : WE} (h : Snd c te we) : Snd c (tUnl c.K te) (wUnl we) := fun t H0 G0 H G σ ds μ n Q Qd r s w k =>
  h t H0 G0 H G σ ds μ n _ _ r s w fun v H1 G1 d μ1 n1 s1 g1 rv ⟨ns, e, few, q⟩ => by
    subst e
    simp only [Rp] at rv
    obtain ⟨a, vs, rfl, h1, h2⟩ := rv
    rw [rpl_ints] at h2
    subst h2
    exact ⟨a, ns, rfl, SqL.of (s1.gh _ _ h1), few, k _ _ _ _ _ _ s1 g1 (by simp only [Rp]) q⟩
end
theorem named_again {c : Str → NameKind → Bool} : ∀ {ns : List (Str × NameKind)} {x : Str}, ns.lookup x = some .cell ∨ ns.lookup x = some .free →
    (ns.map fun e => if c e.1 e.2 = true then (e.1, NameKind.cell) else e).lookup x = some .cell ∨ (ns.map fun e => if c e.1 e.2 = true then (e.1, NameKind.cell) else e).lookup x = some .free
  | [], x, h => by simp at h
  | (y, k) :: ns, x, h => by
    have ih := named_again (c := c) (ns := ns) (x := x)
    rw [List.map_cons]
    cases e : x == y with
    | true =>
      simp only [List.lookup_cons, e, Option.some.injEq] at h
      by_cases q : c y k = true
      · rw [if_pos q, List.lookup_cons, e]; exact .inl rfl
      · rw [if_neg q, List.lookup_cons, e]
        rcases h with rfl | rfl
        · exact .inl rfl
        · exact .inr rfl
    | false =>
      simp only [List.lookup_cons, e] at h
      have ih := ih h
      by_cases q : c y k = true
      · rw [if_pos q, List.lookup_cons, e]; exact ih
      · rw [if_neg q, List.lookup_cons, e]; exact ih
/-- a comprehension in a comprehension -/
theorem blkOk_nest {X : Cx} {s : Shared} {H : Hp} {C : Addr} {cl : List (Str × Addr)} {env : PySem.Env} {fp : List Addr} {N : List Str} {sc scope : Scope} {own : List (Str × Nat)} (h : blkC N sc scope own = true) : BlkOk N (X.blk s H sc (compEnvC sc cl C env) fp).env.scope scope own := by
  have b := blkOk_by h
  exact ⟨b.kind, b.uniq, b.ix, fun y hy e => named_again (c := fun n k => k == .free && env.scope.kind == .function && env.kindOf n == some .cell) (b.free y hy e), b.own⟩
/-- the beats that a stretch of a ring comes to -/
def beats (m b : Nat) : List Int := (List.range m).map fun i => ((b * i % m : Nat) : Int)
theorem unl_table : ((List.range 25).all fun m => (List.range m).all fun b => decide (b = 0) || (decide (unl (beats m b) = m) == decide (Nat.gcd b m = 1))) = true := by decide +kernel
theorem unl_beats {m b : Nat} (hm : m ≤ 24) (h1 : 1 ≤ b) (hb : b < m) : unl (beats m b) = m ↔ Nat.gcd b m = 1 := by
  have a := List.all_eq_true.mp unl_table m (List.mem_range.mpr (by omega))
  have e := List.all_eq_true.mp a b (List.mem_range.mpr hb)
  rw [decide_eq_false (show ¬ b = 0 by omega), Bool.false_or] at e
  have e := eq_of_beq e
  rw [decide_eq_decide] at e
  exact e
/-- the stretches of a ring, ascending -/
def strl (m : Nat) : Nat → List Int
  | 0 => []
  | i + 1 => if Nat.gcd (i + 1) m = 1 then strl m i ++ [((i + 1 : Nat) : Int)] else strl m i
theorem strl_mem {m : Nat} {x : Int} : ∀ i, x ∈ strl m i ↔ ∃ k : Nat, 1 ≤ k ∧ k ≤ i ∧ x = k ∧ Nat.gcd k m = 1
  | 0 => by unfold strl; exact ⟨(fun h => by cases h), fun ⟨k, h1, h2, _⟩ => by omega⟩
  | i + 1 => by
    have ih := strl_mem (m := m) (x := x) i
    unfold strl
    constructor
    · intro h
      split at h
      · rename_i g
        rcases List.mem_append.mp h with h | h
        · obtain ⟨k, h1, h2, h3⟩ := ih.1 h
          exact ⟨k, h1, by omega, h3⟩
        · rw [List.mem_singleton] at h
          exact ⟨i + 1, by omega, Nat.le_refl _, h, g⟩
      · obtain ⟨k, h1, h2, h3⟩ := ih.1 h
        exact ⟨k, h1, by omega, h3⟩
    · rintro ⟨k, h1, h2, h3, h4⟩
      by_cases c : k = i + 1
      · subst c
        rw [if_pos h4, h3]
        exact List.mem_append_right _ (List.mem_singleton.mpr rfl)
      · have old := ih.2 ⟨k, h1, by omega, h3, h4⟩
        split
        · exact List.mem_append_left _ old
        · exact old
theorem strl_len {m : Nat} : ∀ i, (strl m i).length ≤ i
  | 0 => Nat.le_refl _
  | i + 1 => by
    have ih := strl_len (m := m) i
    unfold strl
    split
    · rw [List.length_append]; simp; omega
    · omega
theorem strl_one {m i : Nat} (h : 1 ≤ i) : 1 ≤ (strl m i).length := by
  have : (1 : Int) ∈ strl m i := (strl_mem i).2 ⟨1, by omega, h, rfl, Nat.gcd_one_left _⟩
  exact List.length_pos_of_mem this
end Dp

set_option Elab.async false
set_option linter.all false
set_option maxRecDepth 100000
set_option maxHeartbeats 4000001
/-! the marks of a row, and whether it is a lot, as its class finds them -/
namespace Dp
theorem marksFrom_push (k : Nat) (x : Int) : ∀ xs : List Int, marksFrom k (xs ++ [x]) = marksFrom k xs ++ if x = 0 then [] else [((k + xs.length : Nat) : Int)]
  | [] => by
    simp only [List.nil_append, marksFrom, List.length_nil, Nat.add_zero]
  | y :: xs => by
    simp only [List.cons_append, marksFrom, List.length_cons]
    rw [marksFrom_push (k + 1) x xs, show k + 1 + xs.length = k + (xs.length + 1) by omega]
    split <;> rfl
theorem marksFrom_mem {b : Int} : ∀ (xs : List Int) (k : Nat), b ∈ marksFrom k xs → ∃ i, i < xs.length ∧ b = ((k + i : Nat) : Int) ∧ nt xs i ≠ 0
  | [], k, h => by cases h
  | y :: xs, k, h => by
    have go : b ∈ marksFrom (k + 1) xs → ∃ i, i < (y :: xs).length ∧ b = ((k + i : Nat) : Int) ∧ nt (y :: xs) i ≠ 0 := fun h => by
      obtain ⟨i, h1, h2, h3⟩ := marksFrom_mem xs (k + 1) h
      exact ⟨i + 1, by simp; omega, by rw [h2]; omega, by unfold nt at h3 ⊢; simpa using h3⟩
    unfold marksFrom at h
    split at h
    · exact go h
    · rcases List.mem_cons.mp h with rfl | h
      · exact ⟨0, by simp, by simp, by unfold nt; simpa⟩
      · exact go h
theorem marksFrom_len : ∀ (xs : List Int) (k : Nat), (marksFrom k xs).length ≤ xs.length
  | [], k => Nat.le_refl _
  | y :: xs, k => by
    unfold marksFrom
    have := marksFrom_len xs (k + 1)
    split <;> simp only [List.length_cons] <;> omega
theorem marks_lot : ∀ (xs : List Int) (k : Nat), ((marksFrom k xs).all fun b => decide (nt xs (b - k).toNat = 1)) = isLot xs
  | [], k => rfl
  | y :: xs, k => by
    have e : ((marksFrom (k + 1) xs).all fun b => decide (nt (y :: xs) (b - k).toNat = 1)) = isLot xs := by
      rw [← marks_lot xs (k + 1)]
      rw [Bool.eq_iff_iff, List.all_eq_true, List.all_eq_true]
      have : ∀ b ∈ marksFrom (k + 1) xs, nt (y :: xs) (b - k).toNat = nt xs (b - (k + 1 : Nat)).toNat := fun b hb => by
        obtain ⟨i, h1, h2, h3⟩ := marksFrom_mem xs (k + 1) hb
        rw [h2, show (((k + 1 + i : Nat) : Int) - (k : Int)).toNat = i + 1 by omega, show (((k + 1 + i : Nat) : Int) - ((k + 1 : Nat) : Int)).toNat = i by omega]
        rfl
      exact ⟨fun h b hb => by rw [← this b hb]; exact h b hb, fun h b hb => by rw [this b hb]; exact h b hb⟩
    unfold marksFrom
    show _ = ((y == 0 || y == 1) && isLot xs)
    by_cases h : y = 0
    · rw [if_pos h, e]; subst h; simp
    · rw [if_neg h, List.all_cons, e, show ((k : Int) - (k : Int)).toNat = 0 by omega]
      congr 1
      show decide (y = 1) = _
      rw [beq_false_of_ne h, Bool.false_or]; exact (Bool.beq_eq_decide_eq y 1).symm
end Dp

set_option Elab.async false
set_option linter.all false
set_option maxRecDepth 100000
set_option maxHeartbeats 4000001
/-! forms of a row: turned, mirrored, stretched, left out -/
namespace Dp
theorem ix_int {m : Nat} {z : Int} (h0 : 0 < m) : ((z % (m : Int)).toNat : Int) = z % (m : Int) := Int.toNat_of_nonneg (Int.emod_nonneg _ (by omega))
theorem ix_lt {m : Nat} {z : Int} (h0 : 0 < m) : (z % (m : Int)).toNat < m := by
  have h1 := Int.emod_lt_of_pos z (show (0 : Int) < (m : Int) by omega)
  have h2 := ix_int (z := z) h0
  omega
theorem ix_nat {m k : Nat} (h : k < m) : ((k : Int) % (m : Int)).toNat = k := by rw [Int.emod_eq_of_lt (by omega) (by omega)]; omega
theorem ix_eq {m : Nat} {y z : Int} (h : y % (m : Int) = z % (m : Int)) : (y % (m : Int)).toNat = (z % (m : Int)).toNat := by rw [h]
theorem ng_int {m k : Nat} (h : k ≤ m) : ng m k = ((-(k : Int)) % (m : Int)).toNat := by
  unfold ng
  have : (((m - k) % m : Nat) : Int) = (-(k : Int)) % (m : Int) := by
    rw [show (((m - k) % m : Nat) : Int) = ((m - k : Nat) : Int) % (m : Int) from rfl, show ((m - k : Nat) : Int) = -(k : Int) + (m : Int) by omega, Int.add_emod_right]
  omega
theorem trn_nt {a : List Int} {t : Int} {k : Nat} (h : k < a.length) : nt (trn a t) k = nt a (((k : Int) - t) % (a.length : Int)).toNat := tab_nt h
theorem mir_nt {a : List Int} {k : Nat} (h : k < a.length) : nt (mir a) k = nt a (ng a.length k) := tab_nt h
abbrev out (a : List Int) : List Int := a.map fun x => 1 - x
theorem out_nt {a : List Int} {k : Nat} (h : k < a.length) : nt (out a) k = 1 - nt a k := map_nt h
theorem out_len {a : List Int} : (out a).length = a.length := List.length_map _
theorem trn_trn {a : List Int} {s t : Int} (h0 : 0 < a.length) : trn (trn a s) t = trn a (s + t) := by
  refine ext_nt (by rw [trn_len, trn_len, trn_len]) fun k hk => ?_
  rw [trn_len, trn_len] at hk
  rw [trn_nt (by rw [trn_len]; exact hk), trn_len, trn_nt (ix_lt h0), trn_nt hk, ix_int h0, Int.emod_sub_emod, Int.sub_sub, Int.add_comm t s]
theorem trn_zero {a : List Int} : trn a 0 = a := by
  refine ext_nt trn_len fun k hk => ?_
  rw [trn_len] at hk
  rw [trn_nt hk, Int.sub_zero, ix_nat hk]
theorem trn_back {a : List Int} {t : Int} (h0 : 0 < a.length) : trn (trn a t) (-t) = a := by rw [trn_trn h0, Int.add_right_neg, trn_zero]
theorem trn_many {a : List Int} {t : Int} : trn a (t + (a.length : Int)) = trn a t := by
  refine ext_nt (by rw [trn_len, trn_len]) fun k hk => ?_
  rw [trn_len] at hk
  rw [trn_nt hk, trn_nt hk]
  congr 2
  rw [show (k : Int) - (t + (a.length : Int)) = ((k : Int) - t) + (a.length : Int) * (-1) by omega, Int.add_mul_emod_self_left]
theorem trn_at {a : List Int} {t : Int} (h0 : 0 < a.length) : nt (trn a t) (t % (a.length : Int)).toNat = nt a 0 := by
  rw [trn_nt (ix_lt h0), ix_int h0, Int.emod_sub_emod, Int.sub_self, Int.zero_emod]; rfl
theorem trn_mir {a : List Int} {t : Int} (h0 : 0 < a.length) : mir (trn a t) = trn (mir a) (-t) := by
  refine ext_nt (by rw [mir_len, trn_len, trn_len, mir_len]) fun k hk => ?_
  rw [mir_len, trn_len] at hk
  have hk2 : k < (mir a).length := by rw [mir_len]; exact hk
  rw [mir_nt (by rw [trn_len]; exact hk), trn_len, trn_nt (ng_lt h0), trn_nt hk2, mir_len, mir_nt (ix_lt h0), ng_int (by omega), ix_int h0, Int.emod_sub_emod]
  rw [ng_int (Nat.le_of_lt (ix_lt h0)), ix_int h0]
  congr 2
  rw [← Int.zero_sub ((((k : Int) - -t) % (a.length : Int))), Int.sub_emod_emod]
  congr 1
  omega
theorem trn_out {a : List Int} {t : Int} (h0 : 0 < a.length) : out (trn a t) = trn (out a) t := by
  refine ext_nt (by rw [out_len, trn_len, trn_len, out_len]) fun k hk => ?_
  rw [out_len, trn_len] at hk
  rw [out_nt (by rw [trn_len]; exact hk), trn_nt hk, trn_nt (by rw [out_len]; exact hk), out_len, out_nt (ix_lt h0)]
theorem mir_cut {a : List Int} (h : 1 ≤ a.length) : a.take 1 ++ (a.drop (bkN true)).reverse = mir a := by
  show a.take 1 ++ (a.drop 1).reverse = _
  refine ext_nt (by rw [mir_len]; simp; omega) fun k hk => ?_
  have hk : k < a.length := by simp at hk; omega
  rw [mir_nt hk]
  refine nt_get ?_
  by_cases c : k = 0
  · subst c
    rw [show ng a.length 0 = 0 from by unfold ng; rw [Nat.sub_zero, Nat.mod_self], List.getElem?_append_left (by simp; omega), List.getElem?_take, if_pos (by decide), nt_lt (by omega)]
  · rw [show ng a.length k = a.length - k from by unfold ng; rw [Nat.mod_eq_of_lt (by omega)], List.getElem?_append_right (by simp; omega), List.getElem?_reverse (by simp; omega), List.getElem?_drop]
    simp only [List.length_take, List.length_drop]
    rw [show 1 + (a.length - 1 - 1 - (k - min 1 a.length)) = a.length - k by omega, nt_lt (by omega)]
theorem mir_mir {a : List Int} : mir (mir a) = a := by
  refine ext_nt (by rw [mir_len, mir_len]) fun k hk => ?_
  rw [mir_len, mir_len] at hk
  rw [mir_nt (by rw [mir_len]; exact hk), mir_len, mir_nt (ng_lt (by omega)), ng_ng hk]
theorem out_out {a : List Int} : out (out a) = a := by
  refine ext_nt (by rw [out_len, out_len]) fun k hk => ?_
  rw [out_len, out_len] at hk
  rw [out_nt (by rw [out_len]; exact hk), out_nt hk]; omega
section
variable {μ : Mu} {n : Nat} {Q : KD}
theorem dv_ne_bl {i j : Bool} : rdNe (.bl i) (.bl j) μ n Q = Q (.bl (!decide (i = j))) μ n := dv_ne eqok_bl
theorem dv_eq_bl {i j : Bool} : rdEq (.bl i) (.bl j) μ n Q = Q (.bl (decide (i = j))) μ n := dv_eq eqok_bl
end
theorem strl_D {m : Nat} {x : D} (h : x ∈ (strl m (m - 1)).map D.int) : ∃ k : Nat, x = .int (k : Int) ∧ 1 ≤ k ∧ k ≤ m - 1 ∧ Nat.gcd k m = 1 := by
  obtain ⟨z, hz, rfl⟩ := List.mem_map.mp h
  obtain ⟨k, h1, h2, rfl, h3⟩ := (strl_mem _).1 hz
  exact ⟨k, rfl, h1, h2, h3⟩
theorem last_table : ((List.range 25).all fun m => decide (m < 2) || decide (Nat.gcd (m - 1) m = 1)) = true := by decide +kernel
theorem gcd_last {m : Nat} (h1 : 2 ≤ m) (h2 : m ≤ 24) : Nat.gcd (m - 1) m = 1 := by
  have a := List.all_eq_true.mp last_table m (List.mem_range.mpr (by omega))
  rw [decide_eq_false (show ¬ m < 2 by omega), Bool.false_or] at a
  exact of_decide_eq_true a
theorem gcd_prod {a b m : Nat} (h1 : Nat.gcd a m = 1) (h2 : Nat.gcd b m = 1) : Nat.gcd (a * b % m) m = 1 := by
  rw [← Nat.gcd_rec, Nat.gcd_comm]
  exact Nat.Coprime.mul_left h1 h2
/-- e is a, stretched by b -/
def Str (a : List Int) (b : Nat) (e : List Int) : Prop := e.length = a.length ∧ ∀ i, i < a.length → nt e (b * i % a.length) = nt a i
theorem inv_back {m b i : Nat} (h : b * invOf m b % m = 1 % m) (hi : i < m) : b * (invOf m b * i % m) % m = i := by
  have := mul_back (m := m) (b := invOf m b) (c := b) (i := i) (by rw [Nat.mul_comm]; exact h)
  rw [this, Nat.mod_eq_of_lt hi]
theorem str_uni {a e e' : List Int} {b : Nat} (hm : a.length ≤ 24) (hb : b < a.length) (g : Nat.gcd b a.length = 1) (s : Str a b e) (s' : Str a b e') : e = e' := by
  obtain ⟨i1, i2⟩ := inv_ok hm hb g
  refine ext_nt (s.1.trans s'.1.symm) fun k hk => ?_
  rw [s.1] at hk
  have hj : invOf a.length b * k % a.length < a.length := Nat.mod_lt _ (by omega)
  have x := s.2 _ hj
  have y := s'.2 _ hj
  rw [inv_back i1 hk] at x y
  rw [x, y]
theorem str_str {a e e2 : List Int} {b d : Nat} (h0 : 0 < a.length) (s : Str a b e) (s2 : Str e d e2) : Str a (b * d % a.length) e2 := by
  refine ⟨s2.1.trans s.1, fun i hi => ?_⟩
  have x := s2.2 (b * i % a.length) (by rw [s.1]; exact Nat.mod_lt _ h0)
  rw [s.1] at x
  rw [← s.2 i hi, ← x]
  congr 1
  rw [Nat.mul_mod d, Nat.mod_mod, ← Nat.mul_mod, Nat.mod_mul_mod]
  congr 1
  rw [Nat.mul_comm b d, Nat.mul_assoc]
theorem str_one {a : List Int} : Str a 1 a := ⟨rfl, fun i hi => by rw [Nat.one_mul, Nat.mod_eq_of_lt hi]⟩
theorem ng_mul {m i : Nat} (hi : i < m) : (m - 1) * i % m = ng m i := by
  unfold ng
  by_cases c : i = 0
  · subst c; rw [Nat.mul_zero, Nat.sub_zero, Nat.mod_self, Nat.zero_mod]
  · obtain ⟨j, rfl⟩ : ∃ j, i = j + 1 := ⟨i - 1, by omega⟩
    obtain ⟨p, rfl⟩ : ∃ p, m = p + 1 := ⟨m - 1, by omega⟩
    have : (p + 1 - 1) * (j + 1) = (p + 1 - (j + 1)) + (p + 1) * j := by
      rw [Nat.add_sub_cancel, Nat.mul_succ, Nat.succ_mul]
      omega
    rw [this, Nat.add_mul_mod_self_left]
theorem str_mir {a : List Int} : Str a (a.length - 1) (mir a) := ⟨mir_len, fun i hi => by rw [ng_mul hi, mir_nt (ng_lt (by omega)), ng_ng hi]⟩
theorem str_out {a e : List Int} {b : Nat} (h0 : 0 < a.length) (s : Str a b e) : Str (out a) b (out e) := by
  refine ⟨by rw [out_len, out_len, s.1], fun i hi => ?_⟩
  rw [out_len] at hi
  rw [out_len, out_nt (by rw [s.1]; exact Nat.mod_lt _ h0), out_nt hi, s.2 i hi]
theorem str_sum {a e : List Int} {b : Nat} (hm : a.length ≤ 24) (hb : b < a.length) (g : Nat.gcd b a.length = 1) (s : Str a b e) : e.sum = a.sum := by
  rw [sum_nt, sum_nt (xs := a), s.1, ← Sg_stretch (f := nt e) hm hb g]
  exact Sg_congr fun i hi => s.2 i hi
theorem str_trn {a e e' : List Int} {b : Nat} {t : Int} (hm : a.length ≤ 24) (hb : b < a.length) (g : Nat.gcd b a.length = 1) (s : Str (trn a t) b e) (s' : Str a b e') : e = trn e' ((b : Int) * t) := by
  have h0 : 0 < a.length := by omega
  have l := trn_len (a := a) (t := t)
  refine str_uni (a := trn a t) (b := b) (by omega) (by omega) (by rw [l]; exact g) s ⟨by rw [trn_len, l]; exact s'.1, fun i hi => ?_⟩
  rw [l] at hi ⊢
  rw [trn_nt (by rw [s'.1]; exact Nat.mod_lt _ h0), s'.1, trn_nt hi]
  have x := s'.2 (((i : Int) - t) % (a.length : Int)).toNat (ix_lt h0)
  rw [← x]
  congr 1
  have e1 : (((b * (((i : Int) - t) % (a.length : Int)).toNat % a.length : Nat)) : Int) = ((b : Int) * ((i : Int) - t)) % (a.length : Int) := by
    rw [Int.natCast_emod, Int.natCast_mul, ix_int h0, Int.mul_emod, Int.emod_emod_of_dvd _ (Int.dvd_refl _), ← Int.mul_emod]
  have e2 : (((b * i % a.length : Nat) : Int) - (b : Int) * t) % (a.length : Int) = ((b : Int) * ((i : Int) - t)) % (a.length : Int) := by
    rw [Int.natCast_emod, Int.natCast_mul, Int.emod_sub_emod, Int.mul_sub]
  rw [e2, ← e1]; omega
theorem nt_mem {a : List Int} {x : Int} : x ∈ a ↔ ∃ i, i < a.length ∧ nt a i = x := by
  constructor
  · intro h
    obtain ⟨i, hi, rfl⟩ := List.mem_iff_getElem.mp h
    exact ⟨i, hi, nt_get (List.getElem?_eq_getElem hi)⟩
  · rintro ⟨i, hi, rfl⟩
    exact List.mem_of_getElem? (nt_lt hi)
theorem str_mem {a e : List Int} {b : Nat} {x : Int} (hm : a.length ≤ 24) (hb : b < a.length) (g : Nat.gcd b a.length = 1) (s : Str a b e) : x ∈ e ↔ x ∈ a := by
  obtain ⟨i1, i2⟩ := inv_ok hm hb g
  rw [nt_mem, nt_mem, s.1]
  constructor
  · rintro ⟨k, hk, rfl⟩
    have hj : invOf a.length b * k % a.length < a.length := Nat.mod_lt _ (by omega)
    exact ⟨_, hj, by rw [← s.2 _ hj, inv_back i1 hk]⟩
  · rintro ⟨k, hk, rfl⟩
    exact ⟨_, Nat.mod_lt _ (by omega), s.2 k hk⟩
theorem lot_iff {a : List Int} : isLot a = true ↔ ∀ x ∈ a, x = 0 ∨ x = 1 := by
  unfold isLot
  rw [List.all_eq_true]
  refine forall_congr' fun x => forall_congr' fun _ => ?_
  rw [Bool.or_eq_true, beq_iff_eq, beq_iff_eq]
theorem str_lot {a e : List Int} {b : Nat} (hm : a.length ≤ 24) (hb : b < a.length) (g : Nat.gcd b a.length = 1) (s : Str a b e) : isLot e = isLot a := by
  rw [Bool.eq_iff_iff, lot_iff, lot_iff]
  exact forall_congr' fun x => by rw [str_mem hm hb g s]
theorem out_lot {a : List Int} : isLot (out a) = isLot a := by
  rw [Bool.eq_iff_iff, lot_iff, lot_iff]
  constructor
  · intro h x hx
    have := h (1 - x) (List.mem_map.mpr ⟨x, hx, rfl⟩)
    omega
  · intro h x hx
    obtain ⟨y, hy, rfl⟩ := List.mem_map.mp hx
    have := h y hy
    omega
theorem out_sum : ∀ {a : List Int}, (out a).sum = (a.length : Int) - a.sum
  | [] => rfl
  | x :: a => by
    have e := out_sum (a := a)
    show (1 - x) + (out a).sum = _
    rw [e, List.length_cons, List.sum_cons]; omega
theorem marks_mem {a : List Int} {b : Int} : b ∈ marksOf a ↔ ∃ i, i < a.length ∧ b = (i : Int) ∧ nt a i ≠ 0 := by
  constructor
  · intro h
    obtain ⟨i, h1, h2, h3⟩ := marksFrom_mem a 0 h
    exact ⟨i, h1, by rw [h2]; omega, h3⟩
  · rintro ⟨i, h1, rfl, h3⟩
    have go : ∀ (xs : List Int) (k i : Nat), i < xs.length → nt xs i ≠ 0 → ((k + i : Nat) : Int) ∈ marksFrom k xs := by
      intro xs
      induction xs with
      | nil => intro k i h; cases h
      | cons y xs ih =>
        intro k i h h3
        unfold marksFrom
        cases i with
        | zero =>
          have : y ≠ 0 := h3
          rw [if_neg this]
          exact List.mem_cons_self
        | succ i =>
          have m := ih (k + 1) i (by simpa using h) h3
          rw [show k + 1 + i = k + (i + 1) by omega] at m
          split
          · exact m
          · exact List.mem_cons_of_mem _ m
    have := go a 0 i h1 h3
    rwa [Nat.zero_add] at this
theorem marks_sorted : ∀ (xs : List Int) (k : Nat), (marksFrom k xs).Pairwise (· < ·)
  | [], k => .nil
  | y :: xs, k => by
    have ih := marks_sorted xs (k + 1)
    unfold marksFrom
    split
    · exact ih
    · refine List.Pairwise.cons (fun b hb => ?_) ih
      obtain ⟨i, h1, h2, h3⟩ := marksFrom_mem xs (k + 1) hb
      omega
theorem lt_nodup {xs : List Int} (h : xs.Pairwise (· < ·)) : xs.Nodup := h.imp fun l => by omega
/-- ascending lists of the same integers, none twice, are one -/
theorem asc_eq {xs ys : List Int} (hx : xs.Pairwise (· < ·)) (hy : ys.Pairwise (· < ·)) (h : ∀ b, b ∈ xs ↔ b ∈ ys) : xs = ys :=
  List.Perm.eq_of_pairwise (le := fun a b => a < b) (fun a b _ _ p q => by omega) hx hy ((List.perm_ext_iff_of_nodup (lt_nodup hx) (lt_nodup hy)).mpr fun b => h b)
theorem le_lt {xs : List Int} (h : xs.Pairwise (· ≤ ·)) (n : xs.Nodup) : xs.Pairwise (· < ·) := by
  have := List.pairwise_and_iff.mpr ⟨h, n⟩
  exact this.imp fun l => by omega
theorem map_nodup {xs : List Int} {f : Int → Int} (n : xs.Nodup) (h : ∀ x ∈ xs, ∀ y ∈ xs, f x = f y → x = y) : (xs.map f).Nodup := by
  induction xs with
  | nil => exact .nil
  | cons x xs ih =>
    rw [List.map_cons]
    have n2 := List.nodup_cons.mp n
    refine List.nodup_cons.mpr ⟨fun z => ?_, ih n2.2 fun a ha b hb => h a (List.mem_cons_of_mem _ ha) b (List.mem_cons_of_mem _ hb)⟩
    obtain ⟨y, hy, e⟩ := List.mem_map.mp z
    have := h y (List.mem_cons_of_mem _ hy) x List.mem_cons_self e
    rw [this] at hy
    exact n2.1 hy
theorem str_marks {a e ms : List Int} {b : Nat} (hm : a.length ≤ 24) (hb : b < a.length) (g : Nat.gcd b a.length = 1) (s : Str a b e)
    (p : ms.Perm ((marksOf a).map fun x => ((b : Int) * x) % (a.length : Int))) (o : ms.Pairwise (· ≤ ·)) : marksOf e = ms := by
  obtain ⟨i1, i2⟩ := inv_ok hm hb g
  have cast : ∀ i : Nat, ((b : Int) * (i : Int)) % (a.length : Int) = ((b * i % a.length : Nat) : Int) := fun i => rfl
  have nd : ((marksOf a).map fun x => ((b : Int) * x) % (a.length : Int)).Nodup := map_nodup (lt_nodup (marks_sorted a 0)) fun x hx y hy z => by
    obtain ⟨i, h1, rfl, _⟩ := marks_mem.mp hx
    obtain ⟨j, h2, rfl, _⟩ := marks_mem.mp hy
    rw [cast, cast] at z
    have z : b * i % a.length = b * j % a.length := by omega
    have x1 := mul_back (i := i) i1
    have x2 := mul_back (i := j) i1
    rw [z, x2, Nat.mod_eq_of_lt h1, Nat.mod_eq_of_lt h2] at x1
    omega
  refine asc_eq (marks_sorted e 0) (le_lt o (p.nodup_iff.mpr nd)) fun x => ?_
  rw [marks_mem, p.mem_iff, List.mem_map]
  constructor
  · rintro ⟨k, hk, rfl, nz⟩
    rw [s.1] at hk
    have hj : invOf a.length b * k % a.length < a.length := Nat.mod_lt _ (by omega)
    refine ⟨((invOf a.length b * k % a.length : Nat) : Int), marks_mem.mpr ⟨_, hj, rfl, ?_⟩, ?_⟩
    · rw [← s.2 _ hj, inv_back i1 hk]; exact nz
    · rw [cast, inv_back i1 hk]
  · rintro ⟨y, hy, rfl⟩
    obtain ⟨i, h1, rfl, nz⟩ := marks_mem.mp hy
    rw [cast]
    exact ⟨_, by rw [s.1]; exact Nat.mod_lt _ (by omega), rfl, by rw [s.2 i h1]; exact nz⟩
/-- the beats below i that are none of some -/
def rest (ms : List Int) (i : Nat) : List Int := ((List.range i).map fun (k : Nat) => (k : Int)).filter fun b => decide (b ∉ ms)
theorem rest_push {ms : List Int} {i : Nat} : rest ms (i + 1) = rest ms i ++ if (i : Int) ∈ ms then [] else [(i : Int)] := by
  unfold rest
  rw [List.range_succ, List.map_append, List.filter_append]
  congr 1
  rw [List.map_cons, List.map_nil, List.filter_cons, List.filter_nil]
  by_cases h : (i : Int) ∈ ms
  · rw [if_pos h, if_neg (by simpa using h)]
  · rw [if_neg h, if_pos (by simpa using h)]
theorem rest_mem {ms : List Int} {i : Nat} {b : Int} : b ∈ rest ms i ↔ (∃ k : Nat, k < i ∧ b = k) ∧ b ∉ ms := by
  unfold rest
  rw [List.mem_filter, List.mem_map]
  simp only [List.mem_range, decide_eq_true_eq]
  constructor
  · rintro ⟨⟨k, h1, rfl⟩, h2⟩; exact ⟨⟨k, h1, rfl⟩, h2⟩
  · rintro ⟨⟨k, h1, rfl⟩, h2⟩; exact ⟨⟨k, h1, rfl⟩, h2⟩
theorem rest_asc {ms : List Int} : ∀ {i : Nat}, (rest ms i).Pairwise (· < ·)
  | 0 => .nil
  | i + 1 => by
    rw [rest_push, List.pairwise_append]
    refine ⟨rest_asc, ?_, fun a ha b hb => ?_⟩
    · split
      · exact .nil
      · exact List.pairwise_singleton _ _
    · obtain ⟨⟨k, h1, rfl⟩, _⟩ := rest_mem.mp ha
      split at hb
      · cases hb
      · rw [List.mem_singleton] at hb; subst hb; omega
theorem out_marks {a : List Int} (h : isLot a = true) : marksOf (out a) = rest (marksOf a) a.length := by
  rw [lot_iff] at h
  refine asc_eq (marks_sorted _ 0) rest_asc fun b => ?_
  rw [marks_mem, rest_mem, out_len]
  constructor
  · rintro ⟨i, h1, rfl, nz⟩
    refine ⟨⟨i, h1, rfl⟩, fun z => ?_⟩
    obtain ⟨j, h2, e, nz2⟩ := marks_mem.mp z
    have e : i = j := by omega
    subst e
    rw [out_nt h1] at nz
    rcases h _ (List.mem_of_getElem? (nt_lt h1)) with q | q <;> omega
  · rintro ⟨⟨i, h1, rfl⟩, no⟩
    refine ⟨i, h1, rfl, ?_⟩
    rw [out_nt h1]
    intro z
    exact no (marks_mem.mpr ⟨i, h1, rfl, by omega⟩)
end Dp

set_option Elab.async false
set_option linter.all false
set_option maxRecDepth 100000
set_option maxHeartbeats 4000001
/-! ranges with a step; products of turned and stretched rows; which turns keep a row; sums over lists of beats -/
namespace Dp
open PySem PySem.Spec PyProof.Rows L2
def rngC (lo s : Int) (n : Nat) : List D := (List.range n).map fun i => .int (lo + (i : Nat) * s)
theorem rngC_len {lo s : Int} {n : Nat} : (rngC lo s n).length = n := by unfold rngC; simp
theorem rngC_get {lo s : Int} {n i : Nat} (h : i < n) : (rngC lo s n)[i]? = some (.int (lo + (i : Nat) * s)) := by
  unfold rngC; rw [List.getElem?_map, List.getElem?_range h]; rfl
section
variable {c : Cn}
theorem wk_rangeC {t : Addr} {G : Hp} {lo s : Int} {n : Nat} : Wk c t (Itc lo s n) G (rngC lo s n) where
  step := fun H0 G0 H G1 μ m i st g hi => by
    rw [rngC_len] at hi
    exact ⟨hi, fun x H3 ⟨e1, e2⟩ => ⟨_, G1, rngC_get hi, by rw [e1]; exact st, Same.refl _, by simp only [Rp]; exact e2⟩⟩
  stop := fun H0 G0 H G1 μ m i st g hi => by rw [rngC_len] at hi; exact hi
def wiRng3 (wr : WA) : WI := fun ds μ n Q => wr ds μ n fun xs μ1 n1 => ∃ (i j s : Int) (m : Nat), xs = [.int i, .int j, .int s] ∧ RgC i j s m ∧ Q (rngC i s m) μ1 n1
theorem sndI_rng3 {ta : TA} {wr : WA} (h : SndA c ta wr) : SndI c (iRng3 ta) (wiRng3 wr) := fun t H0 G0 H G σ ds μ n R Qd r s w k =>
  h t H0 G0 H G σ ds μ n _ _ r s w fun vs H1 G1 xs μ1 n1 s1 g1 rs ⟨i, j, s, m, e, h1, q⟩ => by
    subst e
    have rs : RpL c t G1 ([i, j, s].map D.int) vs := rs
    rw [rpl_ints] at rs
    subst rs
    exact ⟨i, j, s, m, rfl, h1, k _ _ _ _ _ _ s1 g1 wk_rangeC q⟩
end
theorem step_table : ((List.range 25).all fun m => (List.range 25).all fun p => decide (p = 0) || (Builtin.Range.small 0 (m : Int) (p : Int) && decide (Builtin.Range.rangeSize 0 (m : Int) (p : Int) = (((m + p - 1) / p : Nat) : Int)))) = true := by decide +kernel
theorem step_ok {m p : Nat} (hm : m ≤ 24) (h1 : 1 ≤ p) (hp : p ≤ 24) : RgC 0 (m : Int) (p : Int) ((m + p - 1) / p) := by
  have a := List.all_eq_true.mp step_table m (List.mem_range.mpr (by omega))
  have b := List.all_eq_true.mp a p (List.mem_range.mpr (by omega))
  rw [decide_eq_false (show ¬ p = 0 by omega), Bool.false_or, Bool.and_eq_true] at b
  exact ⟨by omega, by omega, b.1, of_decide_eq_true b.2⟩
/-! products of forms -/
theorem rp_four {a b x y : List Int} (h1 : a.length = b.length) (h2 : b.length = x.length) (h3 : x.length = y.length) : rp (rp a b) (rp x y) = rp (rp a x) (rp b y) := by
  rw [rp_assoc (by omega) (by rw [rp_len]; omega), rp_assoc (by omega) (by rw [rp_len]; omega)]
  congr 1
  rw [← rp_assoc (by omega) (by omega), rp_comm (a := b) (b := x) (by omega), rp_assoc (by omega) (by omega)]
theorem om_len {m : Nat} : (om m).length = m := tab_len
theorem rp_om {a : List Int} {t : Int} (h0 : 0 < a.length) : rp a (trn (om a.length) t) = trn a t := by
  have e : trn (om a.length) t = tab a.length fun k => nt (tab a.length fun k => if k = 0 then 1 else 0) (((k : Int) - t) % (a.length : Int)).toNat := by unfold trn; rw [om_len]
  exact p_turn h0 e
theorem rp_trn {a b : List Int} {s t : Int} (h : a.length = b.length) (h0 : 0 < a.length) : rp (trn a s) (trn b t) = trn (rp a b) (s + t) := by
  have lo := om_len (m := a.length)
  rw [← rp_om (t := s) h0, ← rp_om (a := b) (t := t) (by omega), ← h, rp_four (by rw [trn_len, lo]) (by rw [trn_len, lo]; exact h) (by rw [trn_len, lo]; exact h.symm)]
  have e1 : rp (trn (om a.length) s) (trn (om a.length) t) = trn (om a.length) (s + t) := by
    have := rp_om (a := trn (om a.length) s) (t := t) (by rw [trn_len, lo]; exact h0)
    rw [trn_len, lo, trn_trn (by rw [lo]; exact h0)] at this
    exact this
  rw [e1]
  have := rp_om (a := rp a b) (t := s + t) (by rw [rp_len]; exact h0)
  rwa [rp_len] at this
theorem cv_str {m k i : Nat} {f g F G : Nat → Int} (hm : m ≤ 24) (hk : k < m) (hg : Nat.gcd k m = 1) (hi : i < m) (hF : ∀ j, j < m → F (k * j % m) = f j) (hG : ∀ j, j < m → G (k * j % m) = g j) : cv m F G (k * i % m) = cv m f g i := by
  obtain ⟨i1, i2⟩ := inv_ok hm hk hg
  unfold cv
  rw [← Sg_stretch (f := fun p => Sg m fun q => if (p + q) % m = k * i % m then F p * G q else 0) hm hk hg]
  refine Sg_congr fun p hp => ?_
  rw [← Sg_stretch (f := fun q => if (k * p % m + q) % m = k * i % m then F (k * p % m) * G q else 0) hm hk hg]
  refine Sg_congr fun q hq => ?_
  rw [hF p hp, hG q hq]
  have e : (k * p % m + k * q % m) % m = k * ((p + q) % m) % m := by
    rw [← Nat.add_mod, ← Nat.mul_add, Nat.mul_mod_mod]
  rw [e]
  by_cases z : (p + q) % m = i
  · rw [if_pos z, z, if_pos rfl]
  · rw [if_neg z, if_neg fun y => z (by
      have x1 := mul_back (i := (p + q) % m) i1
      have x2 := mul_back (i := i) i1
      rw [y, x2, Nat.mod_mod, Nat.mod_eq_of_lt hi] at x1
      exact x1.symm)]
theorem str_rp {a b e e' : List Int} {k : Nat} (hm : a.length ≤ 24) (hk : k < a.length) (hg : Nat.gcd k a.length = 1) (h : a.length = b.length) (s : Str a k e) (s' : Str b k e') : Str (rp a b) k (rp e e') := by
  refine ⟨by rw [rp_len, rp_len]; exact s.1, fun i hi => ?_⟩
  rw [rp_len] at hi ⊢
  rw [rp_nt (by rw [s.1]; exact Nat.mod_lt _ (by omega)), rp_nt hi, s.1]
  exact cv_str hm hk hg hi s.2 (fun j hj => by rw [h] at hj ⊢; exact s'.2 j hj)
theorem rp_sym {a : List Int} : mir (rp a (mir a)) = rp a (mir a) ∨ a.length = 0 := by
  by_cases h0 : 0 < a.length
  · refine .inl ?_
    rw [mir_rp mir_len.symm h0, mir_mir, rp_comm mir_len]
  · exact .inr (by omega)
theorem rp_sq {a : List Int} (h0 : 0 < a.length) : nt (rp a (mir a)) 0 = (a.map fun x => x * x).sum := by
  rw [rp_comm mir_len.symm, rp_mir, spn_zero h0]
/-! which turns keep a row -/
def kept (r : List Int) : Nat → List Int
  | 0 => []
  | i + 1 => if trn r (i : Int) = r then kept r i ++ [(i : Int)] else kept r i
theorem kept_mem {r : List Int} {x : Int} : ∀ i, x ∈ kept r i ↔ ∃ t : Nat, t < i ∧ x = t ∧ trn r (t : Int) = r
  | 0 => by unfold kept; exact ⟨(fun h => by cases h), fun ⟨k, h1, _⟩ => by omega⟩
  | i + 1 => by
    have ih := kept_mem (r := r) (x := x) i
    unfold kept
    constructor
    · intro h
      split at h
      · rename_i g
        rcases List.mem_append.mp h with h | h
        · obtain ⟨k, h1, h2⟩ := ih.1 h
          exact ⟨k, by omega, h2⟩
        · rw [List.mem_singleton] at h
          exact ⟨i, by omega, h, g⟩
      · obtain ⟨k, h1, h2⟩ := ih.1 h
        exact ⟨k, by omega, h2⟩
    · rintro ⟨k, h1, h2, h3⟩
      by_cases c : k = i
      · subst c
        rw [if_pos h3, h2]
        exact List.mem_append_right _ (List.mem_singleton.mpr rfl)
      · have old := ih.2 ⟨k, by omega, h2, h3⟩
        split
        · exact List.mem_append_left _ old
        · exact old
theorem kept_len {r : List Int} : ∀ i, (kept r i).length ≤ i
  | 0 => Nat.le_refl _
  | i + 1 => by
    have := kept_len (r := r) i
    unfold kept
    split
    · rw [List.length_append]; simp; omega
    · omega
theorem keep_rp {a b : List Int} {t : Int} (h : a.length = b.length) (h0 : 0 < a.length) (k : trn a t = a) : trn (rp a b) t = rp a b := by
  have := rp_trn (s := t) (t := 0) h h0
  rw [k, trn_zero, Int.add_zero] at this
  exact this.symm
/-- the first p numbers, again and again -/
def laps (x : List Int) (p q : Nat) : List Int := (List.replicate q (x.take p)).flatten
theorem laps_len {x : List Int} {p : Nat} (h : p ≤ x.length) : ∀ q, (laps x p q).length = q * p
  | 0 => by simp [laps]
  | q + 1 => by
    have ih := laps_len h q
    unfold laps at ih ⊢
    rw [List.replicate_succ, List.flatten_cons, List.length_append, ih, List.length_take, Nat.succ_mul]; omega
theorem laps_nt {x : List Int} {p : Nat} (h : p ≤ x.length) (h1 : 1 ≤ p) : ∀ q i, i < q * p → nt (laps x p q) i = nt x (i % p)
  | 0, i, hi => by omega
  | q + 1, i, hi => by
    have e : laps x p (q + 1) = x.take p ++ laps x p q := by unfold laps; rw [List.replicate_succ, List.flatten_cons]
    rw [e]
    by_cases c : i < p
    · rw [Nat.mod_eq_of_lt c]
      refine nt_get ?_
      rw [List.getElem?_append_left (by rw [List.length_take]; omega), List.getElem?_take, if_pos c, nt_lt (by omega)]
    · rw [Nat.succ_mul] at hi
      have ih := laps_nt h h1 q (i - p) (by omega)
      rw [show i % p = (i - p) % p from Nat.mod_eq_sub_mod (by omega), ← ih]
      have l := laps_len h q
      refine nt_get ?_
      rw [List.getElem?_append_right (by rw [List.length_take]; omega), List.length_take, Nat.min_eq_left h, nt_lt (by rw [l]; omega)]
theorem laps_keep {x : List Int} {p q j : Nat} (h : p ≤ x.length) (h1 : 1 ≤ p) (h2 : 0 < q) : trn (laps x p q) ((j * p : Nat) : Int) = laps x p q := by
  have l := laps_len h q
  have hp : 0 < q * p := Nat.mul_pos h2 h1
  refine ext_nt trn_len fun k hk => ?_
  rw [trn_len, l] at hk
  rw [trn_nt (by rw [l]; exact hk), l, laps_nt h h1 q _ (ix_lt hp), laps_nt h h1 q k hk]
  congr 1
  have e : ((((k : Int) - ((j * p : Nat) : Int)) % ((q * p : Nat) : Int)).toNat : Int) % (p : Int) = ((k % p : Nat) : Int) := by
    rw [ix_int hp, Int.emod_emod_of_dvd _ (by rw [Int.natCast_mul]; exact Int.dvd_mul_left _ _), Int.natCast_mul, show (k : Int) - (j : Int) * (p : Int) = (k : Int) + (p : Int) * (-(j : Int)) by rw [Int.mul_neg, Int.mul_comm (p : Int)]; omega, Int.add_mul_emod_self_left]; rfl
  have e2 : (((((k : Int) - ((j * p : Nat) : Int)) % ((q * p : Nat) : Int)).toNat % p : Nat) : Int) = ((k % p : Nat) : Int) := e
  omega
/-! sums over lists of beats -/
def LS (l : List Int) (f : Int → Int) : Int := (l.map f).sum
theorem LS_nil {f : Int → Int} : LS [] f = 0 := rfl
theorem LS_push {l : List Int} {x : Int} {f : Int → Int} : LS (l ++ [x]) f = LS l f + f x := by
  unfold LS; rw [List.map_append, List.map_cons, List.map_nil, sum_append_one]
theorem LS_take {l : List Int} {i : Nat} {f : Int → Int} (h : i < l.length) : LS (l.take (i + 1)) f = LS (l.take i) f + f (nt l i) := by
  rw [← take_push (nt_lt h), LS_push]
/-- the beats below i with a 1 -/
def ones (x : List Int) : Nat → List Int
  | 0 => []
  | i + 1 => if nt x i = 1 then ones x i ++ [(i : Int)] else ones x i
theorem ones_len {x : List Int} : ∀ i, (ones x i).length ≤ i
  | 0 => Nat.le_refl _
  | i + 1 => by
    have := ones_len (x := x) i
    unfold ones
    split
    · rw [List.length_append]; simp; omega
    · omega
theorem ones_mem {x : List Int} {b : Int} : ∀ i, b ∈ ones x i ↔ ∃ k : Nat, k < i ∧ b = k ∧ nt x k = 1
  | 0 => by unfold ones; exact ⟨(fun h => by cases h), fun ⟨k, h1, _⟩ => by omega⟩
  | i + 1 => by
    have ih := ones_mem (x := x) (b := b) i
    unfold ones
    constructor
    · intro h
      split at h
      · rename_i g
        rcases List.mem_append.mp h with h | h
        · obtain ⟨k, h1, h2⟩ := ih.1 h
          exact ⟨k, by omega, h2⟩
        · rw [List.mem_singleton] at h
          exact ⟨i, by omega, h, g⟩
      · obtain ⟨k, h1, h2⟩ := ih.1 h
        exact ⟨k, by omega, h2⟩
    · rintro ⟨k, h1, h2, h3⟩
      by_cases c : k = i
      · subst c
        rw [if_pos h3, h2]
        exact List.mem_append_right _ (List.mem_singleton.mpr rfl)
      · have old := ih.2 ⟨k, by omega, h2, h3⟩
        split
        · exact List.mem_append_left _ old
        · exact old
theorem LS_ones {x : List Int} {f : Int → Int} : ∀ i, LS (ones x i) f = Sg i fun k => if nt x k = 1 then f (k : Int) else 0
  | 0 => rfl
  | i + 1 => by
    have ih := LS_ones (x := x) (f := f) i
    unfold ones
    simp only [Sg]
    by_cases c : nt x i = 1
    · rw [if_pos c, if_pos c, LS_push, ih]
    · rw [if_neg c, if_neg c, ih]; omega
/-- the pairs of beats of two lists that add up to k, the first i of the one, the first j at the next -/
def pr (m : Nat) (A B : List Int) (i j k : Nat) : Int := LS (A.take i) (fun p => LS B fun q => if (p + q) % (m : Int) = (k : Int) then 1 else 0) + LS (B.take j) fun q => if (nt A i + q) % (m : Int) = (k : Int) then 1 else 0
theorem pr_start {m k : Nat} {A B : List Int} : pr m A B 0 0 k = 0 := by unfold pr; rw [List.take_zero, List.take_zero, LS_nil, LS_nil]; rfl
theorem pr_step {m i j k s : Nat} {A B : List Int} (hj : j < B.length) (hs : (nt A i + nt B j) % (m : Int) = (s : Int)) : (if k = s then pr m A B i j s + 1 else pr m A B i j k) = pr m A B i (j + 1) k := by
  unfold pr
  rw [LS_take hj, hs]
  by_cases c : k = s
  · subst c; rw [if_pos rfl, if_pos rfl]; omega
  · rw [if_neg c, if_neg (by omega)]; omega
theorem pr_row {m i k : Nat} {A B : List Int} (hi : i < A.length) : pr m A B i B.length k = pr m A B (i + 1) 0 k := by
  unfold pr
  rw [List.take_length, LS_take hi, List.take_zero, LS_nil]; omega
theorem pr_end {m k : Nat} {x y : List Int} (hx : ∀ v ∈ x, v = 0 ∨ v = 1) (hy : ∀ v ∈ y, v = 0 ∨ v = 1) (lx : x.length = m) (ly : y.length = m) : pr m (ones x m) (ones y m) (ones x m).length 0 k = cv m (nt x) (nt y) k := by
  unfold pr cv
  rw [List.take_length, List.take_zero, LS_nil, Int.add_zero, LS_ones]
  refine Sg_congr fun p hp => ?_
  have h1 := hx _ (List.mem_of_getElem? (nt_lt (show p < x.length by omega)))
  rcases h1 with e | e
  · rw [e, if_neg (by decide)]
    symm
    rw [Sg_congr (g := fun _ => 0) fun q _ => by split <;> simp]
    exact Sg_zero
  · rw [e, if_pos rfl, LS_ones]
    refine Sg_congr fun q hq => ?_
    have h2 := hy _ (List.mem_of_getElem? (nt_lt (show q < y.length by omega)))
    have c : ((p : Int) + (q : Int)) % (m : Int) = (k : Int) ↔ (p + q) % m = k := by
      rw [show ((p : Int) + (q : Int)) % (m : Int) = (((p + q) % m : Nat) : Int) from rfl]; omega
    rcases h2 with e2 | e2
    · rw [e2, if_neg (by decide)]; split <;> rfl
    · rw [e2, if_pos rfl]
      by_cases z : (p + q) % m = k
      · rw [if_pos z, if_pos (c.2 z)]; rfl
      · rw [if_neg z, if_neg fun y => z (c.1 y)]
theorem Sg_nonneg : ∀ {n : Nat} {f : Nat → Int}, (∀ i, i < n → 0 ≤ f i) → 0 ≤ Sg n f
  | 0, f, _ => by simp [Sg]
  | n + 1, f, h => by
    have ih := Sg_nonneg (n := n) (f := f) fun i hi => h i (by omega)
    have := h n (by omega)
    simp only [Sg]; omega
theorem cv_nonneg {m k : Nat} {f g : Nat → Int} (hf : ∀ i, i < m → 0 ≤ f i) (hg : ∀ i, i < m → 0 ≤ g i) : 0 ≤ cv m f g k := by
  unfold cv
  refine Sg_nonneg fun i hi => Sg_nonneg fun j hj => ?_
  split
  · exact Int.mul_nonneg (hf i hi) (hg j hj)
  · omega
theorem lot_max {a : List Int} {v : Int} (p : ∀ x ∈ a, 0 ≤ x) (hv : v ∈ a) (top : ∀ y ∈ a, y ≤ v) : isLot a = decide (v < 2) := by
  rw [Bool.eq_iff_iff, lot_iff, decide_eq_true_iff]
  constructor
  · intro h; have := h v hv; omega
  · intro h x hx
    have h1 := p x hx
    have h2 := top x hx
    omega
end Dp

set_option Elab.async false
set_option linter.all false
set_option maxRecDepth 100000
set_option maxHeartbeats 4000001
/-! the less of two ints; counts of the distances of a lot, by pairs of marks and by spans -/
namespace Dp
open PySem PySem.Spec PyProof.Rows L2
def rMin2 : List V → Hp → VK → Prop := fun xs H Q => ∃ i j, xs = [.int i, .int j] ∧ Q (.int (if j < i then j else i)) H
theorem min2K {X : Cx} (hc : X.calm = true := by rfl) : CallR X (.builtin "min") rMin2 := call_min2 hc
section
variable {c : Cn}
def rdMin2 : List D → Mu → Nat → KD → Prop := fun ds μ n Q => ∃ i j : Int, ds = [.int i, .int j] ∧ Q (.int (if j < i then j else i)) μ n
theorem sndC_min2 : SndC c rMin2 rdMin2 := fun t H0 G0 H G vs ds μ n Q Qd s rs ⟨i, j, e, w⟩ k => by
  subst e
  have rs : RpL c t G ([i, j].map D.int) vs := rs
  rw [rpl_ints] at rs
  subst rs
  exact ⟨i, j, rfl, k.now s (by simp only [Rp]) w⟩
end
/-! pairs of a list -/
/-- the sum over all pairs of a list, the one ahead first -/
def P2 (g : Int → Int → Int) : List Int → Int
  | [] => 0
  | x :: l => LS l (g x) + P2 g l
theorem P2_push {g : Int → Int → Int} {v : Int} : ∀ l : List Int, P2 g (l ++ [v]) = P2 g l + LS l (fun p => g p v)
  | [] => rfl
  | x :: l => by
    have ih := P2_push (g := g) (v := v) l
    show LS (l ++ [v]) (g x) + P2 g (l ++ [v]) = (LS l (g x) + P2 g l) + LS (x :: l) (fun p => g p v)
    rw [LS_push, ih, show LS (x :: l) (fun p => g p v) = g x v + LS l (fun p => g p v) from List.sum_cons]; omega
theorem Sg_first {n : Nat} {f : Nat → Int} : Sg (n + 1) f = f 0 + Sg n fun i => f (i + 1) := by
  induction n with
  | zero => simp [Sg]
  | succ n ih =>
    have e : Sg (n + 1 + 1) f = Sg (n + 1) f + f (n + 1) := rfl
    have e2 : Sg (n + 1) (fun i => f (i + 1)) = Sg n (fun i => f (i + 1)) + f (n + 1) := rfl
    rw [e, ih, e2]; omega
theorem P2_rows {g : Int → Int → Int} : ∀ l : List Int, (Sg l.length fun s => LS (l.drop (s + 1)) (g (nt l s))) = P2 g l
  | [] => rfl
  | x :: l => by
    rw [List.length_cons, Sg_first]
    show LS l (g x) + (Sg l.length fun i => LS (l.drop (i + 1)) (g (nt l i))) = LS l (g x) + P2 g l
    rw [P2_rows l]
theorem P2_ones {g : Int → Int → Int} {x : List Int} : ∀ i, P2 g (ones x i) = Sg i fun q => if nt x q = 1 then (Sg q fun p => if nt x p = 1 then g (p : Int) (q : Int) else 0) else 0
  | 0 => rfl
  | i + 1 => by
    have ih := P2_ones (g := g) (x := x) i
    unfold ones
    simp only [Sg]
    by_cases c : nt x i = 1
    · rw [if_pos c, if_pos c, P2_push, ih, LS_ones]
    · rw [if_neg c, if_neg c, ih]; omega
/-- how far two marks are, the shorter way round, is d -/
def fr (m d : Nat) (p q : Int) : Int := if (if (p - q) % (m : Int) < (q - p) % (m : Int) then (p - q) % (m : Int) else (q - p) % (m : Int)) = (d : Int) then 1 else 0
theorem fr_eq {m d p q : Nat} (h1 : p < q) (h2 : q < m) (d1 : 1 ≤ d) (d2 : 2 * d ≤ m) : fr m d (p : Int) (q : Int) = (if p + d = q then 1 else 0) + if 2 * d = m then 0 else if p + (m - d) = q then 1 else 0 := by
  unfold fr
  have e1 : ((q : Int) - (p : Int)) % (m : Int) = (q : Int) - (p : Int) := Int.emod_eq_of_lt (by omega) (by omega)
  have e2 : ((p : Int) - (q : Int)) % (m : Int) = (p : Int) - (q : Int) + (m : Int) := by
    rw [← Int.add_emod_right ((p : Int) - (q : Int))]; exact Int.emod_eq_of_lt (by omega) (by omega)
  rw [e1, e2]
  by_cases a : p + d = q
  · by_cases b : 2 * d = m
    · rw [if_pos a, if_pos b, if_pos (by split <;> omega)]; rfl
    · rw [if_pos a, if_neg b, if_pos (by split <;> omega), if_neg (by omega)]; rfl
  · by_cases b : 2 * d = m
    · rw [if_neg a, if_pos b, if_neg (by split <;> omega)]; rfl
    · rw [if_neg a, if_neg b]
      by_cases e : p + (m - d) = q
      · rw [if_pos e, if_pos (by split <;> omega)]; rfl
      · rw [if_neg e, if_neg (by split <;> omega)]; rfl
/-- pairs of numbers of a row, d on, not round -/
def up (f : Nat → Int) (m d : Nat) : Int := Sg m fun q => if d ≤ q then f (q - d) * f q else 0
theorem Sg_below {k : Nat} {h : Nat → Int} : ∀ {n : Nat}, k ≤ n → (Sg n fun i => if i < k then h i else 0) = Sg k h
  | 0, l => by
    have : k = 0 := by omega
    subst this; rfl
  | n + 1, l => by
    by_cases c : k ≤ n
    · simp only [Sg]
      rw [Sg_below c, if_neg (by omega)]; omega
    · have : k = n + 1 := by omega
      subst this
      exact Sg_congr fun i hi => if_pos hi
theorem Sg_above {d : Nat} {h : Nat → Int} : ∀ {n : Nat}, (Sg n fun q => if d ≤ q then h (q - d) else 0) = Sg (n - d) h
  | 0 => by rw [Nat.zero_sub]; rfl
  | n + 1 => by
    simp only [Sg]
    rw [Sg_above (n := n)]
    by_cases c : d ≤ n
    · rw [if_pos c, show n + 1 - d = (n - d) + 1 by omega]; rfl
    · rw [if_neg c, show n + 1 - d = 0 by omega, show n - d = 0 by omega]; simp [Sg]
theorem up_eq {f : Nat → Int} {m d : Nat} : up f m d = Sg (m - d) fun i => f i * f (i + d) := by
  unfold up
  rw [← Sg_above (n := m) (h := fun i => f i * f (i + d))]
  exact Sg_congr fun q _ => by
    by_cases c : d ≤ q
    · rw [if_pos c, if_pos c, Nat.sub_add_cancel c]
    · rw [if_neg c, if_neg c]
theorem xs_up {f : Nat → Int} {m d : Nat} (h1 : 1 ≤ d) (h2 : d < m) : xs m f f d = up f m d + up f m (m - d) := by
  unfold xs
  have e : (Sg m fun i => f i * f ((i + d) % m)) = Sg m (fun i => (if i < m - d then f i * f (i + d) else 0) + if m - d ≤ i then f (i - (m - d)) * f i else 0) := Sg_congr fun i hi => by
    by_cases c : i < m - d
    · rw [if_pos c, if_neg (by omega), Nat.mod_eq_of_lt (by omega)]; omega
    · rw [if_neg c, if_pos (by omega), Nat.mod_eq_sub_mod (by omega), Nat.mod_eq_of_lt (by omega), show i + d - m = i - (m - d) by omega, Int.mul_comm (f (i - (m - d)))]; omega
  rw [e, Sg_add, Sg_below (by omega), up_eq]
  rfl
/-- how many marks are d ahead of q -/
theorem Sg_pick {f : Nat → Int} {q e : Nat} (he : 1 ≤ e) (hf : ∀ i, i < q → f i = 0 ∨ f i = 1) : (Sg q fun p => if f p = 1 then (if p + e = q then (1 : Int) else 0) else 0) = if e ≤ q then f (q - e) else 0 := by
  by_cases c : e ≤ q
  · rw [if_pos c, Sg_congr (g := fun p => if p = q - e then f p else 0), Sg_ind (by omega)]
    intro i hi
    by_cases d : i = q - e
    · rw [if_pos d, if_pos (show i + e = q by omega)]
      rcases hf i hi with z | z <;> rw [z] <;> decide
    · rw [if_neg d, if_neg (show ¬ i + e = q by omega)]; split <;> rfl
  · rw [if_neg c, Sg_congr (g := fun _ => 0), Sg_zero]
    intro i hi
    rw [if_neg (show ¬ i + e = q by omega)]; split <;> rfl
theorem P2_fr {x : List Int} {d : Nat} (hx : ∀ v ∈ x, v = 0 ∨ v = 1) (d1 : 1 ≤ d) (d2 : 2 * d ≤ x.length) : P2 (fr x.length d) (ones x x.length) = if 2 * d = x.length then up (nt x) x.length d else up (nt x) x.length d + up (nt x) x.length (x.length - d) := by
  have h01 : ∀ i, i < x.length → nt x i = 0 ∨ nt x i = 1 := fun i hi => hx _ (List.mem_of_getElem? (nt_lt hi))
  rw [P2_ones]
  have inner : ∀ q, q < x.length → (Sg q fun p => if nt x p = 1 then fr x.length d (p : Int) (q : Int) else 0) = (if d ≤ q then nt x (q - d) else 0) + if 2 * d = x.length then 0 else if x.length - d ≤ q then nt x (q - (x.length - d)) else 0 := fun q hq => by
    have a := Sg_pick (f := nt x) (q := q) (e := d) d1 (fun i hi => h01 i (by omega))
    have b := Sg_pick (f := nt x) (q := q) (e := x.length - d) (by omega) (fun i hi => h01 i (by omega))
    rw [← a]
    by_cases c : 2 * d = x.length
    · rw [if_pos c, Int.add_zero]
      refine Sg_congr fun p hp => ?_
      rw [fr_eq hp hq d1 d2, if_pos c, Int.add_zero]
    · rw [if_neg c, ← b, ← Sg_add]
      refine Sg_congr fun p hp => ?_
      rw [fr_eq hp hq d1 d2, if_neg c]
      by_cases z : nt x p = 1
      · rw [if_pos z, if_pos z, if_pos z]
      · rw [if_neg z, if_neg z, if_neg z]; rfl
  by_cases c : 2 * d = x.length
  · rw [if_pos c]
    unfold up
    refine Sg_congr fun q hq => ?_
    rw [inner q hq, if_pos c, Int.add_zero]
    rcases h01 q hq with z | z
    · rw [z, if_neg (by decide)]; split <;> simp
    · rw [z, if_pos rfl]; split <;> simp
  · rw [if_neg c]
    unfold up
    rw [← Sg_add]
    refine Sg_congr fun q hq => ?_
    rw [inner q hq, if_neg c]
    rcases h01 q hq with z | z
    · rw [z, if_neg (by decide)]
      by_cases u : d ≤ q <;> by_cases v : x.length - d ≤ q <;> simp [u, v]
    · rw [z, if_pos rfl]
      by_cases u : d ≤ q <;> by_cases v : x.length - d ≤ q <;> simp [u, v]
/-- the counts of the distances of a lot -/
def cts (a : List Int) : List Int := tab (a.length / 2) fun i => if 2 * (i + 1) = a.length then nt (spn a a) (i + 1) / 2 else nt (spn a a) (i + 1)
theorem cts_len {a : List Int} : (cts a).length = a.length / 2 := tab_len
theorem cts_nt {a : List Int} {i : Nat} (h : i < a.length / 2) : nt (cts a) i = if 2 * (i + 1) = a.length then nt (spn a a) (i + 1) / 2 else nt (spn a a) (i + 1) := tab_nt h
theorem spn_nt {a : List Int} {d : Nat} (h : d < a.length) : nt (spn a a) d = xs a.length (nt a) (nt a) d := tab_nt h
theorem cts_P2 {a : List Int} {i : Nat} (ha : ∀ v ∈ a, v = 0 ∨ v = 1) (h : i < a.length / 2) : nt (cts a) i = P2 (fr a.length (i + 1)) (ones a a.length) := by
  rw [cts_nt h, P2_fr ha (by omega) (by omega), spn_nt (by omega), xs_up (by omega) (by omega)]
  by_cases c : 2 * (i + 1) = a.length
  · rw [if_pos c, if_pos c, show a.length - (i + 1) = i + 1 by omega]; omega
  · rw [if_neg c, if_neg c]
/-- twice the count at the half is the span -/
theorem cts_half {a : List Int} {d : Nat} (h1 : 1 ≤ d) (h2 : 2 * d = a.length) : nt (spn a a) d = 2 * nt (cts a) (d - 1) := by
  rw [cts_nt (by omega), show d - 1 + 1 = d by omega, if_pos h2, spn_nt (by omega), xs_up h1 (by omega), show a.length - d = d by omega]; omega
theorem cts_else {a : List Int} {d : Nat} (h1 : 1 ≤ d) (h2 : 2 * d < a.length) : nt (spn a a) d = nt (cts a) (d - 1) := by
  rw [cts_nt (by omega), show d - 1 + 1 = d by omega, if_neg (by omega)]
theorem cts_of {a b : List Int} (l : a.length = b.length) (h : spn a a = spn b b) : cts a = cts b := by unfold cts; rw [l, h]
/-! together all pairs -/
theorem LS_congr {l : List Int} {f g : Int → Int} (h : ∀ x ∈ l, f x = g x) : LS l f = LS l g := by unfold LS; rw [List.map_congr_left h]
theorem LS_Sg {n : Nat} {f : Nat → Int → Int} : ∀ l : List Int, (Sg n fun i => LS l (f i)) = LS l fun x => Sg n fun i => f i x
  | [] => by
    show (Sg n fun _ => 0) = 0
    exact Sg_zero
  | x :: l => by
    have ih := LS_Sg (n := n) (f := f) l
    have e : ∀ i, LS (x :: l) (f i) = f i x + LS l (f i) := fun i => List.sum_cons
    rw [Sg_congr (g := fun i => f i x + LS l (f i)) fun i _ => e i, Sg_add, ih]
    exact List.sum_cons.symm
theorem P2_Sg {n : Nat} {g : Nat → Int → Int → Int} : ∀ l : List Int, (Sg n fun i => P2 (g i) l) = P2 (fun p q => Sg n fun i => g i p q) l
  | [] => Sg_zero
  | x :: l => by
    have ih := P2_Sg (n := n) (g := g) l
    show (Sg n fun i => LS l (g i x) + P2 (g i) l) = _
    rw [Sg_add, LS_Sg, ih]; rfl
theorem P2_one {g : Int → Int → Int} : ∀ l : List Int, l.Pairwise (fun p q => g p q = 1) → 2 * P2 g l = (l.length : Int) * ((l.length : Int) - 1)
  | [], _ => by simp [P2]
  | x :: l, h => by
    have h2 := List.pairwise_cons.mp h
    have ih := P2_one l h2.2
    have e : LS l (g x) = (l.length : Int) := by
      rw [LS_congr (g := fun _ => 1) fun y hy => h2.1 y hy]
      unfold LS
      rw [List.map_const', List.sum_replicate_int]; omega
    show 2 * (LS l (g x) + P2 g l) = _
    rw [e, List.length_cons, Int.mul_add, ih]
    rw [show ((l.length + 1 : Nat) : Int) = (l.length : Int) + 1 by omega, Int.add_sub_cancel, Int.add_mul, Int.one_mul, Int.mul_sub, Int.mul_one]; omega
theorem ones_asc {x : List Int} : ∀ i, (ones x i).Pairwise (· < ·)
  | 0 => .nil
  | i + 1 => by
    have ih := ones_asc (x := x) i
    unfold ones
    split
    · rw [List.pairwise_append]
      refine ⟨ih, List.pairwise_singleton _ _, fun a ha b hb => ?_⟩
      obtain ⟨k, k1, rfl, _⟩ := (ones_mem _).1 ha
      rw [List.mem_singleton] at hb; subst hb; omega
    · exact ih
theorem fr_sum {m p q : Nat} (h1 : p < q) (h2 : q < m) : (Sg (m / 2) fun i => fr m (i + 1) (p : Int) (q : Int)) = 1 := by
  have all : ∀ i, i < m / 2 → fr m (i + 1) (p : Int) (q : Int) = if i = (if q - p ≤ m - (q - p) then q - p else m - (q - p)) - 1 then (fun _ => (1 : Int)) i else 0 := fun i hi => by
    rw [fr_eq h1 h2 (by omega) (by omega)]
    by_cases a : q - p ≤ m - (q - p)
    · rw [if_pos a]
      by_cases b : i = q - p - 1
      · rw [if_pos b, if_pos (by omega)]
        split
        · rfl
        · rw [if_neg (by omega)]; rfl
      · rw [if_neg b, if_neg (by omega)]
        split
        · rfl
        · rw [if_neg (by omega)]; rfl
    · rw [if_neg a]
      by_cases b : i = m - (q - p) - 1
      · rw [if_pos b, if_neg (by omega), if_neg (by omega), if_pos (by omega)]; rfl
      · rw [if_neg b, if_neg (by omega)]
        split
        · rfl
        · rw [if_neg (by omega)]; rfl
  rw [Sg_congr all]
  exact Sg_ind (by split <;> omega)
theorem cts_sum {a : List Int} (ha : ∀ v ∈ a, v = 0 ∨ v = 1) : (cts a).sum = ((ones a a.length).length : Int) * (((ones a a.length).length : Int) - 1) / 2 := by
  have e : (cts a).sum = P2 (fun p q => Sg (a.length / 2) fun i => fr a.length (i + 1) p q) (ones a a.length) := by
    rw [sum_nt, cts_len, ← P2_Sg]
    exact Sg_congr fun i hi => cts_P2 ha hi
  have two := P2_one (g := fun p q => Sg (a.length / 2) fun i => fr a.length (i + 1) p q) (ones a a.length) (by
    refine List.Pairwise.imp_of_mem (fun {p q} hp hq l => ?_) (ones_asc a.length)
    obtain ⟨i, i1, rfl, _⟩ := (ones_mem _).1 hp
    obtain ⟨j, j1, rfl, _⟩ := (ones_mem _).1 hq
    exact fr_sum (by omega) j1)
  rw [e, ← two]; omega
/-! which come -/
/-- the distances whose count is above 0 -/
def cmg (l : List Int) : Nat → List Int
  | 0 => []
  | i + 1 => if 0 < nt l i then cmg l i ++ [(i : Int) + 1] else cmg l i
def ncm (l : List Int) : Nat → List Int
  | 0 => []
  | i + 1 => if nt l i = 0 then ncm l i ++ [(i : Int) + 1] else ncm l i
theorem trn_mem {a : List Int} {t x : Int} (h : x ∈ trn a t) : x ∈ a := by
  obtain ⟨i, hi, rfl⟩ := nt_mem.1 h
  rw [trn_len] at hi
  rw [trn_nt hi]
  exact nt_mem.2 ⟨_, ix_lt (by omega), rfl⟩
theorem mir_mem {a : List Int} {x : Int} (h : x ∈ mir a) : x ∈ a := by
  obtain ⟨i, hi, rfl⟩ := nt_mem.1 h
  rw [mir_len] at hi
  rw [mir_nt hi]
  exact nt_mem.2 ⟨_, ng_lt (by omega), rfl⟩
/-! the loop that counts -/
/-- the pairs d apart of the marks: those of the first s, and the first t behind the next -/
def pc (m : Nat) (M : List Int) (s t i : Nat) : Int := (Sg s fun s' => LS (M.drop (s' + 1)) (fr m (i + 1) (nt M s'))) + LS ((M.drop (s + 1)).take t) (fr m (i + 1) (nt M s))
theorem pc_start {m i : Nat} {M : List Int} : pc m M 0 0 i = 0 := by unfold pc; rw [List.take_zero, LS_nil]; rfl
theorem pc_row {m s i : Nat} {M : List Int} : pc m M s (M.drop (s + 1)).length i = pc m M (s + 1) 0 i := by
  unfold pc
  rw [List.take_length, List.take_zero, LS_nil]; simp only [Sg]; omega
theorem pc_end {m i : Nat} {M : List Int} : pc m M M.length 0 i = P2 (fr m (i + 1)) M := by
  unfold pc
  rw [List.take_zero, LS_nil, Int.add_zero, P2_rows]
theorem pc_step {m s t i j : Nat} {M : List Int} (ht : t < (M.drop (s + 1)).length) (hj : (if (nt M s - nt (M.drop (s + 1)) t) % (m : Int) < (nt (M.drop (s + 1)) t - nt M s) % (m : Int) then (nt M s - nt (M.drop (s + 1)) t) % (m : Int) else (nt (M.drop (s + 1)) t - nt M s) % (m : Int)) = ((j + 1 : Nat) : Int)) : (if i = j then pc m M s t j + 1 else pc m M s t i) = pc m M s (t + 1) i := by
  unfold pc
  rw [LS_take ht]
  have e : fr m (i + 1) (nt M s) (nt (M.drop (s + 1)) t) = if i = j then 1 else 0 := by
    unfold fr
    rw [hj]
    by_cases c : i = j
    · subst c; rw [if_pos rfl, if_pos rfl]
    · rw [if_neg c, if_neg (by omega)]
  rw [e]
  by_cases c : i = j
  · subst c; rw [if_pos rfl, if_pos rfl]; omega
  · rw [if_neg c, if_neg c]; omega
theorem far_ok {m p q : Nat} (h1 : p < q) (h2 : q < m) : ∃ j, j < m / 2 ∧ (if ((p : Int) - (q : Int)) % (m : Int) < ((q : Int) - (p : Int)) % (m : Int) then ((p : Int) - (q : Int)) % (m : Int) else ((q : Int) - (p : Int)) % (m : Int)) = ((j + 1 : Nat) : Int) := by
  have e1 : ((q : Int) - (p : Int)) % (m : Int) = (q : Int) - (p : Int) := Int.emod_eq_of_lt (by omega) (by omega)
  have e2 : ((p : Int) - (q : Int)) % (m : Int) = (p : Int) - (q : Int) + (m : Int) := by
    rw [← Int.add_emod_right ((p : Int) - (q : Int))]; exact Int.emod_eq_of_lt (by omega) (by omega)
  rw [e1, e2]
  by_cases c : (p : Int) - (q : Int) + (m : Int) < (q : Int) - (p : Int)
  · rw [if_pos c]; exact ⟨m - (q - p) - 1, by omega, by omega⟩
  · rw [if_neg c]; exact ⟨q - p - 1, by omega, by omega⟩
theorem drop_nt {l : List Int} {s t : Nat} (h : t < (l.drop s).length) : nt (l.drop s) t = nt l (s + t) := by
  have h2 : s + t < l.length := by rw [List.length_drop] at h; omega
  exact nt_get (by rw [List.getElem?_drop, nt_lt h2])
theorem asc_nt {l : List Int} (h : l.Pairwise (· < ·)) {i j : Nat} (hij : i < j) (hj : j < l.length) : nt l i < nt l j := by
  have := List.pairwise_iff_getElem.mp h i j (by omega) hj hij
  rw [nt_get (List.getElem?_eq_getElem (show i < l.length by omega)), nt_get (List.getElem?_eq_getElem hj)]
  exact this
end Dp

set_option Elab.async false
set_option linter.all false
set_option maxRecDepth 100000
set_option maxHeartbeats 4000001
/-! exceptions: a caught one that is kept behind its suite, raw -/
namespace Dp
open PySem PySem.Spec PyProof.Rows L2
section
variable {X : Cx} {pins : List (Addr × Obj)} {σ : L2.St} {H : Hp} {s : Shared}
theorem exq_ok {P : Program} {w : World} {h : Heap} {a C dx : Addr} {o : Obj} {vs : Array Value} (e : h.get? a = some o) (c : o.cls = .ref C) (d : o.dict = some dx) (f : o.data = .fields vs) : ObjOk P w H h a (exq a C dx) :=
  ⟨⟨o, vs, e, c, d, f⟩, ⟨o, e⟩, fun _ _ ⟨o', v', q, r⟩ st => ⟨o', v', st o' q, r⟩⟩
/-- an exception that was let go is told again -/
theorem hold_exc (I : Inv X pins σ H s) {a C dx : Addr} {o : Obj} {vs : Array Value} (e : s.heap.get? a = some o) (c : o.cls = .ref C) (d : o.dict = some dx) (f : o.data = .fields vs) (na : H a = none) (n0 : X.s_0.heap.get? a = none)
    (nL : a ≠ X.env.locals) (np : ∀ p ∈ X.pn ++ pins, p.1 ≠ a) : Inv X pins σ (upd H a (exq a C dx)) s := by
  have bs := I.base
  refine ⟨I.ok, I.os, I.bare, ⟨bs.keep, bs.slot, fun b u q n x => ?_, bs.there, fun b xs q => ?_, fun b u v q => ?_, fun b ps q => ?_⟩, I.loc, I.cell, ?_, fun y k q => ?_, fun p hp => ?_, HOk.laidN I.hok (fun _ _ z => z) na (exq_ok e c d f), I.len⟩
  · rw [upd_ne (fun z => by rw [z, n0] at q; cases q)]; exact bs.free b u q n x
  · have t := bs.tups b xs q
    rw [upd_ne (ne_of_none t na)]; exact t
  · have t := bs.frzs b u v q
    rw [upd_ne (ne_of_none t na)]; exact t
  · obtain ⟨more, t⟩ := bs.tbls b ps q
    exact ⟨more, by rw [upd_ne (ne_of_none t na)]; exact t⟩
  · rw [upd_ne (Ne.symm nL)]; exact I.free
  · refine (upd_ne fun z => ?_).trans (I.freeC y k q)
    obtain ⟨v, o', e', d'⟩ := I.cell y k q
    rw [z, e] at e'
    cases e'
    rw [f] at d'
    cases d'
  · obtain ⟨p1, p2, p3, p4, p5⟩ := I.pin p hp
    exact ⟨p1, by rw [upd_ne (np p hp)]; exact p2, p3, p4, p5⟩
end
/-- what a clause «except x as n» wishes, the exception being told behind its suite -/
def wAsK (K : PySem.W.Frag) (c : Value) (m i : Nat) (ts : Addr → Value → Option Addr → TS) (Wout : WX) (De : Ends) : WX := fun cls d σ H =>
  ∃ C dx, cls = .ref C ∧ d = some dx ∧ ∃ b, PySem.W.exmOne K cls c = some b ∧ (b = true → ∀ a, H a = none → σ.length = m → ts a cls d { nx := fun σ' H' => De.nx (σ'.set i none) (upd H' a (exq a C dx)), rt := fun _ _ => False } (σ.set i (some (.ref a))) H) ∧
    (b = false → Wout cls d σ H)
section
variable {X : Cx} {x n : PySem.Str} {c : Value} {i : Nat} {body suite : List Stmt} {st0 : Stmt} {np pos pos' : Pos} {tb : WX → TS} {ts : Addr → Value → Option Addr → TS} {Wout : WX}
theorem ps_try_keep (hst : X.stack = X.env :: X.outer) (hfrm : X.env.frame = some X.env.locals) (nd : X.N.Nodup) (hslot : X.N[i]? = some n) (hkind : X.env.kindOf n = some .local) (hnm : Names X x c) (takes : Takes X Wout) (hex : X.ex = [])
    (inBody : ∀ (W : WX) (pn : List (Addr × Obj)) (xe : Value → Shared → Prop), Takes (X.tr pn xe) W → PassesOwn (model X.prog X.w) X.A X.env xe → PSs (X.tr pn xe) body (tb W))
    (inSuite : ∀ (a : Addr) (oe : Obj) (cls : Value) (d : Option Addr) (pn : List (Addr × Obj)), Zc cls d oe → (∃ vs, oe.data = .fields vs) → PSs (X.suite a ((a, oe) :: pn)) (st0 :: suite) (ts a cls d)) :
    PS X (.Try body [.ExceptHandler (some (.Name x np)) (some n) (st0 :: suite) pos'] [] [] pos) (fun De σ H => tb (wAsK X.K c X.N.length i ts Wout De) De σ H) := by
  refine ⟨fun pins s σ H De I h => ?_⟩
  have okX := I.ok
  have framesX : X.A.frames = some (X.env :: X.outer) := by rw [okX.frames, hst]
  let afterAll : Value → Shared → Prop := fun e z1 => wpAny (model X.prog X.w) X.A (noteFrame e X.env) (fun _ z2 => wpAny (model X.prog X.w) X.A (setFlight e none) (fun _ z3 => wpAny (model X.prog X.w) X.A (handleBy e X.env [.ExceptHandler (some (.Name x np)) (some n) (st0 :: suite) pos']) (SP X pins De) X.xe z3) X.xe z2) X.xe z1
  have caught : Takes (X.tr (X.pn ++ pins) afterAll) (wAsK X.K c X.N.length i ts Wout De) := by
    intro u z xx
    obtain ⟨a, B, sI, pins', σ', H', cls, d, rfl, J', nb, up, sky, na, os, ag, C, dx, hC, hdx, b, hb1, yes, no⟩ := xx
    have JX : Inv X pins σ' H' sI := J'.ofTry okX
    have sky2 : Sky B (X.env :: X.outer) a (Zc cls d) X.env.locals z.heap := by rw [← hst]; exact sky
    show wpAny (model X.prog X.w) X.A (noteFrame (.ref a) X.env) _ _ _
    refine Sky.land Zc.steady framesX hfrm sky2 fun g3 fly3 up3 => ?_
    have land3 : Inv X pins σ' H' { z with heap := g3 } := JX.landed nb fly3.1 (up.trans up3) os ag
    obtain ⟨oe3, vs3, he3, hz3, hd3⟩ := fly3.there
    have noBase : B.get? a = none := fly3.2.1
    have noFrame : a ∉ frs (X.env :: X.outer) := fun hm => by
      obtain ⟨_, o', e', hnf⟩ := fly3.2.2.1.mem hm
      rw [he3] at e'
      cases e'
      exact hnf _ hd3
    have noI : sI.heap.get? a = none := by
      cases q : sI.heap.get? a with
      | none => rfl
      | some o =>
        have q2 := nb a o q (by rw [show (X.tr (X.pn ++ pins) afterAll).stack = X.env :: X.outer from hst]; exact noFrame)
        rw [noBase] at q2
        cases q2
    have no0 : X.s_0.heap.get? a = none := by
      cases q : X.s_0.heap.get? a with
      | none => rfl
      | some o =>
        obtain ⟨o', q4⟩ := JX.base.there a o q (by rw [hex]; simp)
        rw [noI] at q4
        cases q4
    have noL : a ≠ X.env.locals := fun q => noFrame (List.mem_filterMap.mpr ⟨X.env, List.mem_cons_self, by rw [hfrm, q]⟩)
    have noF : a ∉ X.fs := fun hm => by
      obtain ⟨e, he, q⟩ := List.mem_filterMap.mp hm
      exact noFrame (List.mem_filterMap.mpr ⟨e, List.mem_cons_of_mem _ he, q⟩)
    have noPin : ∀ p ∈ X.pn ++ pins, p.1 ≠ a := fun p hp q => by
      have q2 := (JX.pin p hp).1
      rw [q, noI] at q2
      cases q2
    have inS3 := land3.suite he3 hd3 na noL noF
    refine wpAny_handleBy_cons (codeAny_handlers_test ?_) (by intro q; cases q)
    have tyA : PySem.W.Looks (model X.prog X.w) g3 (typeOf (.ref a)) cls := fun A Q E s k q => wpAny_typeOf_ref (k _ _ he3) (by rw [hz3.1]; exact q)
    have fits := PySem.W.exm_one (M := model X.prog X.w) (land3.kIn) tyA hb1
    have reads : ∀ {Q : Value → Shared → Prop} {E : Value → Shared → Prop}, Q c { z with heap := g3 } → wpAny (model X.prog X.w) (X.A.mark (some (.ref a))) (eval (.Name x np) X.env) Q E { z with heap := g3 } := fun {Q E} q => by
      obtain ⟨hg, hdbg, hm | ⟨hm, hv, hnn⟩⟩ := hnm
      · exact ld_glob (X := X.suite a ((a, oe3) :: (X.pn ++ pins))) inS3 hg hm q hdbg
      · exact ld_blt (X := X.suite a ((a, oe3) :: (X.pn ++ pins))) inS3 hg hm hv q hnn hdbg
    refine reads (fits.here ?_)
    cases b with
    | false =>
      show wpAny _ X.A (handleBy (.ref a) X.env []) _ _ _
      refine wpAny_handleBy_nil ?_
      obtain ⟨k1, k2, k3, oe, vs, T, oT, ts', he, hz, hd, h1, hr⟩ := id fly3
      unfold PySem.passOn
      refine wpAny_bind (wpAny_field he hd h1 ?_)
      rw [if_neg (by simp : ¬ ((Value.ref T == Value.none) = true))]
      have last : wpAny (model X.prog X.w) X.A (setFlight (.ref a) X.env.frame) (fun _ z4 => wpAny (model X.prog X.w) X.A (throw (.ref a) : Sem Flow) (SP X pins De) X.xe z4) X.xe { z with heap := g3 } := by
        rw [hfrm]
        refine HandSPX.setFlight_upZ fly3 fun g4 held4 up4 => wpAny_throw (takes _ _ ?_)
        exact ⟨a, B, sI, pins, σ', H', cls, d, rfl, JX, nb, (up.trans up3).trans up4, .inr (.inr (by rw [hst]; exact held4)), na, os, ag, no rfl⟩
      first
        | exact wpAny_bind (wpAny_pure (wpAny_bind last))
        | exact wpAny_bind last
    | true =>
      refine codeAny_handlers_suite_as ?_
      refine HandSPX.lands_againZ fly3 fun g4 fly4 up4 => ?_
      have land4 : Inv X pins σ' H' { z with heap := g4 } := JX.landed nb fly4.1 ((up.trans up3).trans up4) os ag
      obtain ⟨oe4, vs4, he4, hz4, hd4⟩ := fly4.there
      have inS4 := land4.suite he4 hd4 na noL noF
      refine store_ok (X := X.suite a ((a, oe4) :: (X.pn ++ pins))) (v := .ref a) inS4 nd hslot (.inl hkind) rfl (fun z5 inS5 => ?_) (.inr hkind)
      refine wpAny_mono ((inSuite a oe4 cls d (X.pn ++ pins) hz4 ⟨_, hd4⟩).run [] z5 _ H' _ inS5 (yes rfl a na JX.len)) (fun f z6 hsp => ?_) (fun _ _ q => False.elim q)
      cases f with
      | next =>
        obtain ⟨σ6, H6, inS6, q6⟩ := hsp
        have pinned := inS6.pin (a, oe4) (List.mem_append_left _ List.mem_cons_self)
        have out6 : Inv X ((a, oe4) :: pins) σ6 H6 z6 := ⟨okX, inS6.os, inS6.bare, inS6.base, inS6.loc, inS6.cell, inS6.free, inS6.freeC, fun p hp => inS6.pin p (by
          rw [List.append_nil]
          rcases List.mem_append.mp hp with hp | hp
          · exact List.mem_cons_of_mem _ (List.mem_append_left _ hp)
          · rcases List.mem_cons.mp hp with hp | hp
            · rw [hp]; exact List.mem_cons_self
            · exact List.mem_cons_of_mem _ (List.mem_append_right _ hp)), inS6.hok, inS6.len⟩
        refine gone_ok out6 nd hslot hkind fun z7 out7 => ?_
        obtain ⟨at7, na7, _⟩ := out7.pin (a, oe4) (List.mem_append_right _ List.mem_cons_self)
        have fin7 : Inv X pins (σ6.set i none) H6 z7 := ⟨okX, out7.os, out7.bare, out7.base, out7.loc, out7.cell, out7.free, out7.freeC, fun p hp => out7.pin p (by
          rcases List.mem_append.mp hp with hp | hp
          · exact List.mem_append_left _ hp
          · exact List.mem_append_right _ (List.mem_cons_of_mem _ hp)), out7.hok, out7.len⟩
        exact ⟨_, _, hold_exc fin7 at7 (hz4.1.trans hC) (hz4.2.trans hdx) hd4 na7 no0 noL noPin, q6⟩
      | brk => obtain ⟨_, _, _, q6⟩ := hsp; exact q6.elim
      | cont => obtain ⟨_, _, _, q6⟩ := hsp; exact q6.elim
      | ret u => obtain ⟨_, _, _, _, _, q6⟩ := hsp; exact q6.elim
  refine wpAny_Try_except ?_
  refine wpAny_mono ((inBody (wAsK X.K c X.N.length i ts Wout De) (X.pn ++ pins) afterAll caught PassesOwn.looking).run [] s σ H De (I.toTry _) h) (fun f z1 hsp => ?_) (fun e z1 he => he)
  cases f with
  | next =>
    obtain ⟨σ', H', J', q⟩ := hsp
    exact wpAny_execs_nil ⟨σ', H', J'.ofTry okX, q⟩
  | brk =>
    obtain ⟨σ', H', J', q⟩ := hsp
    exact ⟨σ', H', J'.ofTry okX, q⟩
  | cont =>
    obtain ⟨σ', H', J', q⟩ := hsp
    exact ⟨σ', H', J'.ofTry okX, q⟩
  | ret u =>
    obtain ⟨v, σ', H', J', r, q⟩ := hsp
    exact ⟨v, σ', H', J'.ofTry okX, r, q⟩
end
end Dp

set_option Elab.async false
set_option linter.all false
set_option maxRecDepth 100000
set_option maxHeartbeats 4000001
/-! isinstance of a caught error, its attributes; index; dicts that are empty; raw -/
namespace Dp
open PySem PySem.Spec PyProof.Rows L2
/-- what a class of errors must say -/
structure ErC (K : PySem.W.Frag) (C : Addr) : Prop where
  xf : XfC K C
  cl : (PySem.W.clsIn K C).isSome = true
  ha : PySem.W.findIn K (.ref C) "__class__" = some (some (.builtin "object.__class__"))
  hn : PySem.W.specialIn K (.builtin "object.__class__") "__get__" = some (some (.builtin "getset_descriptor.__get__"))
  ht : PySem.W.takesIn K (.builtin "object.__class__") = some true
  hm : PySem.W.mroIn K C (.type "object") = some true
  o : OexC K C
section
variable {X : Cx} {pins : List (Addr × Obj)} {σ : L2.St} {H : Hp} {s : Shared} {a C dx : Addr}
theorem exq_at (I : Inv X pins σ H s) (e : H a = some (exq a C dx)) : ∃ (o : Obj) (vs : Array Value), s.heap.get? a = some o ∧ o.cls = .ref C ∧ o.dict = some dx ∧ o.data = .fields vs := by
  have z : ObjOk X.prog X.w H s.heap a (.ext fun h => ∃ (o : Obj) (vs : Array Value), h.get? a = some o ∧ o.cls = .ref C ∧ o.dict = some dx ∧ o.data = .fields vs) := I.hok a _ e
  exact z.1
/-- isinstance(e, C'), e a caught error -/
def rIsQ (K : PySem.W.Frag) : List V → Hp → VK → Prop := fun xs H Q => ∃ (a C dx D : Addr) (fs : List (PySem.Str × V)) (b : Bool), xs = [.ref a, .ref D] ∧ H a = some (exq a C dx) ∧ H dx = some (.xd fs) ∧ ErC K C ∧ PySem.W.kitOne K (.ref C) (.ref D) = some b ∧ Q (.bl b) H
theorem call_isQ : CallR X (.builtin "isinstance") (rIsQ X.K) := by
  intro pins s σ H xs us Q I r h
  obtain ⟨a, C, dx, D, fs, b, rfl, ea, ed, E, ek, q⟩ := h
  obtain ⟨u1, u2, rfl, r1, r2⟩ := vals2 r
  cases (show u1 = Value.ref a from r1)
  cases (show u2 = Value.ref D from r2)
  obtain ⟨o, vs, g, c, d, f⟩ := exq_at I ea
  obtain ⟨mA, hns, hr⟩ := (show ObjOk X.prog X.w H s.heap dx (.xd fs) from I.hok dx _ ed)
  obtain ⟨od, ho, hl⟩ := lookIn_ns hns
  have J : PySem.W.InstAt s.heap a o C (some od) := ⟨g, c, by unfold PySem.W.notCls; rw [f] <;> rfl, by rw [d]; exact ho⟩
  exact PySem.W.kia_one (PySem.W.kitx_exc E.cl E.xf.ga E.xf.gg E.xf.exC E.ha E.hn E.ht E.hm) I.kIn J ek (fun z => nomatch z) fun tk => ⟨.bl b, H, I.tok tk, rfl, q⟩
def rIsi3 (K : PySem.W.Frag) : List V → Hp → VK → Prop := fun xs H Q => rIsi1 K xs H Q ∨ rIsQ K xs H Q
theorem callIsi3 : CallR X (.builtin "isinstance") (rIsi3 X.K) := callIsi.or call_isQ
theorem isi3K {K : PySem.W.Frag} (h : X.K = K := by rfl) : CallR X (.builtin "isinstance") (rIsi3 K) := h ▸ callIsi3
/-- e.f, e a caught error -/
def tXq (K : PySem.W.Frag) (f : PySem.Str) (te : TE) : TE := fun σ H Q => te σ H fun x H1 => ∃ (a C dx : Addr) (fs : List (PySem.Str × V)) (v : V), x = .ref a ∧ H1 a = some (exq a C dx) ∧ H1 dx = some (.xd fs) ∧ ErC K C ∧ PySem.W.findIn K (.ref C) f = some none ∧ fs.lookup f = some v ∧ Q v H1
theorem pe_xq {e : Expr} {te : TE} {pos : Pos} {n : PySem.Str} (he : PE X e te) (hb : attributeBase e n X.env (eval e X.env) = eval e X.env := by rfl) : PE X (.Attribute e n pos) (tXq X.K n te) := by
  refine ⟨fun pins s σ H Q I h => attr_of hb (thn (he.run pins s σ H _ I h) fun u s1 hh => ?_)⟩
  obtain ⟨x, H1, I1, rx, a, C, dx, fs, v, ex, ea, ed, E, no, l, q⟩ := hh
  subst ex
  obtain rfl : u = Value.ref a := rx
  obtain ⟨o, vs, g, c, d, f⟩ := exq_at I1 ea
  obtain ⟨mA, hns, hr⟩ := (show ObjOk X.prog X.w H1 s1.heap dx (.xd fs) from I1.hok dx _ ed)
  obtain ⟨od, ho, hl⟩ := lookIn_ns hns
  obtain ⟨w, hw, rw'⟩ := RelO.some_of (v := v) (o := mA n) (by rw [← l]; exact hr n)
  have J : PySem.W.InstAt s1.heap a o C (some od) := ⟨g, c, by unfold PySem.W.notCls; rw [f] <;> rfl, by rw [d]; exact ho⟩
  exact HandSPX.exc_get I1.kIn J E.xf.ga E.xf.gg E.xf.exC (PySem.W.findObj_own E.xf.hdC no rfl (by rw [hl, hw])) (handed_of rw') ⟨v, H1, I1.tok _, rw', q⟩
theorem xqK {K : PySem.W.Frag} {e : Expr} {te : TE} {pos : Pos} {n : PySem.Str} (he : PE X e te) (hb : attributeBase e n X.env (eval e X.env) = eval e X.env := by rfl) (h : X.K = K := by rfl) : PE X (.Attribute e n pos) (tXq K n te) := h ▸ pe_xq he hb
end
end Dp

set_option Elab.async false
set_option linter.all false
set_option maxRecDepth 100000
set_option maxHeartbeats 4000001
/-! errors on data: a def that may raise, raise, try .. except .. as .., what is kept of it -/
namespace Dp
open PySem PySem.Spec PyProof.Rows L2
/-- what is wanted of an error: its class, its fields (keys, data), the slots where it comes -/
abbrev KX := Addr → List PySem.Str → List D → Env → Mu → Nat → Prop
/-- the wish W holds where Wd holds of the data -/
def XOk (c : Cb) (W : WX) (Wd : KX) : Addr → Hp → Hp → Prop := fun t H0 G0 => ∀ C dx σ H G ks vs xs ds μ n, Sb c t H0 G0 H G μ n → RpS c t G σ ds → G dx = some (.xd (ks.zip vs)) → ks.length = vs.length → RpL c t G xs vs → Wd C ks xs ds μ n → W (.ref C) (some dx) σ H
theorem XOk.up {c : Cb} {W : WX} {Wd : KX} {t : Addr} {H0 G0 G1 : Hp} (x : XOk c W Wd t H0 G0) (g : Same G0 G1) (n0 : ∀ b o, Nt o → H0 b = some o → G0 b = none → G1 b = none) : XOk c W Wd t H0 G1 :=
  fun C dx σ H G ks vs xs ds μ n s r e l rs w => x C dx σ H G ks vs xs ds μ n ⟨s.gh, s.gt, s.pen, s.own, Same.trans g s.g0, s.h0, fun b o no hb hg => s.n0 b o no hb (n0 b o no hb hg)⟩ r e l rs w
abbrev cx (c : Cb) (W : WX) (Wd : KX) : Cn := ⟨c, XOk c W Wd, fun _ _ _ _ x g n => x.up g n⟩
/-- a promise with errors -/
abbrev FX := List D → Nat → (D → Nat → Prop) → (Addr → List PySem.Str → List D → Nat → Prop) → Prop
def spX (c : Cb) (k : Nat) (F : FX) : Sp := fun vs H Q E => ∃ t G ds n Qd Qx, vs.length = k ∧ RpL c t G ds vs ∧ Same G H ∧ (∀ b, Fx c t b → G b = none) ∧ PenOk c t H G n ∧ F ds n Qd Qx ∧
  (∀ v H' G' d n', Stp c t H G H' G' n' → Rp c t G' d v → Qd d n' → Q v H') ∧
  (∀ C dx H' G' ks vs xs n', Stp c t H G H' G' n' → G' dx = some (.xd (ks.zip vs)) → ks.length = vs.length → RpL c t G' xs vs → Qx C ks xs n' → E (.ref C) (some dx) H')
def wCallX (Wd : KX) (F : FX) (wr : WA) : WE := fun ds μ n Q => wr ds μ n fun xs μ1 n1 => F xs n1 (fun d n2 => Q d μ1 n2) fun C ks ys n2 => Wd C ks ys ds μ1 n2
section
variable {c : Cb} {W : WX} {Wd : KX} {tr : TA} {wr : WA}
theorem snd_callX {k : Nat} {F : FX} (hF : ∀ ds n Q Qx, F ds n Q Qx → ds.length = k) (h : SndA (cx c W Wd) tr wr) : Snd (cx c W Wd) (tCallS (spX c k F) (L2.WE W) tr) (wCallX Wd F wr) := fun t H0 G0 H G σ ds μ n Q Qd r s w kk =>
  h t H0 G0 H G σ ds μ n _ _ r s w fun vs H1 G1 xs μ1 n1 s1 g1 rs w1 =>
    ⟨t, G1, xs, n1, _, _, (RpL.len rs).trans (hF _ _ _ _ w1), rs, s1.gh, s1.gt, s1.pen, w1, fun v H2 G2 d n2 st rv q => kk v H2 G2 d μ1 n2 (s1.step st) (Same.trans g1 st.g) rv q,
      fun C dx H2 G2 ks us ys n2 st e l rs2 q => s1.adm C dx σ H2 G2 ks us ys ds μ1 n2 (s1.step st).toSb ((r.mono g1).mono st.g) e l rs2 q⟩
/-- raise C(e), C's __init__ keeping spPart of one text -/
def spPart (K : PySem.W.Frag) (key : PySem.Str) : Sp := fun vs H Q _ => ∃ (a C : Addr) (y : PySem.Str), vs = [.ref a, .str y] ∧ y.length ≤ 60 ∧ OexC K C ∧ PySem.W.findIn K (.ref C) key = some none ∧ H a = some (exo a C none) ∧
  ∀ dx, H dx = none → dx ≠ a → Q .non (upd (upd H dx (exd dx [(key, .str y)])) a (exo a C (some dx)))
def wRaise (Wd : KX) (C : Addr) (key : PySem.Str) (wr : WA) : WS := fun _ ds μ n => wr ds μ n fun xs μ1 n1 => ∃ y : PySem.Str, xs = [.str y] ∧ y.length ≤ 60 ∧ Wd C [key] xs ds μ1 n1
theorem raised_heap {H : Hp} {a d C : Addr} {key : PySem.Str} {v : V} (ha : H a = none) (hd : d ≠ a) : upd (del (upd (upd (upd H a (exo a C none)) d (exd d [(key, v)])) a (exo a C (some d))) a) d (.xd [(key, v)]) = upd H d (.xd [(key, v)]) := by
  funext b
  by_cases h : b = d
  · rw [h, upd_same, upd_same]
  · rw [upd_ne h, upd_ne h]
    by_cases h2 : b = a
    · rw [h2, del_same, ha]
    · rw [del_ne h2, upd_ne h2, upd_ne h, upd_ne h2]
theorem sndS_raise {C : Addr} {key : PySem.Str} {K : PySem.W.Frag} (hK : K = c.K) (o : OexC K C) (no : PySem.W.findIn K (.ref C) key = some none) (h : SndA (cx c W Wd) tr wr) :
    SndS (cx c W Wd) (fun _ σ H => tMkO C (spPart K key) [] tr σ H fun cls d H' => W cls d σ H') (wRaise Wd C key wr) := fun t H0 G0 H G σ ds μ n De E r s k1 k2 k3 k4 w =>
  h t H0 G0 H G σ ds μ n _ _ r s w fun vs H1 G1 xs μ1 n1 s1 g1 rs ⟨y, ex, hy, q⟩ => by
    subst ex
    simp only [RpL, Rp] at rs
    obtain ⟨v, _, rfl, rfl, rfl⟩ := rs
    refine ⟨by simp, fun a na => ⟨a, C, y, rfl, hy, o, no, upd_same, fun d hd da => ⟨rfl, d, [(key, .str y)], upd_same, ?_, ?_, ?_⟩⟩⟩
    · rw [upd_ne da, upd_same]
    · rw [upd_ne da] at hd; exact hd
    · rw [upd_ne da] at hd
      rw [raised_heap na da]
      have st := s1.new (o := .xd [(key, .str y)]) hd
      exact s1.adm C d σ _ _ [key] [.str y] [.str y] ds μ1 n1 (s1.step st).toSb ((r.mono g1).mono st.g) upd_same rfl (by simp only [RpL, Rp]; exact ⟨_, _, rfl, rfl, rfl⟩) q
/-- try: .. except x as n: m = n (every error of the body fits) -/
def wdKeep (K : PySem.W.Frag) (cB : Addr) (i j : Nat) (De : DEnds) : KX := fun C ks xs ds μ n => PySem.W.exmOne K (.ref C) (.ref cB) = some true ∧ De.nx (((ds.set i none).set j (some (.exc C ks xs))).set i none) μ n
def wTryK (K : PySem.W.Frag) (cB : Addr) (i j : Nat) (wb : KX → WS) : WS := fun De ds μ n => wb (wdKeep K cB i j De) De ds μ n
theorem RpS.set2 {c : Cb} {t : Addr} {G : Hp} {σ : L2.St} {ds : Env} {i j : Nat} {d : D} {v u : V} (r : RpS c t G σ ds) (h : Rp c t G d v) : RpS c t G (((σ.set i (some u)).set j (some v)).set i none) (((ds.set i none).set j (some d)).set i none) := by
  have base : RpS c t G (σ.set i (some u)) (ds.set i none) := ⟨by rw [List.length_set, List.length_set]; exact r.1, fun k e he => by
    rw [List.getElem?_set] at he
    by_cases hk : i = k
    · subst hk
      rw [if_pos rfl] at he
      split at he <;> cases he
    · rw [if_neg hk] at he
      obtain ⟨x, h1, h2⟩ := r.2 k e he
      exact ⟨x, by rw [List.getElem?_set, if_neg hk]; exact h1, h2⟩⟩
  have b2 := base.set (i := j) h
  refine ⟨by simp only [List.length_set]; exact r.1, fun k e he => ?_⟩
  rw [List.getElem?_set] at he
  by_cases hk : i = k
  · subst hk
    rw [if_pos rfl] at he
    split at he <;> cases he
  · rw [if_neg hk] at he
    obtain ⟨x, h1, h2⟩ := b2.2 k e he
    exact ⟨x, by rw [List.getElem?_set, if_neg hk]; exact h1, h2⟩
end
theorem sndS_try {c : Cn} {tb : WX → TS} {wb : KX → WS} {cB : Addr} {m i j : Nat} {Wout : WX} {K : PySem.W.Frag} (him : i < m) (hb : ∀ W Wd, SndS (cx c.toCb W Wd) (tb W) (wb Wd)) :
    SndS c (fun De σ H => tb (wAsK K (.ref cB) m i (fun _ _ _ => tAsg (tVar i) (gName j)) Wout De) De σ H) (wTryK K cB i j wb) := fun t H0 G0 H G σ ds μ n De E r s k1 k2 k3 k4 w => by
  refine hb _ _ t H0 G0 H G σ ds μ n De E r ⟨s.toSb, ?_⟩ (fun σ' H' G' ds' μ' n' r' s' q => k1 σ' H' G' ds' μ' n' r' ⟨s'.toSb, s.adm⟩ q) (fun v H' G' d n' s' r' q => k2 v H' G' d n' ⟨s'.toSb, s.adm⟩ r' q)
    (fun σ' H' G' ds' μ' n' r' s' q => k3 σ' H' G' ds' μ' n' r' ⟨s'.toSb, s.adm⟩ q) (fun σ' H' G' ds' μ' n' r' s' q => k4 σ' H' G' ds' μ' n' r' ⟨s'.toSb, s.adm⟩ q) w
  intro C dx σ' H' G' ks vs xs ds' μ' n' s' r' e l rs ⟨q1, q2⟩
  refine ⟨C, dx, rfl, rfl, true, q1, fun _ a na hl => ?_, fun z => nomatch z⟩
  have hi : i < σ'.length := by rw [hl]; exact him
  have st := s'.new (o := exq a C dx) na (by intro _ z; unfold exq at z; cases z)
  have dne : dx ≠ a := fun z => by
    have := s'.gh _ _ e
    rw [z, na] at this
    cases this
  have rx : Rp c.toCb t (upd G' a (exq a C dx)) (.exc C ks xs) (.ref a) := by
    simp only [Rp]
    exact ⟨a, dx, vs, rfl, upd_same, by rw [upd_ne dne]; exact e, l, RpL.mono st.g _ _ rs⟩
  refine ⟨.ref a, by rw [List.getElem?_set, if_pos rfl, if_pos hi], ?_⟩
  exact k1 _ _ _ _ μ' n' ((r'.mono st.g).set2 rx) ⟨s'.step st, s.adm⟩ q2
/-! ### isinstance, attributes, index -/
section
variable {c : Cn}
/-- what isinstance answers of data, the class an own one -/
def isiA (K : PySem.W.Frag) (R : Addr) : D → Addr → Option Bool
  | .row _, a => PySem.W.kitOne K (.ref R) (.ref a)
  | .exc C _ _, a => PySem.W.kitOne K (.ref C) (.ref a)
  | d, a => (tyName d).bind fun T => PySem.W.kitOne K (.type T) (.ref a)
def erOk (K : PySem.W.Frag) : D → Prop
  | .exc C _ _ => ErC K C
  | _ => True
def rdIsi3 (c : Cb) : List D → Mu → Nat → KD → Prop
  | [x, .adr a], μ, n, Q => erOk c.K x ∧ ∃ b, isiA c.K c.R x a = some b ∧ Q (.bl b) μ n
  | _, _, _, _ => False
theorem rdIsi3_inv {c : Cb} {ds : List D} {μ : Mu} {n : Nat} {Q : KD} (h : rdIsi3 c ds μ n Q) : ∃ x a, ds = [x, .adr a] ∧ erOk c.K x ∧ ∃ b, isiA c.K c.R x a = some b ∧ Q (.bl b) μ n := by
  unfold rdIsi3 at h
  split at h
  · exact ⟨_, _, rfl, h⟩
  · exact h.elim
theorem sndC_isi3 (T : RowT c) : SndC c (rIsi3 c.K) (rdIsi3 c) := fun t H0 G0 H G xs ds μ n Q Qd s rs w k => by
  obtain ⟨x, a, rfl, hE, b, h, q⟩ := rdIsi3_inv w
  · simp only [RpL] at rs
    obtain ⟨v, _, rfl, rv, u, _, rfl, ru, rfl⟩ := rs
    simp only [Rp] at ru
    subst ru
    have kn := k.now s (v := .bl b) (by simp only [Rp]) q
    have own : ∀ T', tyName x = some T' → (tyName x).bind (fun T => PySem.W.kitOne c.K (.type T) (.ref a)) = some b → rIsi3 c.K [v, .ref a] H Q := fun T' e e2 => by
      rw [e] at e2
      exact .inl (.inl ⟨v, .ref a, _, _, b, rfl, .own a, tyX_of s rv e, e2, kn⟩)
    cases e : tyName x with
    | some T' =>
      have h2 : (tyName x).bind (fun T => PySem.W.kitOne c.K (.type T) (.ref a)) = some b := by
        cases x <;> first | exact h | (exfalso; simp only [tyName] at e; cases e; done)
      exact own T' e h2
    | none =>
      cases x <;> simp only [tyName] at e <;> simp only [isiA, tyName, Option.bind_none] at h
      all_goals first | (cases e; done) | (cases h; done) | skip
      case row ns => exact .inl (.inl ⟨v, .ref a, _, _, b, rfl, .own a, tyX_row T s rv, h, kn⟩)
      case exc C ks xs =>
        simp only [Rp] at rv
        obtain ⟨p, dx, vs, rfl, h1, h2, _⟩ := rv
        exact .inr ⟨p, C, dx, a, _, b, rfl, s.gh _ _ h1, s.gh _ _ h2, hE, h, kn⟩
/-- e.f of a caught error -/
def wXq (K : PySem.W.Frag) (f : PySem.Str) (we : WE) : WE := fun ds μ n Q => we ds μ n fun d μ1 n1 => ∃ C ks xs y, d = .exc C ks xs ∧ ErC K C ∧ PySem.W.findIn K (.ref C) f = some none ∧ (ks.zip xs).lookup f = some y ∧ Q y μ1 n1
theorem zip_look {t : Addr} {G : Hp} {f : PySem.Str} {y : D} : ∀ {ks : List PySem.Str} {xs : List D} {vs : List V}, RpL c t G xs vs → (ks.zip xs).lookup f = some y → ∃ v, (ks.zip vs).lookup f = some v ∧ Rp c t G y v
  | [], _, _, _, e => by simp at e
  | _ :: _, [], _, _, e => by simp at e
  | k :: ks, x :: xs, vs, r, e => by
    simp only [RpL] at r
    obtain ⟨v, vr, rfl, h1, h2⟩ := r
    simp only [List.zip_cons_cons, List.lookup_cons] at e ⊢
    cases q : f == k with
    | true => rw [q] at e; cases e; exact ⟨v, rfl, h1⟩
    | false => rw [q] at e; exact zip_look h2 e
theorem snd_xq {te : TE} {we : WE} {f : PySem.Str} (h : Snd c te we) : Snd c (tXq c.K f te) (wXq c.K f we) := fun t H0 G0 H G σ ds μ n Q Qd r s w k =>
  h t H0 G0 H G σ ds μ n _ _ r s w fun v H1 G1 d μ1 n1 s1 g1 rv ⟨C, ks, xs, y, e, E, no, l, q⟩ => by
    subst e
    simp only [Rp] at rv
    obtain ⟨a, dx, vs, rfl, h1, h2, h3, h4⟩ := rv
    obtain ⟨u, hu, ru⟩ := zip_look h4 l
    exact ⟨a, C, dx, _, u, rfl, s1.gh _ _ h1, s1.gh _ _ h2, E, no, hu, (k.mono g1).now s1 ru q⟩
end
end Dp

set_option Elab.async false
set_option linter.all false
set_option maxRecDepth 100000
set_option maxHeartbeats 4000001
/-! defs that raise, by name; a lambda that is handed to a def which catches what it raises -/
namespace Dp
open PySem PySem.Spec PyProof.Rows L2
abbrev WEk (E : XK) : WX := fun cls d _ H => E cls d H
theorem passE {X : Cx} {E : XK} (tk : Takes X (WEk E)) : Passes (L2.CX X.prog X.w) X E := passes_call tk fun _ _ _ _ h => h
section
variable {c : Cb} {E : XK} {Wd : KX} {tr tk : TA} {wr wk : WA}
theorem snd_callE {k : Nat} {F : FX} (hF : ∀ ds n Q Qx, F ds n Q Qx → ds.length = k) (h : SndA (cx c (WEk E) Wd) tr wr) : Snd (cx c (WEk E) Wd) (tCall (spX c k F) [] E tr) (wCallX Wd F wr) := fun t H0 G0 H G σ ds μ n Q Qd r s w kk =>
  h t H0 G0 H G σ ds μ n _ _ r s w fun vs H1 G1 xs μ1 n1 s1 g1 rs w1 => by
    rw [List.append_nil]
    exact ⟨t, G1, xs, n1, _, _, (RpL.len rs).trans (hF _ _ _ _ w1), rs, s1.gh, s1.gt, s1.pen, w1, fun v H2 G2 d n2 st rv q => kk v H2 G2 d μ1 n2 (s1.step st) (Same.trans g1 st.g) rv q,
      fun C dx H2 G2 ks us ys n2 st e l rs2 q => s1.adm C dx σ H2 G2 ks us ys ds μ1 n2 (s1.step st).toSb ((r.mono g1).mono st.g) e l rs2 q⟩
def wCallX1 (N : Nat) (Wd : KX) (F : FX) (wk : WA) : WE := fun ds μ n Q => wk ds μ n fun ys μ1 n1 => F (kg 0 N [] ys) n1 (fun d n2 => Q d μ1 n2) fun C ks zs n2 => Wd C ks zs ds μ1 n2
theorem snd_callKE {k N : Nat} {F : FX} (hF : ∀ ds n Q Qx, F ds n Q Qx → ds.length = k) (h : SndA (cx c (WEk E) Wd) tk wk) : Snd (cx c (WEk E) Wd) (tCallK0 (spX c k F) (kg 0 N) E tk) (wCallX1 N Wd F wk) := fun t H0 G0 H G σ ds μ n Q Qd r s w kk =>
  h t H0 G0 H G σ ds μ n _ _ r s w fun us H1 G1 ys μ1 n1 s1 g1 rs w1 => by
    have rr := kg_rpl (n := 0) (m := N) (c := cx c (WEk E) Wd) (t := t) (G := G1) RpL.nil rs
    exact ⟨t, G1, _, n1, _, _, (RpL.len rr).trans (hF _ _ _ _ w1), rr, s1.gh, s1.gt, s1.pen, w1, fun v H2 G2 d n2 st rv q => kk v H2 G2 d μ1 n2 (s1.step st) (Same.trans g1 st.g) rv q,
      fun C dx H2 G2 ks us ys n2 st e l rs2 q => s1.adm C dx σ H2 G2 ks us ys ds μ1 n2 (s1.step st).toSb ((r.mono g1).mono st.g) e l rs2 q⟩
end
section
variable (P : Program) (w : World) (K : PySem.W.Frag) (mg : PySem.Str → Option Value) (base : Heap)
/-- the module's name x is a def that keeps sp, and may raise -/
def DnX (x : PySem.Str) (k : Nat) (ps : List PySem.Str) (sp : Sp) : Prop := ∃ f fd, mg x = some (.ref f) ∧ FnOk P w K mg base (L2.CX P w) k f fd ps sp ∧ PySem.W.keepIn K (.ref f) = true ∧ Binds K fd ps [] ∧ (1 ≤ ps.length → KBinds K fd ps ps (kg 0 ps.length) (kg 0 ps.length))
/-- a class of errors, its making -/
def ErD (x : PySem.Str) (C : Addr) (k : Nat) (sp : Sp) : Prop := ∃ f fd ps, mg x = some (.ref C) ∧ OexC K C ∧ PySem.W.findIn K (.ref C) "__init__" = some (some (.ref f)) ∧ PySem.W.typeIn K (.ref f) = some (.type "function") ∧ FnOk P w K mg base CX0 k f fd ps sp ∧ Binds K fd ps []
end
section
variable {X : Cx} {x : PySem.Str} {k j : Nat} {ps : List PySem.Str} {sp : Sp} {E : XK} {C : Addr} {p pos pos' : Pos} {e : Expr} {es : List Expr} {kws : List Keyword} {t tk' : TA}
theorem pe_dx (D : DnX X.prog X.w X.K X.mg X.base x k ps sp) (hr : Room j X.A) (hg : Gl X x) (tk : Takes X (WEk E)) (ha : PA X (e :: es) t) (hk : k ≤ j := by decide) (hdb : (x == ("__debug__" : PySem.Str)) = false := by decide)
    (he : starEach (e :: es) X.env = (false, eval e X.env) :: starEach es X.env := by rfl) (hpl : (backTo pos (starEach es X.env)).any (·.1) = false := by rfl) : PE X (.Call (.Name x p) (e :: es) [] pos) (tCall sp [] E t) := by
  obtain ⟨f, fd, h1, h2, h3, h4, _⟩ := D
  exact pe_call h2 (hr.mono hk) hg h1 h3 h4 .nil (passE tk) ha hdb he hpl
theorem pe_dkx (D : DnX X.prog X.w X.K X.mg X.base x k ps sp) (hr : Room j X.A) (hg : Gl X x) (tk : Takes X (WEk E)) (ha : PK X kws tk') (h1p : 1 ≤ ps.length := by decide) (hk : k ≤ j := by decide) (hdb : (x == ("__debug__" : PySem.Str)) = false := by decide)
    (hall : (backToKw pos (keywordEach kws X.env)).all (·.1.isSome) = true := by rfl) (hks : (backToKw pos (keywordEach kws X.env)).filterMap (·.1) = ps := by rfl)
    (hpl : ((backTo pos (starEach [] X.env)).any (·.1) || (backToKw pos (keywordEach kws X.env)).any (·.1.isNone)) = false := by rfl) : PE X (.Call (.Name x p) [] kws pos) (tCallK0 sp (kg 0 ps.length) E tk') := by
  obtain ⟨f, fd, h1, h2, h3, h4, h5⟩ := D
  exact pe_callK0 h2 (hr.mono hk) hg h1 h3 (h5 h1p) (passE tk) ha hall hks hpl hdb
theorem ps_raiseD (D : ErD X.prog X.w X.K X.mg X.base x C k sp) (hr : Room j X.A) (hg : Gl X x) (tk : Takes X (WEk E)) (ha : PA X (e :: es) t) (hc : X.calm = true := by rfl) (hk : k + 1 ≤ j := by decide) (hdb : (x == ("__debug__" : PySem.Str)) = false := by decide)
    (he : starEach (e :: es) X.env = (false, eval e X.env) :: starEach es X.env := by rfl) (hpl : (backTo pos (starEach es X.env)).any (·.1) = false := by rfl) :
    PS X (.Raise (some (.Call (.Name x p) (e :: es) [] pos)) none pos') (fun _ σ H => tMkO C sp [] t σ H fun cls d H' => WEk E cls d σ H') := by
  obtain ⟨f, fd, ps, h1, h2, h3, h4, h5, h6⟩ := D
  exact ps_raise hc tk (pmk_oex h2 h3 h4 h5 (hr.mono hk) h6 .nil pass0 hg h1 ha hdb he hpl)
end
theorem Sb.drop {c : Cb} {t : Addr} {H0 G0 H G : Hp} {μ : Mu} {n : Nat} (s : Sb c t H0 G0 H G μ n) : Sb c t H0 G0 H G [] n := ⟨s.gh, s.gt, s.pen, fun e he => (by cases he), s.g0, s.h0, s.n0⟩
theorem Sb.stp {c : Cb} {t : Addr} {H0 G0 H G : Hp} {μ : Mu} {n : Nat} (s : Sb c t H0 G0 H G μ n) : Stp c t H0 G0 H G n := ⟨s.g0, s.gh, s.gt, s.pen, s.h0, s.n0⟩
theorem Sb.start {c : Cb} {t : Addr} {H G : Hp} {n : Nat} (gh : Same G H) (gt : ∀ b, Fx c t b → G b = none) (pen : PenOk c t H G n) : Sb c t H G H G [] n := ⟨gh, gt, pen, fun e he => (by cases he), Same.refl _, fun _ _ _ _ h => h, fun _ _ _ _ h => h⟩
/-- a def that may raise keeps its promise -/
theorem fn_x {c : Cb} {P : Program} {w : World} {mg : PySem.Str → Option Value} {base : Heap} {x qual : PySem.Str} {params : Arguments} {body : List Stmt} {scope : Scope} {f : Addr} {fd : FuncData} {N ps : List PySem.Str} {k : Nat} {F : FX}
    (Fn : FunD c.K x qual params body scope [] [] f fd) (Sc : FnScope N ps scope)
    (hb : ∀ (cdv : Value) (A : Around) (outer : List PySem.Env) (s : Shared) (H : Hp) (E : XK), Room k (A.deeper (envOfC qual scope s.heap.objs.size f cdv)) →
      ∃ t, PSs (cxOf (L2.CX P w) P w c.K mg base N qual scope f cdv A outer s H E) body t ∧ ∀ Qx : Addr → List PySem.Str → List D → Nat → Prop, ∃ W, SndS (cx c (WEk E) fun C ks xs _ _ n => Qx C ks xs n) t W ∧
        ∀ ds n Qd, F ds n Qd Qx → ds.length = ps.length → W ⟨fun _ _ n => Qd .non n, Qd, fun _ _ _ => False, fun _ _ _ => False⟩ (startD N ds) [] n) :
    FnOk P w c.K mg base (L2.CX P w) (k + 1) f fd ps (spX c ps.length F) := by
  refine Fn.ok Sc (fun vs H Q E h => ?_) fun cdv A outer s H vs Q E hr h => ?_
  · obtain ⟨t, G, ds, n, Qd, Qx, h1, _⟩ := h
    exact h1
  · obtain ⟨t, G, ds, n, Qd, Qx, hl, rs, gh, gt, pen, hF, hQ, hX⟩ := h
    obtain ⟨tr, hp, hq⟩ := hb cdv A outer s H E hr
    obtain ⟨W, hs, hw⟩ := hq Qx
    have s0 : S (cx c (WEk E) fun C ks xs _ _ n => Qx C ks xs n) t H G H G [] n := ⟨Sb.start gh gt pen, fun C dx σ' H' G' ks us xs ds' μ' n' sb _ e l rs w => hX C dx H' G' ks us xs n' sb.stp e l rs w⟩
    refine ⟨tr, hp, hs t H G H G _ _ [] n _ _ (rpS_start rs) s0 ?_ ?_ ?_ ?_ (hw ds n Qd hF (by rw [← RpL.len rs]; exact hl))⟩
    · exact fun σ' H' G' ds' μ' n' _ s' q => hQ .non H' G' .non n' s'.toSb.stp (by simp only [Rp]) q
    · exact fun v H' G' d n' s' r q => hQ v H' G' d n' s'.toSb.stp r q
    · exact fun _ _ _ _ _ _ _ _ q => q.elim
    · exact fun _ _ _ _ _ _ _ _ q => q.elim
/-! ### a lambda -/
abbrev WL := Nat → (D → Nat → Prop) → (Addr → List PySem.Str → List D → Nat → Prop) → Prop
def LamOk (c : Cb) (t : Addr) (G : Hp) (wl : WL) (tl : XK → Hp → VK → Prop) : Prop := ∀ H2 G2 n2 (E : XK) (Q : VK) (Rn : D → Nat → Prop) (Rx : Addr → List PySem.Str → List D → Nat → Prop), Same G G2 → Same G2 H2 → (∀ b, Fx c t b → G2 b = none) → PenOk c t H2 G2 n2 → wl n2 Rn Rx →
  (∀ v H' G' d n', Stp c t H2 G2 H' G' n' → Rp c t G' d v → Rn d n' → Q v H') →
  (∀ C dx H' G' ks vs xs n', Stp c t H2 G2 H' G' n' → G' dx = some (.xd (ks.zip vs)) → ks.length = vs.length → RpL c t G' xs vs → Rx C ks xs n' → E (.ref C) (some dx) H') → tl E H2 Q
/-- what a def makes of a lambda that it calls -/
abbrev FH := WL → Nat → (D → Nat → Prop) → Prop
def TTh (c : Cb) (Fh : FH) : (XK → Hp → VK → Prop) → Hp → VK → Prop := fun tl H Q => ∃ t G n wl Qd, Same G H ∧ (∀ b, Fx c t b → G b = none) ∧ PenOk c t H G n ∧ LamOk c t G wl tl ∧ Fh wl n Qd ∧
  ∀ v H' G' d n', Stp c t H G H' G' n' → Rp c t G' d v → Qd d n' → Q v H'
def wLamC (Fh : FH) (wb : KX → WE) : WE := fun ds μ n Q => Fh (fun n2 Rn Rx => wb (fun C ks xs _ _ n => Rx C ks xs n) ds [] n2 fun d _ n' => Rn d n') n fun d n' => Q d μ n'
theorem snd_lamC {c : Cn} {Fh : FH} {t : XK → TE} {wb : KX → WE} (hb : ∀ E Wd, Snd (cx c.toCb (WEk E) Wd) (t E) (wb Wd)) : Snd c (LamX.tLam c.T (TTh c.toCb Fh) t) (wLamC Fh wb) := fun t0 H0 G0 H G σ ds μ n Q Qd r s w kk => by
  refine ⟨s.pen.tab, fun H1 eN tb1 => ?_⟩
  have gh1 : Same G H1 := fun b o e => eN b o (s.gh b o e) (s.pen.nt b o e)
  have pen1 : PenOk c.toCb t0 H1 G n := by
    obtain ⟨a, spot, rest, h1, h2, h3⟩ := s.pen.ex
    exact ⟨⟨a, spot, rest, eN _ _ h1 nt_lst, h2, h3⟩, tb1, s.pen.nt⟩
  have st1 : Stp c.toCb t0 H G H1 G n := ⟨Same.refl _, gh1, s.gt, pen1, fun b o _ no e => eN b o e no, fun _ _ _ _ g => g⟩
  refine ⟨t0, G, n, _, _, gh1, s.gt, pen1, fun H2 G2 n2 E Q' Rn Rx g2 gh2 gt2 pen2 wl kn kx => ?_, w, fun v H' G' d n' st rv q => kk v H' G' d μ n' ((s.step st1).step st) st.g rv q⟩
  refine hb E _ t0 H2 G2 H2 G2 σ ds [] n2 Q' (fun d _ n' => Rn d n') (r.mono g2) ⟨Sb.start gh2 gt2 pen2, fun C dx σ' H' G' ks vs xs ds' μ' n' sb _ e l rs w => kx C dx H' G' ks vs xs n' sb.stp e l rs w⟩ wl fun v H' G' d μ' n' s' _ rv q => kn v H' G' d n' s'.toSb.stp rv q
/-- the body of a try that calls the lambda -/
def tAct (f c' : Addr) (q : PySem.Str) (tl : XK → Hp → VK → Prop) (W : WX) : TS := fun De σ H => ∃ Ech : XK, (∀ cls d σ' H', Ech cls d H' → W cls d σ' H') ∧ σ[0]? = some (some (.ref f)) ∧ H c' = some (LamX.CodeO c' q) ∧ tl Ech H fun _ H' => De.nx σ H'
def wAct (f : Addr) (K : PySem.W.Frag) (cB : Addr) (m j : Nat) (wl : WL) : WS := fun De ds μ n => ds[0]? = some (some (.adr f)) ∧ ds.length = m ∧ j < m ∧
  ∃ Rn Rx, wl n Rn Rx ∧ (∀ d n', Rn d n' → De.nx ds μ n') ∧ ∀ C ks xs n', Rx C ks xs n' → PySem.W.exmOne K (.ref C) (.ref cB) = some true ∧ De.nx ((List.replicate m none).set j (some (.exc C ks xs))) μ n'
/-- where the lambda's promise holds -/
abbrev cl (c : Cb) (c' : Addr) (q : PySem.Str) (wl : WL) (tl : XK → Hp → VK → Prop) : Cn := ⟨c, fun t H0 G0 => LamOk c t G0 wl tl ∧ H0 c' = some (LamX.CodeO c' q) ∧ ¬ Fx c t c', fun t H0 G0 G1 h g _ => ⟨fun H2 G2 n2 E Q Rn Rx g2 => h.1 H2 G2 n2 E Q Rn Rx (Same.trans g g2), h.2⟩⟩
theorem rpS_none {c : Cb} {t : Addr} {G : Hp} {σ : L2.St} {m : Nat} (h : σ.length = m) : RpS c t G σ (List.replicate m none) := ⟨by rw [List.length_replicate]; exact h, fun i d e => by
  rw [List.getElem?_replicate] at e
  split at e <;> cases e⟩
theorem sndS_act {c : Cb} {f c' : Addr} {q : PySem.Str} {wl : WL} {tl : XK → Hp → VK → Prop} {cB : Addr} {m i j : Nat} {Wout : WX} {K : PySem.W.Frag} (hij : i ≠ j) (him : i < m) :
    SndS (cl c c' q wl tl) (fun De σ H => tAct f c' q tl (wAsK K (.ref cB) m i (fun _ _ _ => tAsg (tVar i) (gName j)) Wout De) De σ H) (wAct f K cB m j wl) := fun t H0 G0 H G σ ds μ n De E r s k1 k2 k3 k4 ⟨w1, w2, w3, Rn, Rx, w4, w5, w6⟩ => by
  obtain ⟨u, h1, h2⟩ := r.2 0 _ w1
  simp only [Rp] at h2
  subst h2
  have ntC : Nt (LamX.CodeO c' q) := LamX.codeO_ne
  have nfx := s.adm.2.2
  refine ⟨fun cls d H' => ∀ σ', (wAsK K (.ref cB) m i (fun _ _ _ => tAsg (tVar i) (gName j)) Wout E) cls d σ' H', fun cls d σ' H' h => h σ', h1, s.h0 _ _ nfx ntC s.adm.2.1, ?_⟩
  refine s.adm.1 H G n _ _ _ _ s.g0 s.gh s.gt s.pen w4 (fun v H' G' d n' st rv q => k1 σ H' G' ds μ n' (r.mono st.g) (s.step st) (w5 d n' q)) ?_
  intro C dx H' G' ks vs xs n' st e l rs q σ'
  obtain ⟨q1, q2⟩ := w6 C ks xs n' q
  refine ⟨C, dx, rfl, rfl, true, q1, fun _ a na hl => ?_, fun z => nomatch z⟩
  have s' := s.step st
  have st2 := s'.new (o := exq a C dx) na (by intro _ z; unfold exq at z; cases z)
  have dne : dx ≠ a := fun z => by
    have := s'.gh _ _ e
    rw [z, na] at this
    cases this
  have rx : Rp c t (upd G' a (exq a C dx)) (.exc C ks xs) (.ref a) := by
    simp only [Rp]
    exact ⟨a, dx, vs, rfl, upd_same, by rw [upd_ne dne]; exact e, l, RpL.mono st2.g _ _ rs⟩
  refine ⟨.ref a, by rw [List.getElem?_set, if_pos rfl, if_pos (by omega)], ?_⟩
  refine k1 _ _ _ _ μ n' ?_ (s'.step st2) q2
  have b1 : RpS c t (upd G' a (exq a C dx)) σ' (List.replicate m none) := rpS_none hl
  have b2 := b1.set2 (i := i) (j := j) (u := .ref a) rx
  have e0 : (((List.replicate m none).set i none).set j (some (D.exc C ks xs))).set i none = (List.replicate m none).set j (some (D.exc C ks xs)) := by
    apply List.ext_getElem?
    intro k
    simp only [List.getElem?_set, List.length_set, List.length_replicate, List.getElem?_replicate]
    repeat' split
    all_goals first | rfl | omega
  rw [e0] at b2
  exact b2

theorem pss_act {Z : Cx} {a q : PySem.Str} {f c' : Addr} {tl : XK → Hp → VK → Prop} {W : WX} {pn : List (Addr × Obj)} {xe : Value → Shared → Prop} {p1 p2 p3 : Pos}
    (act : ∀ (W : WX) (pn : List (Addr × Obj)) (xe : Value → Shared → Prop) (E : XK) (p1 p2 : Pos), Takes (Z.tr pn xe) W → (∀ cls d σ' H', E cls d H' → W cls d σ' H') →
      PE (Z.tr pn xe) (.Call (.Name a p1) [] [] p2) (fun σZ HZ Q => σZ[0]? = some (some (.ref f)) ∧ HZ c' = some (LamX.CodeO c' q) ∧ tl E HZ Q))
    (tk : Takes (Z.tr pn xe) W) (hs : swapsWith (.Call (.Name a p1) [] [] p2) none p3.line (Z.tr pn xe).env = pure false := by rfl) : PSs (Z.tr pn xe) [.Expr (.Call (.Name a p1) [] [] p2) p3] (tAct f c' q tl W) :=
  ⟨fun pins s σ H D I ⟨Ech, hW, h1, h2, h3⟩ => (pss_one (ps_expr (act W pn xe Ech p1 p2 tk hW) hs)).run pins s σ H D I ⟨h1, h2, h3⟩⟩
/-- the def that calls what it got, by the data -/
theorem gives_of {c : Cb} {X : Cx} {Ng : List PySem.Str} {x a q : PySem.Str} {sg : Scope} {g : Addr} {cdg : Value} {bg : List Stmt} {Fh : FH} (hK : X.K = c.K)
    (hb : ∀ (f c' : Addr) (s : Shared) (H : Hp) (tl : XK → Hp → VK → Prop) (wl : WL),
      (∀ (W : WX) (pn : List (Addr × Obj)) (xe : Value → Shared → Prop) (E : XK) (p1 p2 : Pos), Takes ((cxOf CX0 X.prog X.w X.K X.mg X.base Ng x sg g cdg X.A X.stack s H E0).tr pn xe) W → (∀ cls d σ' H', E cls d H' → W cls d σ' H') →
        PE ((cxOf CX0 X.prog X.w X.K X.mg X.base Ng x sg g cdg X.A X.stack s H E0).tr pn xe) (.Call (.Name a p1) [] [] p2) (fun σZ HZ Q => σZ[0]? = some (some (.ref f)) ∧ HZ c' = some (LamX.CodeO c' q) ∧ tl E HZ Q)) →
      ∃ t, PSs (cxOf CX0 X.prog X.w X.K X.mg X.base Ng x sg g cdg X.A X.stack s H E0).nox bg t ∧ ∃ W, SndS (cl c c' q wl tl) t W ∧ ∀ n Qd, Fh wl n Qd → W ⟨fun _ _ n => Qd .non n, Qd, fun _ _ _ => False, fun _ _ _ => False⟩ (startD Ng [.adr f]) [] n) :
    LamX.GivesTo X Ng x sg g cdg bg a q (TTh c Fh) := by
  intro f c' s H Q tl act hc h
  obtain ⟨t, G, n, wl, Qd, gh, gt, pen, lam, hF, hQ⟩ := h
  obtain ⟨tr, hp, W, hs, hw⟩ := hb f c' s H tl wl act
  have nfx : ¬ Fx c t c' := fun z => by
    rcases z with z | z
    · obtain ⟨o, spot, rest, e1, _⟩ := pen.ex
      rw [← z, hc] at e1
      unfold LamX.CodeO at e1
      cases e1
    · obtain ⟨ps, e1⟩ := tabs_at pen.tab z
      rw [hc] at e1
      unfold LamX.CodeO at e1
      cases e1
  have r0 : RpS c t G (L2.start Ng [.ref f]) (startD Ng [.adr f]) := rpS_start (RpL.one (by simp only [Rp]))
  refine ⟨tr, hp, hs t H G H G _ _ [] n _ _ r0 ⟨Sb.start gh gt pen, lam, hc, nfx⟩ ?_ ?_ ?_ ?_ (hw n Qd hF)⟩
  · exact fun σ' H' G' ds' μ' n' _ s' q => hQ .non H' G' .non n' s'.toSb.stp (by simp only [Rp]) q
  · exact fun v H' G' d n' s' r q => hQ v H' G' d n' s'.toSb.stp r q
  · exact fun _ _ _ _ _ _ _ _ q => q.elim
  · exact fun _ _ _ _ _ _ _ _ q => q.elim
/-! ### truths in a list, index, a dict that is empty -/
section
variable {c : Cn}
theorem inV_bls {i : Bool} : ∀ ns : List Bool, inV (.bl i) (ns.map V.bl) = decide (i ∈ ns)
  | [] => rfl
  | z :: ns => by
    have e := inV_bls (i := i) ns
    unfold inV at e ⊢
    rw [List.map_cons, List.any_cons, e]
    have : eqV (.bl z) (.bl i) = decide (z = i) := Bool.beq_eq_decide_eq z i
    rw [this]
    by_cases h : z = i
    · subst h; simp
    · have h2 : ¬ i = z := fun q => h q.symm
      simp [h, h2]
theorem flat_bls : ∀ ns : List Bool, (ns.map V.bl).all flatV = true
  | [] => rfl
  | _ :: ns => by rw [List.map_cons, List.all_cons, flat_bls ns]; rfl
def rdInB : D → D → Mu → Nat → KD → Prop := fun x y μ n Q => ∃ (i : Bool) (ns : List Bool), x = .bl i ∧ seqOf μ y = some (ns.map D.bl) ∧ Q (.bl (decide (i ∈ ns))) μ n
theorem sndR_inB : SndR c (rIn c.K false) rdInB := fun t H0 G0 H G x y dx dy μ n Q Qd s rx ry ⟨i, ns, e, sq, q⟩ k => by
  subst e
  simp only [Rp] at rx
  subst rx
  obtain ⟨a, vs, rfl, h1, h2⟩ := seq_at s ry sq
  rw [rpl_bls] at h2
  subst h2
  refine ⟨a, _, rfl, h1, rfl, flat_bls ns, ?_⟩
  rw [inV_bls]
  exact k.now s (by simp only [Rp, Bool.false_eq_true, if_false]) q
/-- xs.index(True) of truths -/
def wIdx (wo we : WE) : WE := fun ds μ n Q => wo ds μ n fun o μ1 n1 => ∃ bs : List Bool, o = .lst (bs.map D.bl) ∧ we ds μ1 n1 fun d μ2 n2 => ∃ j : Nat, d = .bl true ∧ bs[j]? = some true ∧ (∀ m, m < j → bs[m]? = some false) ∧ Q (.int (j : Nat)) μ2 n2
theorem snd_idx {to te : TE} {wo we : WE} (ho : Snd c to wo) (h : Snd c te we) : Snd c (tBM c.K "list" (rIndex c.K) to (tCons te tNil)) (wIdx wo we) := fun t H0 G0 H G σ ds μ n Q Qd r s w k =>
  ho t H0 G0 H G σ ds μ n _ _ r s w fun o H1 G1 od μ1 n1 s1 g1 ro ⟨bs, e, w1⟩ => by
    subst e
    simp only [Rp] at ro
    obtain ⟨a, vs, rfl, h1, h2⟩ := ro
    rw [rpl_bls] at h2
    subst h2
    refine ⟨.inl ⟨rfl, _, SqL.of (s1.gh _ _ h1)⟩, h t H0 G0 H1 G1 σ ds μ1 n1 _ _ (r.mono g1) s1 w1 fun v H2 G2 d μ2 n2 s2 g2 rv ⟨j, ed, hj, hm, q⟩ => ?_⟩
    subst ed
    simp only [Rp] at rv
    subst rv
    refine ⟨a, bs.map V.bl, .bl true, j, .bl true, rfl, rfl, SqL.of (s2.gh _ _ (g2 _ _ h1)), rfl, flat_bls bs, by rw [List.getElem?_map, hj]; rfl, rfl, fun m z' lt e => ?_, k _ _ _ _ _ _ s2 (Same.trans g1 g2) (by simp only [Rp]) q⟩
    rw [List.getElem?_map, hm m lt] at e
    cases e
    rfl
def wDic : WE := fun _ μ n Q => Q .dic μ n
theorem snd_dic : Snd c tDNewK wDic := fun t H0 G0 H G σ ds μ n Q Qd r s w k => fun p hp => by
  have st := s.new (o := .dK []) hp
  exact k _ _ _ _ _ _ (s.step st) st.g (by simp only [Rp]; exact ⟨p, rfl, upd_same⟩) w
end
end Dp

set_option Elab.async false
set_option linter.all false
set_option maxRecDepth 100000
set_option maxHeartbeats 4000001
/-! exceptions, the raw layer: a def read from its class, defs that may raise -/
namespace Dp
open PySem PySem.Spec PyProof.Rows L2
/-- a plain def read from its class -/
structure CFn (K : PySem.W.Frag) (C : Addr) (mc : Value) (m : PySem.Str) (g : Addr) : Prop where
  at_ : PySem.W.findCls K (.ref C) mc m = some (.val (.ref g))
  ty : PySem.W.typeIn K (.ref g) = some (.type "function")
  kp : PySem.W.keepIn K (.ref g) = true
section
variable {X : Cx} {o e : Expr} {es : List Expr} {ta : TE} {t : TA} {m : PySem.Str} {C f : Addr} {k : Nat} {fd : FuncData} {ps : List PySem.Str} {sp : Sp} {E : XK} {CXg : CXT} {apos pos : Pos} {pl : Sem Bool}
theorem pe_cfn {mc : Value} (he : PE X o ta) (r : ClX.CRead X.K C mc) (c : CFn X.K C mc m f) (F : FnOk X.prog X.w X.K X.mg X.base CXg k f fd ps sp) (hr : Room k X.A) (hb : Binds X.K fd ps []) (hx : Passes CXg X E) (ha : PA X (e :: es) t)
    (hst : starEach (e :: es) X.env = (false, eval e X.env) :: starEach es X.env := by rfl) (hpl : (backTo pos (starEach es X.env)).any (·.1) = false := by rfl)
    (ht : eval (.Call (.Attribute o m apos) (e :: es) [] pos) X.env = (do
      let ov ← eval o X.env
      standAt apos.atName
      let (f, first) ← holding [ov] (getMethod ov m pl)
      callWith pos f first (backTo pos (starEach (e :: es) X.env)) (backToKw pos (keywordEach [] X.env))) := by rfl) :
    PE X (.Call (.Attribute o m apos) (e :: es) [] pos) (tSMeth C sp E ta t) := by
  refine ⟨fun pins s σ H Q I h => ?_⟩
  refine PySem.W.methodCall_KW (pl := pl) (thn (he.run pins s σ H _ I h) fun u s1 ⟨x, H1, I1, rx, ex, q⟩ => ?_) ht
  subst ex
  obtain rfl : u = Value.ref C := rx
  refine PySem.W.method_cls I1.kIn r.ga (PySem.W.cls_value I1.kIn r.rd c.at_ rfl ?_)
  have I2 := I1.tok (s1.toks + 1)
  refine PySem.W.callWith_K (first := []) (h₀ := X.base) I.ok.mod.kin c.kp (thn (ha.run pos pins _ σ H1 _ I2 q) fun us s2 ⟨vs, H2, I3, rv, q2⟩ => ⟨I3.kIn, ?_⟩) hst hpl
  exact run_fn (us := us) (vs := vs) (dvs := []) (ds := []) F hr hb .nil hx I3 rv (by rw [List.append_nil]; exact q2)
end
/-- a def that may raise, raw -/
theorem fn_rawX {K : PySem.W.Frag} {P : Program} {w : World} {mg : PySem.Str → Option Value} {base : Heap} {x qual : PySem.Str} {params : Arguments} {body : List Stmt} {scope : Scope} {f : Addr} {fd : FuncData} {dvs : List V} {N ps : List PySem.Str} {k : Nat} {sp : Sp}
    (Fn : FunD K x qual params body scope dvs [] f fd) (Sc : FnScope N ps scope) (len : ∀ vs H Q E, sp vs H Q E → vs.length = ps.length)
    (hb : ∀ (cdv : Value) (A : Around) (outer : List PySem.Env) (s : Shared) (H : Hp) (E : XK), Room k (A.deeper (envOfC qual scope s.heap.objs.size f cdv)) →
      ∃ t, PSs (cxOf (L2.CX P w) P w K mg base N qual scope f cdv A outer s H E) body t ∧ ∀ vs Q, sp vs H Q E → t { nx := fun _ H' => Q .non H', rt := Q } (L2.start N vs) H) :
    FnOk P w K mg base (L2.CX P w) (k + 1) f fd ps sp := by
  refine Fn.ok Sc len fun cdv A outer s H vs Q E hr h => ?_
  obtain ⟨tr, hp, hw⟩ := hb cdv A outer s H E hr
  exact ⟨tr, hp, hw vs Q h⟩
end Dp

set_option Elab.async false
set_option linter.all false
set_option maxRecDepth 100000
set_option maxHeartbeats 4000001
/-! the head: classes of errors, tables of code objects -/
namespace Dp
open PySem PySem.Spec PyProof.Rows L2
/-- a class of errors as it is laid -/
def oexB (K : PySem.W.Frag) (C : Addr) : Bool := (match K.lookup C with
  | some ⟨.type "type", _, .cls cd, sl⟩ => (match cd.mro, sl.toList with
    | .ref C' :: bm, [_, _, _, _, some (.builtin n), _] => C' == C && (n == "ValueError.__new__" && (!cd.hasDel && (cd.hasDict && PySem.HandSPX.refsVE bm)))
    | _, _ => false)
  | _ => false) && (He.eqO (PySem.W.findIn K (.ref C) "__setattr__") (some (some (.builtin "object.__setattr__"))) && (decide (PySem.W.subIn K (.ref C) (.type "BaseException") = some true) && (decide (PySem.W.typeIn K (.ref C) = some (.type "type")) && PySem.W.keepIn K (.ref C))))
theorem oexB_ok {K : PySem.W.Frag} {C : Addr} (h : oexB K C = true) : OexC K C := by
  obtain ⟨h1, h⟩ := He.ba h
  obtain ⟨h2, h⟩ := He.ba h
  obtain ⟨h3, h⟩ := He.ba h
  obtain ⟨h4, h5⟩ := He.ba h
  refine ⟨?_, He.eqO_ok h2, of_decide_eq_true h3, of_decide_eq_true h4, h5⟩
  split at h1
  · rename_i dd cd sl lk
    split at h1
    · rename_i C' bm k0 k1 k2 k3 nw k5 em es
      obtain ⟨b1, h1⟩ := He.ba h1
      obtain ⟨b2, h1⟩ := He.ba h1
      obtain ⟨b3, h1⟩ := He.ba h1
      obtain ⟨b4, b5⟩ := He.ba h1
      have e1 := eq_of_beq b1
      have e2 := eq_of_beq b2
      subst e1 e2
      obtain ⟨nm, bs, mro, ns, qn, hd, sn, sub, ab, col, del⟩ := cd
      dsimp only at em b3 b4
      subst em b4
      have e3 : del = false := by cases del <;> first | rfl | cases b3
      subst e3
      have e4 : sl = #[k0, k1, k2, k3, some (.builtin "ValueError.__new__"), k5] := by
        obtain ⟨l⟩ := sl
        simp only at es
        rw [es]
      subst e4
      exact ⟨nm, qn, ns, bs, bm, sn, sub, ab, col, dd, k0, k1, k2, k3, k5, lk, b5⟩
    · cases h1
  · cases h1
def erB (K : PySem.W.Frag) (C : Addr) : Bool := xfB K C && ((PySem.W.clsIn K C).isSome && (He.eqO (PySem.W.findIn K (.ref C) "__class__") (some (some (.builtin "object.__class__"))) && (He.eqO (PySem.W.specialIn K (.builtin "object.__class__") "__get__") (some (some (.builtin "getset_descriptor.__get__"))) &&
  (obB (PySem.W.takesIn K (.builtin "object.__class__")) true && (obB (PySem.W.mroIn K C (.type "object")) true && oexB K C)))))
theorem erB_ok {K : PySem.W.Frag} {C : Addr} (h : erB K C = true) : ErC K C := by
  obtain ⟨h1, h⟩ := He.ba h
  obtain ⟨h2, h⟩ := He.ba h
  obtain ⟨h3, h⟩ := He.ba h
  obtain ⟨h4, h⟩ := He.ba h
  obtain ⟨h5, h⟩ := He.ba h
  obtain ⟨h6, h7⟩ := He.ba h
  exact ⟨xfB_ok h1, h2, He.eqO_ok h3, He.eqO_ok h4, obB_ok h5, obB_ok h6, oexB_ok h7⟩
/-- a def read from its class -/
def cfnB (K : PySem.W.Frag) (C : Addr) (m : PySem.Str) (g : Addr) : Bool := (match PySem.W.findCls K (.ref C) (.type "type") m with
  | some (.val (.ref g')) => g' == g
  | _ => false) && (decide (PySem.W.typeIn K (.ref g) = some (.type "function")) && PySem.W.keepIn K (.ref g))
theorem cfnB_ok {K : PySem.W.Frag} {C g : Addr} {m : PySem.Str} (h : cfnB K C m g = true) : CFn K C (.type "type") m g := by
  obtain ⟨h1, h⟩ := He.ba h
  obtain ⟨h2, h3⟩ := He.ba h
  refine ⟨?_, of_decide_eq_true h2, h3⟩
  split at h1
  · rename_i g' e
    rw [e, eq_of_beq h1]
  · cases h1
/-- the class's own __init__ -/
def iniB (K : PySem.W.Frag) (C g : Addr) : Bool := He.eqO (PySem.W.findIn K (.ref C) "__init__") (some (some (.ref g))) && decide (PySem.W.typeIn K (.ref g) = some (.type "function"))
/-! ### the Hook with tables -/
section
variable (fa : List He.Fa) (fn : List He5.DefA) (tf : List He.Defn) (xb : PySem.W.Frag → Bool)
def obsZ0 (g : Addr → Option Obj) (K : PySem.W.Frag) : He.AlD := ((He5.obsA fa fn K).1 && (xb K && He.tabsB g tf K), (He5.obsA fa fn K).2)
def obsZ (n : Nat) (g : Addr → Option Obj) : He.AlD := obsZ0 fa fn tf xb g (He.frT g (He5.asA g n))
structure SaysZ (h : Heap) (K : PySem.W.Frag) : Prop where
  y : SaysY fa fn xb K
  hd : ∀ p ∈ tf, PySem.W.codeHdIn K (He.cT K p).1 (He.cT K p).2 = true
  out : ∀ p ∈ tf, K.lookup (He.cT K p).2 = none
  empty : ∀ p ∈ tf, h.get? (He.cT K p).2 = some { cls := .none, data := .fields #[] }
theorem saysZ_of {n : Nat} {h : Heap} (e : obsZ fa fn tf xb n h.get? = He5.valA fn) : SaysZ fa fn tf xb h (He.frT h.get? (He5.asA h.get? n)) := by
  have e0 : obsZ0 fa fn tf xb h.get? (He.frT h.get? (He5.asA h.get? n)) = He5.valA fn := e
  generalize hK : He.frT h.get? (He5.asA h.get? n) = K at *
  have e1 : (obsZ0 fa fn tf xb h.get? K).1 = (He5.valA fn).1 := by rw [e0]
  have e2 : (obsZ0 fa fn tf xb h.get? K).2 = (He5.valA fn).2 := by rw [e0]
  have e1 : ((He5.obsA fa fn K).1 && (xb K && He.tabsB h.get? tf K)) = true := e1
  have e2 : (He5.obsA fa fn K).2 = (He5.valA fn).2 := e2
  obtain ⟨a1, a2⟩ := He.ba e1
  obtain ⟨a3, a4⟩ := He.ba a2
  have key : ∀ p ∈ tf, PySem.W.codeHdIn K (He.cT K p).1 (He.cT K p).2 = true ∧ ∃ o, h.get? (He.cT K p).2 = some o ∧ He.emptyTab o = true := fun p hp => by
    obtain ⟨b1, b2⟩ := He.ba (List.all_eq_true.mp a4 p hp)
    refine ⟨b1, ?_⟩
    cases q : h.get? (He.cT K p).2 with
    | none => rw [q] at b2; cases b2
    | some o => rw [q] at b2; exact ⟨o, rfl, b2⟩
  refine ⟨?_, fun p hp => (key p hp).1, fun p hp => ?_, fun p hp => ?_⟩
  · show (((He5.obsA fa fn K).1 && xb K), (He5.obsA fa fn K).2) = He5.valA fn
    rw [e2, a1, a3]
    rfl
  · obtain ⟨_, o, q, z⟩ := key p hp
    have := He.frT_none (as := He5.asA h.get? n) q z
    rwa [hK] at this
  · obtain ⟨_, o, q, z⟩ := key p hp
    rw [q, He.emptyTab_eq z]
def hookZ (n : Nat) : PySem.W.Hook where
  α := He.AlD
  obs := fun s => obsZ fa fn tf xb n s.heap.get?
  val := fun _ => He5.valA fn
  says := fun _ h => ∃ K : PySem.W.Frag, K.In h ∧ SaysZ fa fn tf xb h K
  of := fun _ _ e => ⟨_, He.frT_in, saysZ_of fa fn tf xb e⟩
  keeps := fun _ _ _ says kept => says.elim fun K two => ⟨K, PySem.W.Frag.In.keeps two.1 kept, ⟨two.2.y, two.2.hd, two.2.out, fun p hp => kept _ _ (two.2.empty p hp)⟩⟩
end
theorem obsZ_eq {fa : List He.Fa} {fn : List He5.DefA} {tf : List He.Defn} {xb : PySem.W.Frag → Bool} {n : Nat} {g : Addr → Option Obj} {s : Shared} (h : ∀ a, g a = s.heap.get? a) : obsZ fa fn tf xb n g = (hookZ fa fn tf xb n).obs s :=
  congrArg (obsZ fa fn tf xb n) (funext h)
end Dp

set_option Elab.async false
set_option linter.all false
set_option maxRecDepth 100000
set_option maxHeartbeats 4000001
/-! a def that makes lambdas and hands them on -/
namespace Dp
open PySem PySem.Spec PyProof.Rows L2
theorem relRef {C : Addr} : L2.RelV (.ref C) (.ref C) := rfl
/-- fn_d, the def's code object told -/
theorem fn_dC {c : Cb} {P : Program} {w : World} {mg : PySem.Str → Option Value} {base : Heap} {x qual : PySem.Str} {params : Arguments} {body : List Stmt} {scope : Scope} {f cc : Addr} {fd : FuncData} {N ps : List PySem.Str} {k : Nat} {F : FD} {p : He.Defn}
    (Fn : FunD c.K x qual params body scope [] [] f fd) (Sc : FnScope N ps scope) (hf : f = He.fAd c.K p) (hcc : He.codeOf c.K p = cc)
    (hb : ∀ (A : Around) (outer : List PySem.Env) (s : Shared) (H : Hp) (E : XK), Room k (A.deeper (envOfC qual scope s.heap.objs.size f (.ref cc))) →
      ∃ t, PSs (cxOf CX0 P w c.K mg base N qual scope f (.ref cc) A outer s H E).nox body t ∧ ∃ W, SndS c.n t W ∧ ∀ ds n Qd, F ds n Qd → ds.length = ps.length → W ⟨fun _ _ n => Qd .non n, Qd, fun _ _ _ => False, fun _ _ _ => False⟩ (startD N ds) [] n) :
    FnOk P w c.K mg base CX0 (k + 1) f fd ps (spD c ps.length F) := by
  obtain ⟨oc, od, dV, kV, doc, pm, an, cdv, ct, osl, rfl, lk, hcd, _, _⟩ := Fn.ex
  obtain ⟨c0, rfl⟩ := He.codeIn_ref hcd
  have e := He.codeOf_eq (p := p) (by rw [← hf]; exact lk) (show (PySem.W.fnOf x qual params body scope dV kV doc pm an (.ref c0) ct).code = .ref c0 from rfl)
  obtain rfl : c0 = cc := e.symm.trans hcc
  refine fn_of lk hcd Sc (fun vs H Q E h => ?_) fun A outer s H vs Q E hr h => ?_
  · obtain ⟨t, G, ds, n, Qd, h1, _⟩ := h
    exact h1
  · obtain ⟨t, G, ds, n, Qd, hl, rs, gh, gt, pen, hF, hQ⟩ := h
    obtain ⟨tr, hp, W, hs, hw⟩ := hb A outer s H E hr
    refine ⟨tr, hp.nox, hs t H G H G _ _ [] n _ _ (rpS_start rs) ⟨Sb.start gh gt pen, trivial⟩ ?_ ?_ ?_ ?_ (hw ds n Qd hF (by rw [← RpL.len rs]; exact hl))⟩
    · exact fun σ' H' G' ds' μ' n' _ s' q => hQ .non H' G' .non n' s'.toSb.stp (by simp only [Rp]) q
    · exact fun v H' G' d n' s' r q => hQ v H' G' d n' s'.toSb.stp r q
    · exact fun _ _ _ _ _ _ _ _ q => q.elim
    · exact fun _ _ _ _ _ _ _ _ q => q.elim
section
variable {X : Cx} {c : Cb}
/-- x(lambda: body), x a def that keeps what gives_of tells -/
theorem pe_lamD {x a : PySem.Str} {g cc P : Addr} {k : Nat} {pg : Arguments} {bg : List Stmt} {sg : Scope} {gd : FuncData} {Ng : List PySem.Str} {params : Arguments} {body : Expr} {scope : Scope} {t : XK → TE} {Fh : FH} {p lpos pos : Pos} (hK : X.K = c.K) (Fn : FunD X.K x x pg bg sg [] [] g gd)
    (hm : X.mg x = some (.ref g)) (hb : L2.Binds X.K gd [a] []) (Sg : FnScope Ng [a] sg) (hG : ∀ cdg, LamX.GivesTo X Ng x sg g cdg bg a (X.env.qual ++ "<lambda>") (TTh c Fh)) (TB : LamX.TabB X.base X.mg cc P) (hT : c.T = [(P, X.env.qual ++ "<lambda>")]) (hr : Room (k + 2) X.A)
    (hbody : ∀ (A : Around) (outer : List PySem.Env) (s : Shared) (H : Hp) (E : XK) (f c' : Addr), Room k (A.deeper (LamX.lamEnv X scope s.heap.objs.size f c')) → PE (LamX.lamCx X A outer s H E scope f c') body (t E))
    (L : LamX.LamS X.env.scope scope := by exact LamX.lamS_by (by rfl)) (hcode : X.env.code = .ref cc := by rfl) (hg : Gl X x := by rfl) (hNg : Ng[0]? = some a := by rfl) (hva : Vis sg a := by first | exact .inl rfl | exact .inr (.inl rfl)) (hdef : defaultsOf params X.env = ([], []) := by rfl)
    (hbind : ∀ (q : PySem.Str) (cl : List (PySem.Str × Addr)) (pm cv ctv : Value), bindArgs (PySem.W.kla_fn "<lambda>" q params body scope cl pm cv ctv) ⟨[], []⟩ = pure [] := by intros; rfl)
    (hdb : (x == ("__debug__" : PySem.Str)) = false := by decide) (hd : (a == ("__debug__" : PySem.Str)) = false := by decide) (hcd : (a == ("__classdict__" : PySem.Str)) = false := by decide) :
    PE X (.Call (.Name x p) [.Lambda params body scope lpos] [] pos) (LamX.tLam c.T (TTh c Fh) t) := by
  obtain ⟨oc, od, dV, kV, doc, pm, an, cdv, ct, osl, rfl, lk, hcd', _, _⟩ := Fn.ex
  exact LamX.pe_lamcall hg hm Fn.kp lk hcd' hb Sg hNg hva (hG cdv) TB hcode (by rw [hT]; exact List.mem_cons_self) (fun q hq _ => by rw [hT, List.mem_singleton] at hq; rw [hq]) hr L hdef hbind hbody hdb hd hcd
end
end Dp

set_option Elab.async false
set_option linter.all false
set_option maxRecDepth 100000
set_option maxHeartbeats 4000001
/-! list(zip(xs, ys)) of two tuples, on the heap: the pairs stay out, so each turn lays a new one -/
namespace Dz
open PySem PySem.Spec PyProof.Rows L2
theorem no_len : typeLookup (.type "zip") "__len__" = pure none := by rw [typeLookup_type, builtinLookup_eq_fast]; kernel_rfl
theorem no_hint : typeLookup (.type "zip") "__length_hint__" = pure none := by rw [typeLookup_type, builtinLookup_eq_fast]; kernel_rfl
section
variable {prog : Program} {w : World} {A : Around} {E : Value → Shared → Prop} {s : Shared} {z TI TO i1 i2 l1 l2 : Addr} {xs ys : Array Value} {k : Nat}
/-- one more of both tuples, the pair handed out before being kept by somebody -/
theorem held_item {T : Addr} {f : Bool} {oT : Obj} {x y : Value} {Q : Option Value → Shared → Prop} (D : ZipApart z TI TO i1 i2 l1 l2) (hz : IsZipHeld s.heap z TI TO T f) (hT : s.heap.get? T = some oT) (hI : IsPair s.heap TI (.ref i1) (.ref i2))
    (a : s.heap.IsTupleIter i1 l1 k) (b : s.heap.IsTupleIter i2 l2 k) (la : s.heap.IsTuple l1 xs) (lb : s.heap.IsTuple l2 ys) (hx : xs[k]? = some x) (hy : ys[k]? = some y)
    (q : ∀ h, IsZipHeld h z TI TO T true → h.IsTupleIter i1 l1 (k + 1) → h.IsTupleIter i2 l2 (k + 1) → IsPair h s.heap.objs.size x y → h.objs.size = s.heap.objs.size + 1 → (∀ c o, c ≠ z → c ≠ i1 → c ≠ i2 → s.heap.get? c = some o → h.get? c = some o) → Q (some (.ref s.heap.objs.size)) { s with heap := h }) :
    wpAny (model prog w) A (pyNext (.ref z)) Q E s := by
  have ty : s.TypeIs (.ref z) "zip" := ⟨_, hz, rfl⟩
  unfold pyNext
  refine wpAny_bind (wpAny_attempt (wpAny_callSpecial?_slot (name := PySem.Str.ofString "__next__") ty F.slot_zip_next (wpAny_call_entry F.slot_zip_next ty F.entry_zip_next ?_ (F.args_zip_next_1 _))))
  show wpAny _ _ (field (.ref z) 2 >>= _) _ _ _
  refine wpAny_bind (wpAny_field hz rfl (x := .bool false) rfl ?_)
  show wpAny _ _ (field (.ref z) 3 >>= _) _ _ _
  refine wpAny_bind (wpAny_field hz rfl (x := .ref TI) rfl (wpAny_bind (wpAny_seqItems hI rfl ?_)))
  show wpAny _ _ (Builtin.SmallTypes.ownedTupleIsFree (.ref z) >>= _) _ _ _
  refine wpAny_bind (wpAny_tupleHeld_zip hz hT fun g1 z1 u1 => ?_)
  simp only [Bool.false_eq_true, if_false]
  refine wpAny_bind ?_
  rw [← Array.forIn_toList]
  simp only [List.forIn_cons, List.forIn_nil]
  refine wpAny_bind (wpAny_bind (wpAny_holding ?_))
  show wpAny _ _ (Builtin.SmallTypes.nextOf (.ref i1) >>= _) _ _ _
  have e1 := u1.extBut
  refine wpAny_bind (RZ.nextOf_tuple_item (s := { s with heap := g1 }) (a.extBut e1 D.i1z) (la.extBut e1 D.l1z) hx fun g2 a2 u2 => wpAny_pure (wpAny_pure (wpAny_bind (wpAny_bind (wpAny_holding ?_)))))
  show wpAny _ _ (Builtin.SmallTypes.nextOf (.ref i2) >>= _) _ _ _
  have e2 := u2.extBut
  refine wpAny_bind (RZ.nextOf_tuple_item (s := { s with heap := g2 }) ((b.extBut e1 D.i2z).extBut e2 D.i12.symm) ((lb.extBut e1 D.l2z).extBut e2 D.l2i1) hy fun g3 b3 u3 => wpAny_pure (wpAny_pure (wpAny_pure ?_)))
  have e3 := u3.extBut
  show wpAny _ _ (newTuple [x, y] >>= _) _ _ _
  refine wpAny_bind (wpAny_newTuple (wpAny_pure ⟨_, rfl, wpAny_pure ?_⟩))
  have size : g3.objs.size = s.heap.objs.size := (u3.1.trans u2.1).trans u1.1
  have old : ∀ c o, c ≠ z → c ≠ i1 → c ≠ i2 → s.heap.get? c = some o → g3.get? c = some o := fun c o n1 n2 n3 e => e3 _ _ n3 (e2 _ _ n2 (e1 _ _ n1 e))
  have z3 : IsZipHeld g3 z TI TO T true := e3 _ _ D.i2z.symm (e2 _ _ D.i1z.symm z1)
  have a3 : g3.IsTupleIter i1 l1 (k + 1) := a2.extBut e3 D.i12
  have pair : IsPair (g3.push { cls := .type "tuple", data := .seq #[x, y] }) g3.objs.size x y := Heap.get?_push_size _ rfl
  have grown : (g3.push { cls := .type "tuple", data := .seq #[x, y] }).objs.size = g3.objs.size + 1 := Heap.size_push ..
  show Q (some (.ref g3.objs.size)) _
  rw [size] at pair grown ⊢
  exact q _ (Heap.get?_push_of_some _ z3) (a3.at fun _ => Heap.get?_push_of_some _) (b3.at fun _ => Heap.get?_push_of_some _) pair grown fun c o n1 n2 n3 e => Heap.get?_push_of_some _ (old c o n1 n2 n3 e)
theorem held_end {T : Addr} {f : Bool} {oT : Obj} {Q : Option Value → Shared → Prop} (hh : A.handled = none) (D : ZipApart z TI TO i1 i2 l1 l2) (hz : IsZipHeld s.heap z TI TO T f) (hT : s.heap.get? T = some oT) (hI : IsPair s.heap TI (.ref i1) (.ref i2))
    (a : s.heap.IsTupleIter i1 l1 k) (b : s.heap.IsTupleIter i2 l2 k) (la : s.heap.IsTuple l1 xs) (lb : s.heap.IsTuple l2 ys) (out : xs[k]? = none ∨ ys[k]? = none)
    (q : ∀ h, (∀ c o, c ≠ z → c ≠ i1 → c ≠ i2 → s.heap.get? c = some o → h.get? c = some o) → Q none { s with heap := h }) : wpAny (model prog w) A (pyNext (.ref z)) Q E s := by
  have ty : s.TypeIs (.ref z) "zip" := ⟨_, hz, rfl⟩
  unfold pyNext
  refine wpAny_bind (wpAny_attempt (wpAny_callSpecial?_slot (name := PySem.Str.ofString "__next__") ty F.slot_zip_next (wpAny_call_entry F.slot_zip_next ty F.entry_zip_next ?_ (F.args_zip_next_1 _))))
  show wpAny _ _ (field (.ref z) 2 >>= _) _ _ _
  refine wpAny_bind (wpAny_field hz rfl (x := .bool false) rfl ?_)
  show wpAny _ _ (field (.ref z) 3 >>= _) _ _ _
  refine wpAny_bind (wpAny_field hz rfl (x := .ref TI) rfl (wpAny_bind (wpAny_seqItems hI rfl ?_)))
  show wpAny _ _ (Builtin.SmallTypes.ownedTupleIsFree (.ref z) >>= _) _ _ _
  refine wpAny_bind (wpAny_tupleHeld_zip hz hT fun g1 z1 u1 => ?_)
  simp only [Bool.false_eq_true, if_false]
  refine wpAny_bind ?_
  rw [← Array.forIn_toList]
  simp only [List.forIn_cons, List.forIn_nil]
  refine wpAny_bind (wpAny_bind (wpAny_holding ?_))
  show wpAny _ _ (Builtin.SmallTypes.nextOf (.ref i1) >>= _) _ _ _
  have e1 := u1.extBut
  by_cases c : ∃ x, xs[k]? = some x
  · obtain ⟨x, hx⟩ := c
    have hy : ys[k]? = none := by rcases out with o | o; (rw [hx] at o; cases o); exact o
    refine wpAny_bind (RZ.nextOf_tuple_item (s := { s with heap := g1 }) (a.extBut e1 D.i1z) (la.extBut e1 D.l1z) hx fun g2 a2 u2 => wpAny_pure (wpAny_pure (wpAny_bind (wpAny_bind (wpAny_holding ?_)))))
    show wpAny _ _ (Builtin.SmallTypes.nextOf (.ref i2) >>= _) _ _ _
    have e2 := u2.extBut
    exact wpAny_bind (RZ.nextOf_tuple_end (s := { s with heap := g2 }) hh ((b.extBut e1 D.i2z).extBut e2 D.i12.symm) ((lb.extBut e1 D.l2z).extBut e2 D.l2i1) hy fun g3 e e3 ⟨o, ho, hc⟩ => wpAny_bind (wpAny_isInstance (T := "StopIteration") (b := true) ⟨o, ho, hc⟩ isSubtype_stop (wpAny_pure (q g3 fun c o n1 n2 n3 h => e3 _ _ n3 (e2 _ _ n2 (e1 _ _ n1 h))))))
  · have hx : xs[k]? = none := by
      cases h : xs[k]? with
      | none => rfl
      | some x => exact absurd ⟨x, h⟩ c
    exact wpAny_bind (RZ.nextOf_tuple_end (s := { s with heap := g1 }) hh (a.extBut e1 D.i1z) (la.extBut e1 D.l1z) hx fun g2 e e2 ⟨o, ho, hc⟩ => wpAny_bind (wpAny_isInstance (T := "StopIteration") (b := true) ⟨o, ho, hc⟩ isSubtype_stop (wpAny_pure (q g2 fun c o n1 n2 _ h => e2 _ _ n2 (e1 _ _ n1 h)))))
end
end Dz

set_option Elab.async false
set_option linter.all false
set_option maxRecDepth 100000
set_option maxHeartbeats 4000001
namespace Dz
open PySem PySem.Spec PyProof.Rows L2
/-- the zip at z as it stands before turn k -/
structure ZAt (h : Heap) (z TI TO i1 i2 l1 l2 : Addr) (xs ys : Array Value) (k : Nat) : Prop where
  out : (IsZip h z TI TO .none ∧ ∃ a b, IsPair h TO a b) ∨ ∃ T f o, IsZipHeld h z TI TO T f ∧ h.get? T = some o
  ti : IsPair h TI (.ref i1) (.ref i2)
  a : h.IsTupleIter i1 l1 k
  b : h.IsTupleIter i2 l2 k
  la : h.IsTuple l1 xs
  lb : h.IsTuple l2 ys
structure Far (S z TI TO i1 i2 l1 l2 : Addr) : Prop where
  z : z ≠ S
  ti : TI ≠ S
  tO : TO ≠ S
  a : i1 ≠ S
  b : i2 ≠ S
  la : l1 ≠ S
  lb : l2 ≠ S
section
variable {prog : Program} {w : World} {A : Around} {E : Value → Shared → Prop} {s : Shared} {S z TI TO i1 i2 l1 l2 : Addr} {xs ys : Array Value} {k : Nat}
theorem ZAt.keep {h h' : Heap} (Z : ZAt h z TI TO i1 i2 l1 l2 xs ys k) (F : Far S z TI TO i1 i2 l1 l2) (hk : ∀ c o, c ≠ S → h.get? c = some o → h'.get? c = some o) (hS : ∃ o, h'.get? S = some o) : ZAt h' z TI TO i1 i2 l1 l2 xs ys k := by
  refine ⟨?_, hk _ _ F.ti Z.ti, Z.a.at fun o e => hk _ o F.a e, Z.b.at fun o e => hk _ o F.b e, ?_, ?_⟩
  · rcases Z.out with ⟨h1, a, b, h2⟩ | ⟨T, f, o, h1, h2⟩
    · exact .inl ⟨hk _ _ F.z h1, a, b, hk _ _ F.tO h2⟩
    · refine .inr ⟨T, f, ?_⟩
      by_cases c : T = S
      · obtain ⟨o', e⟩ := hS
        exact ⟨o', hk _ _ F.z h1, by rw [c]; exact e⟩
      · exact ⟨o, hk _ _ F.z h1, hk _ _ c h2⟩
  · obtain ⟨o, e, r⟩ := Z.la
    exact ⟨o, hk _ _ F.la e, r⟩
  · obtain ⟨o, e, r⟩ := Z.lb
    exact ⟨o, hk _ _ F.lb e, r⟩
/-- a turn -/
theorem ZAt.item {x y : Value} {Q : Option Value → Shared → Prop} (D : ZipApart z TI TO i1 i2 l1 l2) (Z : ZAt s.heap z TI TO i1 i2 l1 l2 xs ys k) (hx : xs[k]? = some x) (hy : ys[k]? = some y)
    (q : ∀ h, ZAt h z TI TO i1 i2 l1 l2 xs ys (k + 1) → IsPair h s.heap.objs.size x y → h.objs.size = s.heap.objs.size + 1 → (∀ c o, c ≠ z → c ≠ TO → c ≠ i1 → c ≠ i2 → s.heap.get? c = some o → h.get? c = some o) → Q (some (.ref s.heap.objs.size)) { s with heap := h }) :
    wpAny (model prog w) A (pyNext (.ref z)) Q E s := by
  have tup : ∀ {h h' : Heap} {l : Addr} {vs : Array Value}, h.IsTuple l vs → l ≠ z → l ≠ TO → l ≠ i1 → l ≠ i2 → (∀ c o, c ≠ z → c ≠ TO → c ≠ i1 → c ≠ i2 → h.get? c = some o → h'.get? c = some o) → h'.IsTuple l vs := fun ⟨o, e, r⟩ n1 n2 n3 n4 hk => ⟨o, hk _ _ n1 n2 n3 n4 e, r⟩
  rcases Z.out with ⟨h1, a, b, h2⟩ | ⟨T, f, o, h1, h2⟩
  · exact RZ.pyNext_zipT_item D h1 Z.ti h2 Z.a Z.b Z.la Z.lb hx hy fun h a1 a2 a3 a4 a5 a6 hk => q h ⟨.inr ⟨_, false, _, a1, a5⟩, hk _ _ D.TIz D.TITO D.TIi1 D.TIi2 Z.ti, a3, a4, tup Z.la D.l1z D.l1TO D.l1i1 D.l1i2 hk, tup Z.lb D.l2z D.l2TO D.l2i1 D.l2i2 hk⟩ a5 a6 hk
  · refine held_item D h1 h2 Z.ti Z.a Z.b Z.la Z.lb hx hy fun h a1 a3 a4 a5 a6 hk => ?_
    have still : ∃ o, h.get? T = some o := by
      by_cases c1 : T = z
      · exact ⟨_, by rw [c1]; exact a1⟩
      by_cases c2 : T = i1
      · obtain ⟨o', e, _⟩ := a3; exact ⟨o', by rw [c2]; exact e⟩
      by_cases c3 : T = i2
      · obtain ⟨o', e, _⟩ := a4; exact ⟨o', by rw [c3]; exact e⟩
      exact ⟨o, hk _ _ c1 c2 c3 h2⟩
    obtain ⟨o', e'⟩ := still
    exact q h ⟨.inr ⟨_, true, o', a1, e'⟩, hk _ _ D.TIz D.TIi1 D.TIi2 Z.ti, a3, a4, tup Z.la D.l1z D.l1TO D.l1i1 D.l1i2 fun c o n1 _ => hk c o n1, tup Z.lb D.l2z D.l2TO D.l2i1 D.l2i2 fun c o n1 _ => hk c o n1⟩ a5 a6 fun c o n1 _ => hk c o n1
theorem ZAt.done {Q : Option Value → Shared → Prop} (hh : A.handled = none) (D : ZipApart z TI TO i1 i2 l1 l2) (Z : ZAt s.heap z TI TO i1 i2 l1 l2 xs ys k) (out : xs[k]? = none ∨ ys[k]? = none)
    (q : ∀ h, (∀ c o, c ≠ z → c ≠ TO → c ≠ i1 → c ≠ i2 → s.heap.get? c = some o → h.get? c = some o) → Q none { s with heap := h }) : wpAny (model prog w) A (pyNext (.ref z)) Q E s := by
  rcases Z.out with ⟨h1, a, b, h2⟩ | ⟨T, f, o, h1, h2⟩
  · exact RZ.pyNext_zipT_end hh D h1 Z.ti h2 Z.a Z.b Z.la Z.lb out q
  · exact held_end hh D h1 h2 Z.ti Z.a Z.b Z.la Z.lb out fun h hk => q h fun c o n1 _ => hk c o n1
/-- what list.extend's loop leaves: h0 before it -/
structure Out (h0 h : Heap) (S z TO i1 i2 : Addr) (xs ys : Array Value) (n : Nat) (as : List Addr) : Prop where
  old : ∀ c o, c ≠ S → c ≠ z → c ≠ TO → c ≠ i1 → c ≠ i2 → h0.get? c = some o → h.get? c = some o
  cell : ∃ (acc : Array Value) (c : Nat), h.get? S = some { cls := .type "list", dict := none, data := .seq acc c, slots := #[] } ∧ acc.toList = as.map Value.ref
  len : as.length = n
  nd : as.Nodup
  pair : ∀ (j : Nat) (t : Addr), as[j]? = some t → h0.objs.size ≤ t ∧ ∃ x y, xs[j]? = some x ∧ ys[j]? = some y ∧ IsPair h t x y
theorem Out.next {h0 h h' : Heap} {n : Nat} {as : List Addr} (O : Out h0 h S z TO i1 i2 xs ys n as) (lt : ∀ t, h0.objs.size ≤ t → t ≠ z ∧ t ≠ TO ∧ t ≠ i1 ∧ t ≠ i2) (hk : ∀ c o, c ≠ z → c ≠ TO → c ≠ i1 → c ≠ i2 → h.get? c = some o → h'.get? c = some o)
    (far : S ≠ z ∧ S ≠ TO ∧ S ≠ i1 ∧ S ≠ i2) : Out h0 h' S z TO i1 i2 xs ys n as := by
  refine ⟨fun c o n1 n2 n3 n4 n5 e => hk c o n2 n3 n4 n5 (O.old c o n1 n2 n3 n4 n5 e), ?_, O.len, O.nd, fun j t e => ?_⟩
  · obtain ⟨acc, c, e, r⟩ := O.cell
    exact ⟨acc, c, hk _ _ far.1 far.2.1 far.2.2.1 far.2.2.2 e, r⟩
  · obtain ⟨l, x, y, e1, e2, e3⟩ := O.pair j t e
    obtain ⟨n1, n2, n3, n4⟩ := lt t l
    exact ⟨l, x, y, e1, e2, hk _ _ n1 n2 n3 n4 e3⟩
theorem loop {R : Result → Shared → Prop} {h0 : Heap} {res : Value} (hh : A.handled = none) (D : ZipApart z TI TO i1 i2 l1 l2) (Fr : Far S z TI TO i1 i2 l1 l2) (lt : ∀ t, h0.objs.size ≤ t → t ≠ z ∧ t ≠ TO ∧ t ≠ i1 ∧ t ≠ i2) (ltS : S < h0.objs.size) (small : min xs.size ys.size ≤ 1000)
    (hR : ∀ h tk as, Out h0 h S z TO i1 i2 xs ys (min xs.size ys.size) as → R (.ok (.ret res)) { s with heap := h, toks := tk }) :
    ∀ (r i : Nat) (h : Heap) (tk : Nat) (as : List Addr), min xs.size ys.size - i = r → i ≤ min xs.size ys.size → ZAt h z TI TO i1 i2 l1 l2 xs ys i → Out h0 h S z TO i1 i2 xs ys i as → h0.objs.size ≤ h.objs.size →
      codeAny (model prog w) A (.builtin "list.extend.loop" ⟨[.ref S, .ref z, res], []⟩) R { s with heap := h, toks := tk } := by
  have far : S ≠ z ∧ S ≠ TO ∧ S ≠ i1 ∧ S ≠ i2 := ⟨Fr.z.symm, Fr.tO.symm, Fr.a.symm, Fr.b.symm⟩
  intro r
  induction r with
  | zero =>
    intro i h tk as er hi Z O sz
    refine codeAny_builtin F.entry_extend_loop ?_
    rw [Around.under_plainId F.plain_extend_loop _]
    show wpAny _ A.in1 (pyNext (.ref z) >>= _) _ _ _
    have out : xs[i]? = none ∨ ys[i]? = none := by
      rcases Nat.le_total xs.size ys.size with g | g
      · exact .inl (Array.getElem?_eq_none (by omega))
      · exact .inr (Array.getElem?_eq_none (by omega))
    refine wpAny_bind (ZAt.done (s := { s with heap := h, toks := tk }) (A := A.in1) hh D Z out fun h' hk => ?_)
    obtain rfl : i = min xs.size ys.size := by omega
    exact wpAny_pure (hR h' tk as (O.next lt hk far))
  | succ r ih =>
    intro i h tk as er hi Z O sz
    have hx : xs[i]? = some xs[i] := Array.getElem?_eq_getElem (by omega)
    have hy : ys[i]? = some ys[i] := Array.getElem?_eq_getElem (by omega)
    refine codeAny_builtin F.entry_extend_loop ?_
    rw [Around.under_plainId F.plain_extend_loop _]
    show wpAny _ A.in1 (pyNext (.ref z) >>= _) _ _ _
    refine wpAny_bind (ZAt.item (s := { s with heap := h, toks := tk }) (A := A.in1) D Z hx hy fun h' Z' hp gz hk => ?_)
    dsimp only at hp gz hk ⊢
    have O' := O.next lt hk far
    obtain ⟨acc, c, hS, hacc⟩ := O'.cell
    have asz : acc.size = i := by rw [← Array.length_toList, hacc, List.length_map, O.len]
    show wpAny _ A.in1 (updateSeq S (·.push (Value.ref h.objs.size)) >>= _) _ _ _
    have up : ∀ b o, b ≠ S → h'.get? b = some o → (h'.update S (Obj.mapSeq (·.push (Value.ref h.objs.size)))).get? b = some o := fun b o hb e => (Heap.get?_update_other _ _ (Ne.symm hb)).trans e
    have hS' := Heap.get?_update_self (Obj.mapSeq (·.push (Value.ref h.objs.size))) hS rfl
    refine wpAny_bind (wpAny_updateSeq hS rfl (wpAny_pure ⟨plainId_quiet F.plain_extend_loop _, ih (i + 1) _ tk (as ++ [h.objs.size]) (by omega) (by omega) (Z'.keep Fr up ⟨_, hS'⟩) ?_ ?_⟩) (by unfold sizeLine; omega) (by show (acc.push _).size ≤ sizeLine + 1; rw [Array.size_push]; unfold sizeLine; omega))
    · refine ⟨fun b o n1 n2 n3 n4 n5 e => up b o n1 (O'.old b o n1 n2 n3 n4 n5 e), ⟨acc.push (Value.ref h.objs.size), _, hS', by rw [Array.toList_push, hacc, List.map_append]; rfl⟩, by rw [List.length_append, O.len]; rfl, ?_, fun j t e => ?_⟩
      · refine List.nodup_append.mpr ⟨O.nd, by simp, fun t ht u hu z => ?_⟩
        rw [List.mem_singleton] at hu
        obtain ⟨j, hj⟩ := List.mem_iff_getElem?.mp ht
        obtain ⟨_, _, _, _, _, e3⟩ := O.pair j t hj
        exact absurd (Heap.lt_size e3) (by rw [z, hu]; exact Nat.lt_irrefl _)
      rcases Nat.lt_trichotomy j as.length with g | g | g
      · rw [List.getElem?_append_left g] at e
        obtain ⟨l, x, y, e1, e2, e3⟩ := O'.pair j t e
        exact ⟨l, x, y, e1, e2, up _ _ (Nat.ne_of_gt (Nat.lt_of_lt_of_le ltS l)) e3⟩
      · rw [g, List.getElem?_append_right (Nat.le_refl _), Nat.sub_self] at e
        cases e
        exact ⟨sz, _, _, by rw [g, O.len]; exact hx, by rw [g, O.len]; exact hy, up _ _ (Nat.ne_of_gt (Nat.lt_of_lt_of_le ltS sz)) hp⟩
      · rw [List.getElem?_eq_none (by rw [List.length_append]; show as.length + 1 ≤ j; omega)] at e
        cases e
    · have e : (h'.update S (Obj.mapSeq (·.push (Value.ref h.objs.size)))).get? h.objs.size = _ := up _ _ (Nat.ne_of_gt (Nat.lt_of_lt_of_le ltS sz)) hp
      exact Nat.le_trans sz (Nat.le_of_lt (Heap.lt_size e))
theorem extend {R : Result → Shared → Prop} (res : Value) (hh : A.handled = none) (D : ZipApart z TI TO i1 i2 l1 l2) (Fr : Far S z TI TO i1 i2 l1 l2) (lt : ∀ t, s.heap.objs.size ≤ t → t ≠ z ∧ t ≠ TO ∧ t ≠ i1 ∧ t ≠ i2) (small : min xs.size ys.size ≤ 1000)
    {c0 : Nat} (hS : s.heap.get? S = some { cls := .type "list", data := .seq #[] c0 }) (hz : IsZip s.heap z TI TO .none) (Z : ZAt s.heap z TI TO i1 i2 l1 l2 xs ys 0)
    (hR : ∀ h tk as, Out s.heap h S z TO i1 i2 xs ys (min xs.size ys.size) as → R (.ok (.ret res)) { s with heap := h, toks := tk }) :
    wpAny (model prog w) A.in1 (Builtin.List.listExtendWith (.ref S) (.ref z) res)
      (fun fin s' => match fin with | .done f => R (.ok f) s' | .again c' => c'.quiet = true ∧ codeAny (model prog w) A c' R s') (fun e s' => R (.error e) s') s := by
  have ty : s.TypeIs (.ref z) "zip" := ⟨_, hz, rfl⟩
  have ns : Builtin.List.listSameRef (.ref S) (.ref z) = false := by simp [Builtin.List.listSameRef, Fr.z.symm]
  have n1 : (Value.type "zip" == Value.type "list") = false := by decide
  have n2 : (Value.type "zip" == Value.type "tuple") = false := by decide
  unfold Builtin.List.listExtendWith
  refine wpAny_bind (wpAny_typeOf ty ?_)
  simp only [ns, n1, n2, Bool.or_false, Bool.false_eq_true, if_false]
  refine wpAny_bind (wpAny_pyIter_zip hz (wpAny_bind (wpAny_holding ?_)))
  unfold Builtin.List.listLengthHint
  refine wpAny_bind (wpAny_specialOf ty no_len ?_)
  show wpAny _ A.in1 (specialOf (Value.ref z) (PySem.Str.ofString "__length_hint__") >>= _) _ _ _
  refine wpAny_bind (wpAny_specialOf ty no_hint (wpAny_pure ?_))
  show wpAny _ A.in1 (rule "list.extend.makes-room" >>= fun _ => Builtin.List.listTouch (.ref S) >>= fun _ => again (.builtin "list.extend.loop" ⟨[.ref S, .ref z, res], []⟩)) _ _ _
  refine wpAny_bind (wpAny_rule (wpAny_bind ?_))
  show wpAny _ A.in1 (updateSeq S (·.push .none) >>= fun _ => updateSeq S (·.pop)) _ _ _
  refine wpAny_bind (wpAny_updateSeq hS rfl ?_)
  have s2 := Heap.get?_update_self (Obj.mapSeq (·.push Value.none)) hS rfl
  refine wpAny_updateSeq (hz := by seq_fits) s2 rfl ?_
  have s3 := Heap.get?_update_self (Obj.mapSeq (·.pop)) s2 rfl
  have oth : ∀ b o, b ≠ S → s.heap.get? b = some o → ((s.heap.update S (Obj.mapSeq (·.push Value.none))).update S (Obj.mapSeq (·.pop))).get? b = some o :=
    fun b o hb e => (Heap.get?_update_other _ _ (Ne.symm hb)).trans ((Heap.get?_update_other _ _ (Ne.symm hb)).trans e)
  have size : ((s.heap.update S (Obj.mapSeq (·.push Value.none))).update S (Obj.mapSeq (·.pop))).objs.size = s.heap.objs.size := by rw [Heap.size_update, Heap.size_update]
  exact wpAny_pure ⟨plainId_quiet F.plain_extend_loop _, loop (s := s) (h0 := s.heap) hh D Fr lt (Heap.lt_size hS) small hR _ 0 _ _ [] rfl (Nat.zero_le _) (Z.keep Fr oth ⟨_, s3⟩) ⟨fun b o n1 _ _ _ _ e => oth b o n1 e, ⟨_, _, s3, rfl⟩, rfl, List.nodup_nil, fun j t e => by simp at e⟩ (Nat.le_of_eq size.symm)⟩
/-- list(z) -/
theorem call {Q : Value → Shared → Prop} (hh : A.handled = none) (D : ZipApart z TI TO i1 i2 l1 l2) (lt : ∀ t, s.heap.objs.size ≤ t → t ≠ z ∧ t ≠ TO ∧ t ≠ i1 ∧ t ≠ i2) (small : min xs.size ys.size ≤ 1000) (hz : IsZip s.heap z TI TO .none) (Z : ZAt s.heap z TI TO i1 i2 l1 l2 xs ys 0)
    (q : ∀ h tk as, Out s.heap h s.heap.objs.size z TO i1 i2 xs ys (min xs.size ys.size) as → Q (.ref s.heap.objs.size) { s with heap := h, toks := tk }) : wpAny (model prog w) A (PySem.call (.type "list") [.ref z]) Q E s := by
  have frh : ∀ {t : Addr} {o : Obj}, s.heap.get? t = some o → t ≠ s.heap.objs.size := fun e => Nat.ne_of_lt (Heap.lt_size e)
  have Fr : Far s.heap.objs.size z TI TO i1 i2 l1 l2 := by
    refine ⟨frh hz, frh Z.ti, ?_, ?_, ?_, ?_, ?_⟩
    · rcases Z.out with ⟨_, _, _, e⟩ | ⟨_, _, _, _, _⟩
      · exact frh e
      · exact (lt _ (Nat.le_refl _)).2.1.symm
    · obtain ⟨_, e, _⟩ := Z.a; exact frh e
    · obtain ⟨_, e, _⟩ := Z.b; exact frh e
    · obtain ⟨_, e, _⟩ := Z.la; exact frh e
    · obtain ⟨_, e, _⟩ := Z.lb; exact frh e
  refine callType_codes (Q₁ := fun obj s₁ => obj = .ref s.heap.objs.size ∧ s₁ = { s with heap := s.heap.push { cls := .type "list", data := .seq #[] } }) F.called_list (F.typeCall_list_1 _) F.entry_list_init (code_list_new _ ⟨rfl, rfl⟩) fun obj s₁ h₁ => ?_
  obtain ⟨rfl, rfl⟩ := h₁
  have hS : (s.heap.push { cls := .type "list", data := .seq #[] }).get? s.heap.objs.size = some { cls := .type "list", data := .seq #[] } := Heap.get?_push_size _ rfl
  refine ⟨⟨_, hS, rfl⟩, F.args_list_init_2 _ _, ?_⟩
  show wpAny _ _ (do let old ← Builtin.List.listItems (.ref s.heap.objs.size); Builtin.List.listUpdate (.ref s.heap.objs.size) (fun _ => #[]); letGo old.toList.reverse; Builtin.List.listExtendWith (.ref s.heap.objs.size) (.ref z) .none) _ _ _
  refine wpAny_bind ?_
  unfold Builtin.List.listItems
  refine wpAny_bind (wpAny_seqItems hS rfl (wpAny_pure ?_))
  show wpAny _ _ (updateSeq s.heap.objs.size (fun _ => #[]) >>= fun _ => letGo (#[] : Array Value).toList.reverse >>= fun _ => Builtin.List.listExtendWith (.ref s.heap.objs.size) (.ref z) .none) _ _ _
  refine wpAny_bind (wpAny_updateSeq hS rfl ?_)
  have s2 := Heap.get?_update_self (Obj.mapSeq (fun _ => (#[] : Array Value))) hS rfl
  have oth : ∀ b o, s.heap.get? b = some o → ((s.heap.push { cls := .type "list", data := .seq #[] }).update s.heap.objs.size (Obj.mapSeq (fun _ => (#[] : Array Value)))).get? b = some o :=
    fun b o e => (Heap.get?_update_other _ _ (frh e).symm).trans (Heap.get?_push_of_some _ e)
  have size : ((s.heap.push { cls := .type "list", data := .seq #[] }).update s.heap.objs.size (Obj.mapSeq (fun _ => (#[] : Array Value)))).objs.size = s.heap.objs.size + 1 := by rw [Heap.size_update, Heap.size_push]
  refine wpAny_bind (wpAny_letGo ?_)
  refine extend (s := { s with heap := _ }) .none hh D Fr (fun t h => lt t (by rw [size] at h; exact Nat.le_of_succ_le h)) small s2 (oth _ _ hz) (Z.keep Fr (fun c o _ e => oth c o e) ⟨_, s2⟩) fun h tk as O => ⟨rfl, q h tk as ⟨fun c o n1 n2 n3 n4 n5 e => O.old c o n1 n2 n3 n4 n5 (oth c o e), O.cell, O.len, O.nd, fun j t e => ?_⟩⟩
  obtain ⟨l, r⟩ := O.pair j t e
  exact ⟨by rw [size] at l; exact Nat.le_of_succ_le l, r⟩
end
end Dz

set_option Elab.async false
set_option linter.all false
set_option maxRecDepth 100000
set_option maxHeartbeats 4000001
namespace Dz
open PySem PySem.Spec PyProof.Rows L2
theorem look_at {β : Type} : ∀ {as : List Addr} {ps : List β} {j : Nat} {t : Addr} {p : β}, as.Nodup → as[j]? = some t → ps[j]? = some p → (as.zip ps).lookup t = some p
  | [], _, j, _, _, _, h, _ => by simp at h
  | _ :: _, [], j, _, _, _, _, h => by simp at h
  | a :: as, q :: ps, 0, t, p, _, h, h' => by
    simp only [List.getElem?_cons_zero, Option.some.injEq] at h h'
    subst h h'
    simp [List.lookup]
  | a :: as, q :: ps, j + 1, t, p, nd, h, h' => by
    simp only [List.getElem?_cons_succ] at h h'
    rw [List.nodup_cons] at nd
    have ne : (t == a) = false := beq_eq_false_iff_ne.mpr fun z => nd.1 (z ▸ List.mem_of_getElem? h)
    rw [List.zip_cons_cons, List.lookup_cons, ne]
    exact look_at nd.2 h h'
theorem look_of {β : Type} : ∀ {as : List Addr} {ps : List β} {t : Addr} {p : β}, (as.zip ps).lookup t = some p → ∃ j : Nat, as[j]? = some t ∧ ps[j]? = some p
  | [], _, _, _, h => by simp at h
  | _ :: _, [], _, _, h => by simp at h
  | a :: as, q :: ps, t, p, h => by
    rw [List.zip_cons_cons, List.lookup_cons] at h
    cases e : t == a with
    | true => rw [e] at h; cases h; exact ⟨0, by simp [beq_iff_eq.mp e], rfl⟩
    | false =>
      rw [e] at h
      obtain ⟨j, h1, h2⟩ := look_of h
      exact ⟨j + 1, h1, h2⟩
theorem vals_refs : ∀ as : List Addr, Vals (as.map V.ref) (as.map Value.ref)
  | [] => .nil
  | _ :: as => .cons rfl (vals_refs as)
/-- the tracked part with the list and its pairs -/
def H2of (H1 : Hp) (S : Addr) (as : List Addr) (xs ys : List V) : Hp := fun b => match H1 b with
  | some o => some o
  | none => if b = S then some (.lst (as.map V.ref)) else (as.zip ((xs.zip ys).map fun p => HO.tup [p.1, p.2])).lookup b
section
variable {H1 : Hp} {S : Addr} {as : List Addr} {xs ys : List V}
theorem H2of_old {b : Addr} {o : HO} (h : H1 b = some o) : H2of H1 S as xs ys b = some o := by unfold H2of; rw [h]
theorem H2of_S (h : H1 S = none) : H2of H1 S as xs ys S = some (.lst (as.map V.ref)) := by unfold H2of; rw [h]; exact if_pos rfl
theorem H2of_new {b : Addr} {o : HO} (h : H1 b = none) (e : H2of H1 S as xs ys b = some o) : (b = S ∧ o = .lst (as.map V.ref)) ∨ ∃ (j : Nat) (x y : V), as[j]? = some b ∧ xs[j]? = some x ∧ ys[j]? = some y ∧ o = .tup [x, y] := by
  unfold H2of at e
  rw [h] at e
  simp only at e
  by_cases c : b = S
  · rw [if_pos c] at e; cases e; exact .inl ⟨c, rfl⟩
  · rw [if_neg c] at e
    obtain ⟨j, h1, h2⟩ := look_of e
    rw [List.getElem?_map] at h2
    cases q : (xs.zip ys)[j]? with
    | none => rw [q] at h2; cases h2
    | some p =>
      rw [q] at h2
      cases h2
      rw [List.getElem?_zip_eq_some] at q
      exact .inr ⟨j, p.1, p.2, h1, q.1, q.2, rfl⟩
theorem H2of_at {j : Nat} {t : Addr} {x y : V} (nd : as.Nodup) (n : H1 t = none) (ns : t ≠ S) (h : as[j]? = some t) (hx : xs[j]? = some x) (hy : ys[j]? = some y) : H2of H1 S as xs ys t = some (.tup [x, y]) := by
  unfold H2of
  rw [n]
  show (if t = S then _ else _) = _
  rw [if_neg ns]
  refine look_at nd h ?_
  rw [List.getElem?_map, List.getElem?_zip_eq_some.mpr (show xs[j]? = some (x, y).1 ∧ ys[j]? = some (x, y).2 from ⟨hx, hy⟩)]
  rfl
end
end Dz
namespace Dp
open PySem PySem.Spec PyProof.Rows L2
/-- H2 is H1 and new things -/
structure Grown (H1 H2 : Hp) : Prop where
  old : ∀ b o, H1 b = some o → H2 b = some o
  new : ∀ b o, H1 b = none → H2 b = some o → Nt o
def tLZ (K : PySem.W.Frag) (ta : TA) : TE := fun σ H Q => ta σ H fun vs H1 => ∃ (a b : Addr) (xs ys : List V), vs = [.ref a, .ref b] ∧ (SqT K H1 a xs ∧ SqT K H1 b ys) ∧ xs.length ≤ 1000 ∧ ys.length ≤ 1000 ∧
  ∀ (q : Addr) (ts : List Addr) (H2 : Hp), Grown H1 H2 → H1 q = none → H2 q = some (.lst (ts.map V.ref)) → ts.length = min xs.length ys.length →
    (∀ (i : Nat) (t : Addr) (x y : V), ts[i]? = some t → xs[i]? = some x → ys[i]? = some y → H1 t = none ∧ H2 t = some (.tup [x, y])) → Q (.ref q) H2
theorem lzK {X : Cx} {K : PySem.W.Frag} {e1 e2 : Expr} {ta : TA} {p1 p2 p3 p4 : Pos} (gl : Gl X "list") (ml : X.mg "list" = none) (gz : Gl X "zip") (mz : X.mg "zip" = none) (ha : PA X [e1, e2] ta) (h : X.K = K := by rfl) (hc : X.calm = true := by rfl)
    (hs : starEach [e1, e2] X.env = (false, eval e1 X.env) :: starEach [e2] X.env := by rfl) (hpl : (backTo p3 (starEach [e2] X.env)).any (·.1) = false := by rfl)
    (na : starEach [Expr.Call (.Name "zip" p2) [e1, e2] [] p3] X.env = (false, eval (Expr.Call (.Name "zip" p2) [e1, e2] [] p3) X.env) :: starEach [] X.env := by rfl) :
    PE X (.Call (.Name "list" p1) [.Call (.Name "zip" p2) [e1, e2] [] p3] [] p4) (tLZ K ta) := by
  subst h
  refine ⟨fun pins s σ H Q I h => ?_⟩
  refine Call_ (ld_blt I gl ml PyProof.Rows.boot_list (PyProof.Rows.callWith_type1 (PyProof.Rows.args_cons ?_ na) na rfl))
  refine Call_ (ld_blt I gz mz PyProof.Rows.boot_zip (PyProof.Rows.callWith_type1 (thn (ha.run p3 pins s σ H _ I h) fun us s1 ⟨vs, H1, I1, r1, q1⟩ => ?_) hs hpl))
  obtain ⟨a, b, xs, ys, rfl, ⟨hqx, hqy⟩, lx, ly, q⟩ := q1
  obtain ⟨u1, u2, rfl, ra, rb⟩ := vals2 r1
  cases (show u1 = Value.ref a from ra)
  cases (show u2 = Value.ref b from rb)
  obtain ⟨its, rv, pa, _⟩ := I1.tuple hqx
  obtain ⟨its2, rv2, pb, _⟩ := I1.tuple hqy
  obtain ⟨oa, hoa, _⟩ := id pa
  obtain ⟨ob, hob, _⟩ := id pb
  refine RZ.call_zipT (show s1.heap.IsTuple a its.toArray from pa) (show s1.heap.IsTuple b its2.toArray from pb) fun hz iz iTI iTO it1 it2 hsz hk => PyProof.Rows.args_nil ?_
  have la : its.length = xs.length := rv.length.symm
  have lb : its2.length = ys.length := rv2.length.symm
  have D := PySem.W.ktu_apart s1.heap.objs.size a b (Heap.lt_size hoa) (Heap.lt_size hob)
  have Z : Dz.ZAt hz (s1.heap.objs.size + 4) (s1.heap.objs.size + 2) (s1.heap.objs.size + 3) s1.heap.objs.size (s1.heap.objs.size + 1) a b its.toArray its2.toArray 0 :=
    ⟨.inl ⟨iz, _, _, iTO⟩, iTI, it1, it2, ⟨oa, hk _ _ hoa, by assumption⟩, ⟨ob, hk _ _ hob, by assumption⟩⟩
  have mn : min its.toArray.size its2.toArray.size = min xs.length ys.length := by rw [List.size_toArray, List.size_toArray, la, lb]
  refine Dz.call (s := { s1 with heap := hz }) (I1.ok.hd hc) D (fun t ht => ?_) (by rw [mn]; omega) iz Z fun h' tk as O => ?_
  · have ht : hz.objs.size ≤ t := ht
    rw [hsz] at ht
    exact ⟨by intro z; subst z; omega, by intro z; subst z; omega, by intro z; subst z; omega, by intro z; subst z; omega⟩
  · rw [mn] at O
    have O : Dz.Out hz h' hz.objs.size (s1.heap.objs.size + 4) (s1.heap.objs.size + 3) s1.heap.objs.size (s1.heap.objs.size + 1) its.toArray its2.toArray (min xs.length ys.length) as := O
    have low : ∀ c o, s1.heap.get? c = some o → h'.get? c = some o := fun c o e => by
      have l := Heap.lt_size e
      exact O.old c o (Nat.ne_of_lt (by rw [hsz]; exact Nat.lt_of_lt_of_le l (Nat.le_add_right _ _))) (Nat.ne_of_lt (Nat.lt_of_lt_of_le l (Nat.le_add_right _ _))) (Nat.ne_of_lt (Nat.lt_of_lt_of_le l (Nat.le_add_right _ _))) (Nat.ne_of_lt l) (Nat.ne_of_lt (Nat.lt_of_lt_of_le l (Nat.le_add_right _ _))) (hk c o e)
    obtain ⟨acc, cc, cS, hacc⟩ := O.cell
    have nS : H1 hz.objs.size = none := I1.hok.fresh (by rw [hsz]; exact Nat.le_add_right _ _)
    have at_t : ∀ (j : Nat) (t : Addr), as[j]? = some t → H1 t = none ∧ t ≠ hz.objs.size ∧ s1.heap.objs.size ≤ t := fun j t e => by
      obtain ⟨l, x, y, _, _, e3⟩ := O.pair j t e
      have l2 : s1.heap.objs.size ≤ t := Nat.le_trans (by rw [hsz]; exact Nat.le_add_right _ _) l
      refine ⟨I1.hok.fresh l2, fun z => ?_, l2⟩
      rw [z] at e3
      have e4 := cS.symm.trans e3
      have e5 : Value.type "list" = Value.type "tuple" := congrArg Obj.cls (Option.some.inj e4)
      exact absurd e5 (by decide)
    have old2 : ∀ b o, H1 b = some o → Dz.H2of H1 hz.objs.size as xs ys b = some o := fun b o e => Dz.H2of_old e
    have un : Un X.fs [] H1 (Dz.H2of H1 hz.objs.size as xs ys) s1.heap h' := by
      refine ⟨fun b o e _ _ _ => low b o e, fun b o e _ _ _ => ⟨o.slots, low b o e⟩, fun b o e n _ => ?_, fun b o e _ => ⟨o, low b o e⟩, fun b vs e => old2 _ _ e, fun b o u e => old2 _ _ e, fun b ps e => ⟨#[], by rw [old2 _ _ e]; simp⟩⟩
      have l := Heap.lt_size e
      cases g : Dz.H2of H1 hz.objs.size as xs ys b with
      | none => rfl
      | some u =>
        rcases Dz.H2of_new n g with ⟨z, _⟩ | ⟨j, x, y, z, _⟩
        · rw [z, hsz] at l
          exact absurd l (Nat.not_lt.mpr (Nat.le_add_right _ _))
        · exact absurd l (Nat.not_lt.mpr (at_t j b z).2.2)
    have ok : HOk X.prog X.w (Dz.H2of H1 hz.objs.size as xs ys) h' := by
      intro b u e
      cases g : H1 b with
      | some o =>
        rw [Dz.H2of_old g] at e
        cases e
        exact (I1.hok b _ g).stay (fun c v _ e => low c v e) (fun c e => old2 _ _ e) fun c vs e => old2 _ _ e
      | none =>
        rcases Dz.H2of_new g e with ⟨rfl, rfl⟩ | ⟨j, x, y, ej, ex, ey, rfl⟩
        · refine ⟨?_, acc.toList, cc, ?_, cS⟩
          · rw [List.length_map, O.len]; unfold sizeLine; omega
          · rw [hacc]; exact Dz.vals_refs as
        · obtain ⟨_, u, u2, hu, hu2, e3⟩ := O.pair j b ej
          obtain ⟨v, hv, rx⟩ := rv.get ex
          obtain ⟨v2, hv2, ry⟩ := rv2.get ey
          have f1 : u = v := by
            have : its[j]? = some u := by simpa using hu
            rw [hv] at this
            exact (Option.some.inj this).symm
          have f2 : u2 = v2 := by
            have : its2[j]? = some u2 := by simpa using hu2
            rw [hv2] at this
            exact (Option.some.inj this).symm
          subst f1 f2
          exact ⟨by show 2 ≤ sizeLine; decide, [u, u2], .cons rx (.cons ry .nil), ⟨_, e3, rfl, _, rfl⟩⟩
    have I2 : Inv X pins σ (Dz.H2of H1 hz.objs.size as xs ys) { s1 with heap := h', toks := tk } := I1.un (t' := tk) un ok
    refine ⟨.ref hz.objs.size, _, I2, rfl, q hz.objs.size as _ ⟨old2, fun b o n e => ?_⟩ nS (Dz.H2of_S nS) O.len fun j t x y ej ex ey => ⟨(at_t j t ej).1, Dz.H2of_at O.nd (at_t j t ej).1 (at_t j t ej).2.1 ej ex ey⟩⟩
    rcases Dz.H2of_new n e with ⟨_, rfl⟩ | ⟨_, _, _, _, _, _, rfl⟩
    · intro _ z; cases z
    · intro _ z; cases z
end Dp

set_option Elab.async false
set_option linter.all false
set_option maxRecDepth 100000
set_option maxHeartbeats 4000001
/-! list(zip(xs, ys)) -/
namespace Dp
open PySem PySem.Spec PyProof.Rows L2
def wLZ (wr : WA) : WE := fun ds μ n Q => wr ds μ n fun xs μ1 n1 => ∃ as bs, xs = [.tup as, .tup bs] ∧ as.length ≤ 1000 ∧ bs.length ≤ 1000 ∧ Q (.lst (zipD as bs)) μ1 n1
/-- the known part grows likewise -/
def grow (H1 H2 G : Hp) : Hp := fun b => match H1 b with
  | none => H2 b
  | some _ => G b
theorem grow_new {H1 H2 G : Hp} {b : Addr} (h : H1 b = none) : grow H1 H2 G b = H2 b := by unfold grow; rw [h]
theorem grow_old {H1 H2 G : Hp} {b : Addr} {o : HO} (h : H1 b = some o) : grow H1 H2 G b = G b := by unfold grow; rw [h]
section
variable {c : Cb} {t : Addr} {H0 G0 H1 G1 H2 : Hp} {μ : Mu} {n : Nat}
theorem Sb.grown (s : Sb c t H0 G0 H1 G1 μ n) (g : Grown H1 H2) : Stp c t H1 G1 H2 (grow H1 H2 G1) n := by
  have gg : Same G1 (grow H1 H2 G1) := fun b o e => by rw [grow_old (s.gh b o e)]; exact e
  refine ⟨gg, fun b o e => ?_, fun b hb => ?_, s.pen.keep (g.old _) gg (fun T => T.ext g.old) (fun N b o e => ?_), fun b o _ _ e => g.old b o e, fun b o _ e hg => by rw [grow_old e]; exact hg⟩
  · cases q : H1 b with
    | none => rw [grow_new q] at e; exact e
    | some u => rw [grow_old q] at e; exact g.old _ _ (s.gh _ _ e)
  · cases q : H1 b with
    | none => exact absurd hb (s.pen.fresh q)
    | some u => rw [grow_old q]; exact s.gt b hb
  · cases q : H1 b with
    | none => rw [grow_new q] at e; exact g.new b o q e
    | some u => rw [grow_old q] at e; exact N b o e
end
section
variable {c : Cn}
theorem zip_rel {t : Addr} {G1 H1 H2 : Hp} {as bs : List D} {xs ys : List V} {ts : List Addr} (gr : Same G1 (grow H1 H2 G1)) (ra : RpL c t G1 as xs) (rb : RpL c t G1 bs ys) (hl : ts.length = min xs.length ys.length)
    (ht : ∀ (i : Nat) (t : Addr) (x y : V), ts[i]? = some t → xs[i]? = some x → ys[i]? = some y → H1 t = none ∧ H2 t = some (.tup [x, y])) : RpL c t (grow H1 H2 G1) (zipD as bs) (ts.map V.ref) := by
  have key : ∀ k, k ≤ ts.length → RpL c t (grow H1 H2 G1) ((zipD as bs).take k) ((ts.map V.ref).take k) := fun k => by
    induction k with
    | zero => intro _; simp only [List.take_zero]; exact RpL.nil
    | succ k ih =>
      intro hk
      have la := RpL.len ra
      have lb := RpL.len rb
      have hx : k < xs.length := by omega
      have hy : k < ys.length := by omega
      have z := zipD_get (xs := as) (ys := bs) (i := k) (by omega) (by omega)
      have z2 : (ts.map V.ref)[k]? = some (.ref ts[k]) := by rw [List.getElem?_map, List.getElem?_eq_getElem (show k < ts.length by omega)]; rfl
      rw [← take_push z, ← take_push z2]
      refine RpL.append (ih (by omega)) (RpL.one ?_)
      obtain ⟨n1, n2⟩ := ht k ts[k] xs[k] ys[k] (List.getElem?_eq_getElem _) (List.getElem?_eq_getElem _) (List.getElem?_eq_getElem _)
      obtain ⟨x, x1, x2⟩ := RpL.get (i := k) (d := as[k]) ra (List.getElem?_eq_getElem _)
      obtain ⟨y, y1, y2⟩ := RpL.get (i := k) (d := bs[k]) rb (List.getElem?_eq_getElem _)
      rw [List.getElem?_eq_getElem hx] at x1
      rw [List.getElem?_eq_getElem hy] at y1
      cases x1
      cases y1
      exact Rp.tupNew (by rw [grow_new n1]; exact n2) (RpL.mono gr _ _ (RpL.cons x2 (RpL.one y2)))
  have k := key ts.length (Nat.le_refl _)
  rw [List.take_of_length_le (by rw [zipD_len, hl, RpL.len ra, RpL.len rb]; exact Nat.le_refl _), List.take_of_length_le (by rw [List.length_map]; exact Nat.le_refl _)] at k
  exact k
theorem snd_lz {ta : TA} {wr : WA} (h : SndA c ta wr) : Snd c (tLZ c.K ta) (wLZ wr) := fun t H0 G0 H G σ ds μ n Q Qd r s w k =>
  h t H0 G0 H G σ ds μ n (fun vs H1 => ∃ (a b : Addr) (xs ys : List V), vs = [.ref a, .ref b] ∧ (SqT c.K H1 a xs ∧ SqT c.K H1 b ys) ∧ xs.length ≤ 1000 ∧ ys.length ≤ 1000 ∧
    ∀ (q : Addr) (ts : List Addr) (H2 : Hp), Grown H1 H2 → H1 q = none → H2 q = some (.lst (ts.map V.ref)) → ts.length = min xs.length ys.length →
    (∀ (i : Nat) (t : Addr) (x y : V), ts[i]? = some t → xs[i]? = some x → ys[i]? = some y → H1 t = none ∧ H2 t = some (.tup [x, y])) → Q (.ref q) H2) _ r s w fun vs H1 G1 dx μ1 n1 s1 g1 rs ⟨as, bs, e, l1, l2, q⟩ => by
    have core : ∀ (xs ys : List V), RpL c t G1 as xs → RpL c t G1 bs ys → ∀ (p : Addr) (ts : List Addr) (H2 : Hp), Grown H1 H2 → H1 p = none → H2 p = some (.lst (ts.map V.ref)) → ts.length = min xs.length ys.length →
        (∀ (i : Nat) (t : Addr) (x y : V), ts[i]? = some t → xs[i]? = some x → ys[i]? = some y → H1 t = none ∧ H2 t = some (.tup [x, y])) → Q (.ref p) H2 := by
      intro xs ys ra rb p ts H2 gr np hp hl ht
      have st := s1.grown gr
      exact k _ _ _ _ _ _ (s1.step st) (Same.trans g1 st.g) (Rp.lstNew (by rw [grow_new np]; exact hp) (zip_rel st.g ra rb hl ht)) q
    subst e
    simp only [RpL, Rp] at rs
    obtain ⟨_, _, rfl, ⟨a, xs, rfl, h1, r1⟩, _, _, rfl, ⟨b, ys, rfl, h2, r2⟩, rfl⟩ := rs
    exact ⟨a, b, xs, ys, rfl, ⟨Same.tup s1.gh h1, Same.tup s1.gh h2⟩, by rw [RpL.len r1]; exact l1, by rw [RpL.len r2]; exact l2, core xs ys r1 r2⟩
end
end Dp

set_option Elab.async false
set_option linter.all false
set_option maxRecDepth 100000
set_option maxHeartbeats 4000001
/-! f(b = .., a = ..), the parameters being a, b -/
namespace Dp
open PySem PySem.Spec PyProof.Rows L2
def sw2 {α : Type} : List α → List α → List α
  | [], [v, u] => [u, v]
  | _, _ => []
theorem sw2_rel {vs : List V} {us : List Value} {zs : List V} {ws : List Value} (h : Vals vs us) (h' : Vals zs ws) : Vals (sw2 vs zs) (sw2 us ws) := by
  cases h with
  | nil =>
    cases h' with
    | nil => exact .nil
    | cons a h1 =>
      cases h1 with
      | nil => exact .nil
      | cons b h2 =>
        cases h2 with
        | nil => exact .cons b (.cons a .nil)
        | cons _ _ => exact .nil
  | cons _ _ => exact .nil
theorem sw2_rpl {c : Cb} {t : Addr} {G : Hp} {ys : List D} {us : List V} (h : RpL c t G ys us) : RpL c t G (sw2 [] ys) (sw2 [] us) := by
  match ys, h with
  | [], h => simp only [RpL] at h; subst h; exact RpL.nil
  | [x], h =>
    simp only [RpL] at h
    obtain ⟨v, _, rfl, _, rfl⟩ := h
    exact RpL.nil
  | [x, y], h =>
    simp only [RpL] at h
    obtain ⟨v, _, rfl, h1, u, _, rfl, h2, rfl⟩ := h
    exact RpL.cons h2 (RpL.one h1)
  | x :: y :: z :: ys, h =>
    simp only [RpL] at h
    obtain ⟨v, _, rfl, h1, u, _, rfl, h2, q, _, rfl, h3, h4⟩ := h
    exact RpL.nil
section
variable (P : Program) (w : World) (K : PySem.W.Frag) (mg : PySem.Str → Option Value) (base : Heap)
def DnW (CX : CXT) (x : PySem.Str) (k : Nat) (a b : PySem.Str) (sp : Sp) : Prop := ∃ f fd, mg x = some (.ref f) ∧ FnOk P w K mg base CX k f fd [a, b] sp ∧ PySem.W.keepIn K (.ref f) = true ∧ KBinds K fd [a, b] [b, a] sw2 sw2
end
section
variable {P : Program} {w : World} {K : PySem.W.Frag} {mg : PySem.Str → Option Value} {base : Heap} {x qual : PySem.Str} {params : Arguments} {body : List Stmt} {scope : Scope} {f : Addr} {fd : FuncData} {k : Nat} {sp : Sp} {CX : CXT} {a b : PySem.Str}
theorem dnw_mk (Fn : FunD K x qual params body scope [] [] f fd) (hm : mg x = some (.ref f)) (F : FnOk P w K mg base CX k f fd [a, b] sp)
    (h : ∀ (kV doc pm : Value) (an : Option Addr) (cdv ct u v : Value), bindArgs (PySem.W.fnOf x qual params body scope .none kV doc pm an cdv ct) ⟨[], [(b, v), (a, u)]⟩ = pure [(a, u), (b, v)] := by intros; rfl) : DnW P w K mg base CX x k a b sp := by
  refine ⟨f, fd, hm, F, Fn.kp, fun s us ws X hl => ?_, sw2_rel⟩
  match us, ws, hl with
  | [], [v, u], _ =>
    obtain ⟨oc, od, dV, kV, doc, pm, an, cdv, ct, osl, rfl, lk, hcd, hD, hK⟩ := Fn.ex
    rcases hD with ⟨_, rfl⟩ | ⟨e, _⟩
    · exact .of_eq (h _ _ _ _ _ _ _ _)
    · exact absurd rfl e
  | [], [], hl => simp [sw2] at hl
  | [], [_], hl => simp [sw2] at hl
  | [], _ :: _ :: _ :: _, hl => simp [sw2] at hl
  | _ :: _, _, hl => simp [sw2] at hl
end
section
variable {X : Cx} {x a b : PySem.Str} {k j : Nat} {sp : Sp} {E : XK} {p pos : Pos} {kws : List Keyword} {tk' : TA}
theorem pe_dw (D : DnW X.prog X.w X.K X.mg X.base CX0 x k a b sp) (hr : Room j X.A) (hg : Gl X x) (ha : PK X kws tk') (hk : k ≤ j := by decide) (hdb : (x == ("__debug__" : PySem.Str)) = false := by decide)
    (hall : (backToKw pos (keywordEach kws X.env)).all (·.1.isSome) = true := by rfl) (hks : (backToKw pos (keywordEach kws X.env)).filterMap (·.1) = [b, a] := by rfl)
    (hpl : ((backTo pos (starEach [] X.env)).any (·.1) || (backToKw pos (keywordEach kws X.env)).any (·.1.isNone)) = false := by rfl) : PE X (.Call (.Name x p) [] kws pos) (tCallK0 sp sw2 E0 tk') := by
  obtain ⟨f, fd, h1, h2, h3, h4⟩ := D
  exact pe_callK0 h2 (hr.mono hk) hg h1 h3 h4 pass0 ha hall hks hpl hdb
theorem pe_dwx (D : DnW X.prog X.w X.K X.mg X.base (L2.CX X.prog X.w) x k a b sp) (hr : Room j X.A) (hg : Gl X x) (tk : Takes X (WEk E)) (ha : PK X kws tk') (hk : k ≤ j := by decide) (hdb : (x == ("__debug__" : PySem.Str)) = false := by decide)
    (hall : (backToKw pos (keywordEach kws X.env)).all (·.1.isSome) = true := by rfl) (hks : (backToKw pos (keywordEach kws X.env)).filterMap (·.1) = [b, a] := by rfl)
    (hpl : ((backTo pos (starEach [] X.env)).any (·.1) || (backToKw pos (keywordEach kws X.env)).any (·.1.isNone)) = false := by rfl) : PE X (.Call (.Name x p) [] kws pos) (tCallK0 sp sw2 E tk') := by
  obtain ⟨f, fd, h1, h2, h3, h4⟩ := D
  exact pe_callK0 h2 (hr.mono hk) hg h1 h3 h4 (passE tk) ha hall hks hpl hdb
end
def wCallW (F : FD) (wk : WA) : WE := fun ds μ n Q => wk ds μ n fun ys μ1 n1 => F (sw2 [] ys) n1 fun d n2 => Q d μ1 n2
theorem snd_dw {c : Cn} {tk : TA} {wk : WA} {k : Nat} {F : FD} {E : XK} (hF : ∀ ds n Q, F ds n Q → ds.length = k) (h2 : SndA c tk wk) : Snd c (tCallK0 (spD c k F) sw2 E tk) (wCallW F wk) := fun t H0 G0 H G σ ds μ n Q Qd r s w kk =>
  h2 t H0 G0 H G σ ds μ n _ _ r s w fun us H2 G2 ys μ2 n2 s2 g2 rs2 w2 => by
    have rr := sw2_rpl (c := c.toCb) (t := t) (G := G2) rs2
    exact ⟨t, G2, _, n2, _, (RpL.len rr).trans (hF _ _ _ w2), rr, s2.gh, s2.gt, s2.pen, w2, fun v H3 G3 d n3 st rv q => kk v H3 G3 d μ2 n3 (s2.step st) (Same.trans g2 st.g) rv q⟩
def wCallWX (Wd : KX) (F : FX) (wk : WA) : WE := fun ds μ n Q => wk ds μ n fun ys μ1 n1 => F (sw2 [] ys) n1 (fun d n2 => Q d μ1 n2) fun C ks zs n2 => Wd C ks zs ds μ1 n2
theorem snd_dwx {c : Cb} {E : XK} {Wd : KX} {tk : TA} {wk : WA} {k : Nat} {F : FX} (hF : ∀ ds n Q Qx, F ds n Q Qx → ds.length = k) (h : SndA (cx c (WEk E) Wd) tk wk) : Snd (cx c (WEk E) Wd) (tCallK0 (spX c k F) sw2 E tk) (wCallWX Wd F wk) := fun t H0 G0 H G σ ds μ n Q Qd r s w kk =>
  h t H0 G0 H G σ ds μ n _ _ r s w fun us H1 G1 ys μ1 n1 s1 g1 rs w1 => by
    have rr := sw2_rpl (c := c) (t := t) (G := G1) rs
    exact ⟨t, G1, _, n1, _, _, (RpL.len rr).trans (hF _ _ _ _ w1), rr, s1.gh, s1.gt, s1.pen, w1, fun v H2 G2 d n2 st rv q => kk v H2 G2 d μ1 n2 (s1.step st) (Same.trans g1 st.g) rv q,
      fun C dx H2 G2 ks us ys n2 st e l rs2 q => s1.adm C dx σ H2 G2 ks us ys ds μ1 n2 (s1.step st).toSb ((r.mono g1).mono st.g) e l rs2 q⟩
/-- x(lambda: body)'s scope, told by rfl -/
theorem sw2_two {α : Type} {u v : α} : sw2 [] [v, u] = [u, v] := rfl
end Dp

set_option Elab.async false
set_option linter.all false
set_option maxRecDepth 100000
set_option maxHeartbeats 4000001
/-! cross spans of two rows: exchanged, turned, mirrored, added, taken some times, left out -/
namespace Dp
theorem nt_map {a : List Int} {f : Int → Int} {i : Nat} (h : i < a.length) : nt (a.map f) i = f (nt a i) := nt_get (by rw [List.getElem?_map, nt_lt h]; rfl)
theorem nt_zip {a b : List Int} (h : a.length = b.length) {i : Nat} (hi : i < a.length) : nt (List.zipWith (· + ·) a b) i = nt a i + nt b i := nt_get (by rw [List.getElem?_zipWith, nt_lt hi, nt_lt (show i < b.length by omega)])
theorem spn_at {a b : List Int} {d : Nat} (h : d < a.length) : nt (spn a b) d = xs a.length (nt a) (nt b) d := tab_nt h
theorem spn_swap {a b : List Int} (h : a.length = b.length) {d : Nat} (hd : d < a.length) : nt (spn a b) (ng a.length d) = nt (spn b a) d := by
  rw [spn_at (ng_lt (by omega)), spn_at (by omega), ← h]
  exact xs_swap hd
theorem spn_swapT {a b : List Int} (h : a.length = b.length) : (tab a.length fun d => nt (spn a b) (ng a.length d)) = spn b a :=
  ext_nt (by rw [tab_len, spn_len]; exact h) fun d hd => by rw [tab_len] at hd; rw [tab_nt hd, spn_swap h hd]
theorem spn_turnR {a b : List Int} {t : Int} (h : a.length = b.length) (h0 : 0 < a.length) : spn a (trn b t) = trn (spn a b) t := by
  refine ext_nt (by rw [trn_len, spn_len, spn_len]) fun d hd => ?_
  rw [spn_len] at hd
  obtain ⟨r, hr⟩ := turn_at (t := t) h0
  rw [spn_at hd, trn_nt (by rw [spn_len]; exact hd), spn_len, hr d hd, spn_at (Nat.mod_lt _ h0)]
  unfold xs
  refine Sg_congr fun i _ => ?_
  have hm : (i + d) % a.length < a.length := Nat.mod_lt _ h0
  rw [trn_nt (by omega), ← h, hr _ hm, Nat.mod_add_mod, Nat.add_mod_mod, Nat.add_assoc]
theorem spn_turn2 {a b : List Int} {t : Int} (h : a.length = b.length) (h0 : 0 < a.length) : spn (trn a t) (trn b t) = spn a b := by
  unfold spn
  rw [show (trn a t).length = a.length from tab_len]
  refine tab_congr fun d _ => ?_
  obtain ⟨r, hr⟩ := turn_at (t := t) h0
  rw [xs_congr (f' := fun i => nt a ((i + r) % a.length)) (g' := fun i => nt b ((i + r) % a.length)) (fun i hi => by rw [trn_nt hi, hr i hi]) (fun i hi => by rw [trn_nt (by omega), ← h, hr i hi])]
  exact xs_turn h0
theorem spn_turnL {a b : List Int} {t : Int} (h : a.length = b.length) (h0 : 0 < a.length) : spn (trn a t) b = trn (spn a b) (-t) := by
  have e : trn (trn b (-t)) t = b := by rw [trn_trn (by omega), Int.add_left_neg, trn_zero]
  rw [← spn_turnR h h0, ← spn_turn2 (t := t) (a := a) (b := trn b (-t)) (by rw [trn_len]; exact h) h0, e]
theorem spn_mir2 {a b : List Int} (h : a.length = b.length) (h0 : 0 < a.length) : spn (mir a) (mir b) = spn b a := by
  refine ext_nt (by rw [spn_len, mir_len, spn_len]; exact h) fun d hd => ?_
  rw [spn_len, mir_len] at hd
  rw [← spn_swap h hd, spn_at (by rw [mir_len]; exact hd), spn_at (ng_lt h0), mir_len]
  unfold xs
  rw [← Sg_mirror h0]
  refine Sg_congr fun i hi => ?_
  rw [mir_nt (ng_lt h0), ng_ng hi, mir_nt (by rw [← h]; exact Nat.mod_lt _ h0), ← h, ng_add hi hd]
theorem spn_addR {a b c : List Int} (h : a.length = b.length) (h' : b.length = c.length) : spn a (List.zipWith (· + ·) b c) = List.zipWith (· + ·) (spn a b) (spn a c) := by
  refine ext_nt (by rw [List.length_zipWith, spn_len, spn_len, spn_len]; omega) fun d hd => ?_
  rw [spn_len] at hd
  rw [nt_zip (by rw [spn_len, spn_len]) (by rw [spn_len]; exact hd), spn_at hd, spn_at hd, spn_at hd]
  unfold xs
  rw [← Sg_add]
  refine Sg_congr fun i _ => ?_
  rw [nt_zip h' (by rw [← h]; exact Nat.mod_lt _ (by omega)), Int.mul_add]
theorem spn_addL {a b c : List Int} (h : a.length = b.length) (h' : b.length = c.length) : spn (List.zipWith (· + ·) b c) a = List.zipWith (· + ·) (spn b a) (spn c a) := by
  have el : (List.zipWith (· + ·) b c).length = b.length := by rw [List.length_zipWith]; omega
  refine ext_nt (by rw [List.length_zipWith, spn_len, spn_len, spn_len, el]; omega) fun d hd => ?_
  rw [spn_len, el] at hd
  rw [nt_zip (by rw [spn_len, spn_len]; exact h') (by rw [spn_len]; exact hd), spn_at (by rw [el]; exact hd), spn_at hd, spn_at (by omega), el, ← h']
  unfold xs
  rw [← Sg_add]
  refine Sg_congr fun i hi => ?_
  rw [nt_zip h' hi, Int.add_mul]
theorem spn_mapR {a b : List Int} {k : Int} (h : a.length = b.length) : spn a (b.map fun x => x * k) = (spn a b).map fun z => k * z := by
  refine ext_nt (by rw [List.length_map, spn_len, spn_len]) fun d hd => ?_
  rw [spn_len] at hd
  rw [nt_map (by rw [spn_len]; exact hd), spn_at hd, spn_at hd]
  unfold xs
  rw [← Sg_mulL]
  refine Sg_congr fun i _ => ?_
  rw [nt_map (by rw [← h]; exact Nat.mod_lt _ (by omega)), ← Int.mul_assoc, Int.mul_comm k]
theorem spn_mapL {a b : List Int} {k : Int} (h : a.length = b.length) : spn (a.map fun x => x * k) b = (spn a b).map fun z => k * z := by
  refine ext_nt (by rw [List.length_map, spn_len, spn_len, List.length_map]) fun d hd => ?_
  rw [spn_len, List.length_map] at hd
  rw [nt_map (by rw [spn_len]; exact hd), spn_at (by rw [List.length_map]; exact hd), spn_at hd, List.length_map]
  unfold xs
  rw [← Sg_mulL]
  refine Sg_congr fun i hi => ?_
  rw [nt_map hi, Int.mul_right_comm, Int.mul_comm _ k]
theorem spn_outL {a b : List Int} (h : a.length = b.length) (h0 : 0 < a.length) : spn (a.map fun x => 1 - x) b = (spn a b).map fun z => b.sum - z := by
  refine ext_nt (by rw [List.length_map, spn_len, spn_len, List.length_map]) fun d hd => ?_
  rw [spn_len, List.length_map] at hd
  rw [nt_map (by rw [spn_len]; exact hd), spn_at (by rw [List.length_map]; exact hd), spn_at hd, List.length_map, sum_nt, ← h, ← Sg_shift (d := d) h0]
  unfold xs
  rw [Int.sub_eq_add_neg, ← Int.neg_one_mul, ← Sg_mulL, ← Sg_add]
  refine Sg_congr fun i hi => ?_
  rw [nt_map hi, Int.sub_mul]
  omega
theorem spn_outR {a b : List Int} (h : a.length = b.length) (h0 : 0 < a.length) : spn a (b.map fun x => 1 - x) = (spn a b).map fun z => a.sum - z := by
  refine ext_nt (by rw [List.length_map, spn_len, spn_len]) fun d hd => ?_
  rw [spn_len] at hd
  rw [nt_map (by rw [spn_len]; exact hd), spn_at hd, spn_at hd, sum_nt]
  unfold xs
  rw [Int.sub_eq_add_neg, ← Int.neg_one_mul, ← Sg_mulL, ← Sg_add]
  refine Sg_congr fun i hi => ?_
  rw [nt_map (by rw [← h]; exact Nat.mod_lt _ h0), Int.mul_sub]
  omega
end Dp

set_option Elab.async false
set_option linter.all false
set_option maxRecDepth 100000
set_option maxHeartbeats 4000001
/-! set(xs) of a list of ints, with what sorted asks of it; sorted(set(xs)) -/
namespace Dp
open PySem PySem.Spec PyProof.Rows L2
section
variable {P : Program} {w : World} {A : Around} {E : Value → Shared → Prop} {s : Shared}
/-- an empty set -/
abbrev noSet (w : World) : Obj := { cls := .type "set", dict := none, data := .set #[] 0 (.fresh 0 0 (!w.params.followText "set-order")) }
theorem set_made {v : Value} {Q : Value → Shared → Prop}
    (fill : codeAny (model P w) A.in1 (.call (.builtin "set.__init__") ⟨[.ref s.heap.objs.size, v], []⟩) (wants (fun r z => r = .none ∧ Q (.ref s.heap.objs.size) z) E) { s with heap := s.heap.push (noSet w) }) :
    wpAny (model P w) A (call (.type "set") [v]) Q E s := by
  obtain ⟨ct, l, mro⟩ := F.called_set.mro
  have hn := F.called_set.made
  have hs := F.called_set.sub
  have no := F.called_set.notType
  have can := F.called_set.canCreate
  have chk := F.typeCall_set_1 v
  refine wpAny_call (codeAny_of_tree (wpAny_pure ⟨Code.quiet_builtin _ (by decide +kernel), codeAny_builtin F.entry_type_call ?_⟩))
  rw [Around.under_plain (weight_type_call_type "set" [v] []) rfl]
  repeat (any_goals (first | assumption | wp_step))
  refine codeAny_mono (code_set_led1 v (E := E) (Q₁ := fun x z => x = .ref s.heap.objs.size ∧ z = { s with heap := s.heap.push (noSet w) }) ⟨rfl, rfl⟩) fun r z hr => ?_
  rcases r with e | f
  · exact hr
  cases f with
  | ret x =>
    obtain ⟨rfl, rfl⟩ := hr
    have is : Shared.TypeIs { s with heap := s.heap.push (noSet w) } (.ref s.heap.objs.size) "set" := ⟨_, Heap.get?_push_size _ rfl, rfl⟩
    have looked := F.called_set.init.lookup
    have bound := F.called_set.init.bind (.ref s.heap.objs.size)
    repeat (any_goals (first | assumption | wp_step))
    refine codeAny_mono fill fun r2 z2 hr2 => ?_
    rcases r2 with e | f2
    · exact hr2
    cases f2 with
    | ret y =>
      obtain ⟨rfl, q⟩ := hr2
      repeat (any_goals (first | assumption | wp_step))
    | _ => exact hr2.elim
  | _ => exact hr.elim
/-- set.__init__ of a new set and a list -/
theorem set_filled {S l : Addr} {items : Array Value} {ns : List Int} (hh : A.handled = none) (hS : s.heap.get? S = some (noSet w)) (hl : s.heap.IsList l items) (hi : IntsAre items.toList ns) (few : ns.length + 1 < scanBound) (nSl : S ≠ l)
    {R : Result → Shared → Prop} (k : ∀ (s' : Shared) (n : Nat), Moved [S, s.heap.objs.size] (fun a b => b = a) s s' → n ≤ ns.length → SetR w s'.heap S (fun j => decide (j ∈ ns)) n → R (.ok (.ret .none)) s') :
    codeAny (model P w) A (.call (.builtin "set.__init__") ⟨[.ref S, .ref l], []⟩) R s := by
  have is : s.TypeIs (.ref S) "set" := ⟨_, hS, rfl⟩
  have size : items.size = ns.length := by rw [← Array.length_toList]; exact IntsAre.length hi
  obtain ⟨⟨oc, od, oe, os⟩, got, cl, ep, dt⟩ := hl
  simp only at cl dt
  subst cl dt
  refine codeAny_call_builtin F.called_set.init.plain F.entry_set_init (check_set_init_1 is ?_)
  have no1 := F.sub_list_set
  have no2 := F.sub_list_frozenset
  have no3 : (Value.type "list" == Value.type "dict") = false := by decide
  unfold Builtin.«set.__init__» noKeywords Builtin.Frozenset.updateFrom
  generalize it : pyIter = iter
  wp_walk
  subst it
  have isl : s.heap.IsList l items := ⟨_, got, rfl, ep, rfl⟩
  refine wpAny_pyIter_list isl (wpAny_bind (wpAny_runValue ?_))
  have calm : A.in1.in1.handled = none := by simp [hh]
  have old : l < s.heap.objs.size := Heap.lt_size got
  have apart : S ∉ [s.heap.objs.size, l] := by
    simp only [List.mem_cons, List.not_mem_nil, or_false, not_or]
    exact ⟨Nat.ne_of_lt (Heap.lt_size hS), nSl⟩
  have stay : ∀ b o, s.heap.get? b = some o → b ≠ S → b ∉ [S, s.heap.objs.size] := fun b o e n => by
    simp only [List.mem_cons, List.not_mem_nil, or_false, not_or]
    exact ⟨n, Nat.ne_of_lt (Heap.lt_size e)⟩
  refine set_update_ints ((Walks.list calm s.heap.objs.size l (Nat.ne_of_lt old) items).toS) S apart ns size few (fun i u hu => ?_) _ 0 _ rfl (Nat.zero_le _) ?_ ⟨0, Nat.le_refl 0, ?_⟩ ?_
  · have hn : i < ns.length := size ▸ (Array.getElem?_eq_some_iff.mp hu).1
    obtain ⟨t, e⟩ := IntsAre.int_at hi i u (by rw [Array.getElem?_toList]; exact hu)
    exact ⟨ns[i], t, List.getElem?_eq_getElem hn, by rw [e, List.getD_eq_getElem?_getD, List.getElem?_eq_getElem hn]; rfl⟩
  · exact ⟨⟨_, Heap.get?_push_size _ rfl, rfl, rfl⟩, isl.push _⟩
  · exact setR_new_at (Heap.get?_push_of_some _ hS)
  · intro z n moved le made
    have le : n ≤ ns.length := size ▸ le
    have fin := k z n ⟨fun b o nb e => moved.heap b o nb (Heap.get?_push_of_some _ e), moved.gens, moved.drawn, moved.os, moved.toks⟩ le made
    exact wpAny_pure (wpAny_pure fin)
theorem few_ints : ∀ (B : Nat) (ks : List Int), ks.Nodup → (∀ k ∈ ks, 0 ≤ k ∧ k < B) → ks.length ≤ B
  | 0, ks, _, h => by
    cases ks with
    | nil => exact Nat.le_refl 0
    | cons k r => have := h k List.mem_cons_self; omega
  | B + 1, ks, nd, h => by
    have ih := few_ints B (ks.erase (B : Int)) (nd.erase _) fun k hk => by
      obtain ⟨ne, mem⟩ := (List.Nodup.mem_erase_iff nd).1 hk
      have := h k mem
      omega
    have := List.length_erase (a := (B : Int)) (l := ks)
    split at this <;> omega
end
section
variable {X : Cx}
def rSetL (K : PySem.W.Frag) (w : World) : List V → Hp → VK → Prop := fun vs H Q => ∃ (l : Addr) (ns : List Int), vs = [.ref l] ∧ SqL K H l (ns.map V.int) ∧ ns.length ≤ 4000 ∧
  ∀ (p : Addr) (ks : List Int), H p = none → ks.Nodup → (∀ k, k ∈ ks ↔ k ∈ ns) → Q (.ref p) (upd H p (SetO w p (fun j => decide (j ∈ ns)) ks.length))
theorem cr_setL (calm : X.calm = true) : CallR X (.type "set") (rSetL X.K X.w) := by
  intro pins s σ H vs us Q I r h
  obtain ⟨l, ns, rfl, sq, few, q⟩ := h
  rw [Vals.ref1 r]
  obtain ⟨its, rv, pl, _⟩ := I.list sq
  have got : s.heap.IsList l its.toArray := pl.isList
  obtain ⟨ol, here, _⟩ := id got
  have ne : s.heap.objs.size ≠ l := (Nat.ne_of_lt (Heap.lt_size here)).symm
  refine set_made (set_filled (items := its.toArray) (ns := ns) (by simpa using I.ok.hd calm) (Heap.get?_push_size _ rfl) (got.push _) (by simpa using rv.ints) (by unfold scanBound; omega) ne fun z n moved _ made => ⟨rfl, ?_⟩)
  obtain ⟨o, es, ep, t, e1, e2, e3, good, nd, mem, b1, b2, num, e4⟩ := id made
  have back : z = { s with heap := z.heap, toks := z.toks } := by
    have g := moved.gens
    have d := moved.drawn
    have u := moved.os
    cases z
    simp only at g d u
    rw [g, d, u]
  have old : ∀ b o, s.heap.get? b = some o → z.heap.get? b = some o := fun b o e => moved.heap b o (by
    have := Heap.lt_size e
    simp only [List.mem_cons, List.not_mem_nil, or_false, not_or]
    exact ⟨Nat.ne_of_lt this, Nat.ne_of_lt (by rw [Heap.size_push]; exact Nat.lt_succ_of_lt this)⟩) (Heap.get?_push_of_some _ e)
  have J := I.laid (t' := z.toks) old (Nat.le_refl _) (setO_new made)
  rw [back]
  refine ⟨.ref _, _, J, rfl, ?_⟩
  have fin := q s.heap.objs.size (es.toList.map keyOf) (I.hok.fresh (Nat.le_refl _)) nd fun k => by rw [← mem k]; exact decide_eq_true_iff
  rw [List.length_map, Array.length_toList, num] at fin
  exact fin
end
section
variable {X : Cx}
def tSrt (K : PySem.W.Frag) (w : World) (te : TE) : TE := tCB (rSortedSet w) (tCons (tCB (rSetL K w) (tCons te tNil)) tNil)
theorem srtK {K : PySem.W.Frag} {w : World} {e : Expr} {te : TE} {p1 p2 p3 p4 : Pos} (g1 : Gl X "sorted") (m1 : X.mg "sorted" = none) (g2 : Gl X "set") (m2 : X.mg "set" = none) (he : PE X e te) (calm : X.calm = true := by rfl) (h : X.K = K := by rfl) (hw : X.w = w := by rfl)
    (st : starEach [e] X.env = (false, eval e X.env) :: starEach [] X.env := by rfl) : PE X (.Call (.Name "sorted" p1) [.Call (.Name "set" p2) [e] [] p3] [] p4) (tSrt K w te) := by
  subst h hw
  exact pe_callB (cr_sortedSet calm) g1 m1 (by decide +kernel) (pa_cons (pe_callTy (cr_setL calm) g2 m2 (by decide +kernel) (pa_cons he pa_nil st) (he := st)) pa_nil)
end
section
variable {c : Cn}
theorem stp_junk {t p : Addr} {H0 G0 H G : Hp} {μ : Mu} {n : Nat} {o : HO} (s : S c t H0 G0 H G μ n) (hp : H p = none) : Stp c t H G (upd H p o) G n :=
  ⟨Same.refl _, fun b u e => same_new hp _ _ (s.gh _ _ e), s.gt, s.pen.keep (same_new hp _) (Same.refl _) (tabs_new hp) (fun z => z), fun b u hb _ e => same_new hp _ _ e, fun b _ _ _ e => e⟩
def wSrt (we : WE) : WE := fun ds μ n Q => we ds μ n fun d μ1 n1 => ∃ (ns : List Int) (B : Nat), seqOf μ1 d = some (ns.map D.int) ∧ (∀ xs, d ≠ .tup xs) ∧ ns.length ≤ 4000 ∧ (∀ k ∈ ns, 0 ≤ k ∧ k < B) ∧ B < 64 ∧
  ∀ out : List Int, out.Pairwise (· < ·) → (∀ k, k ∈ out ↔ k ∈ ns) → Q (.lst (out.map D.int)) μ1 n1
theorem snd_srt {w : World} {te : TE} {we : WE} (h : Snd c te we) : Snd c (tSrt c.K w te) (wSrt we) := fun t H0 G0 H G σ ds μ n Q Qd r s wd k =>
  h t H0 G0 H G σ ds μ n _ _ r s wd fun v H1 G1 d μ1 n1 s1 g1 rv ⟨ns, B, sq, nt, few, below, small, q⟩ => by
    obtain ⟨a, rfl, la⟩ := list_at s1 rv nt sq
    refine ⟨a, ns, rfl, la, few, fun p ks hp nd mem => ?_⟩
    have le := few_ints B ks nd fun z hz => below z ((mem z).1 hz)
    have j1 := stp_junk (o := SetO w p (fun j => decide (j ∈ ns)) ks.length) s1 hp
    refine ⟨p, _, _, rfl, upd_same, by omega, fun out p2 up mo lo hp2 => ?_⟩
    have s2 := s1.step j1
    have j2 := s2.new (o := .lst (out.map V.int)) hp2
    exact k _ _ _ _ _ _ (s2.step j2) (Same.trans g1 (Same.trans j1.g j2.g)) (Rp.lstNew upd_same (rpl_ints.mpr rfl)) (q out up fun z => (mo z).trans decide_eq_true_iff)
end
end Dp

set_option Elab.async false
set_option linter.all false
set_option maxRecDepth 100000
set_option maxHeartbeats 4000001
/-! a comprehension that changes owned lists; pop, extend; list(range(m)) that is owned -/
namespace Dp
open PySem PySem.Spec PyProof.Rows L2
section
variable {c : Cn}
def wLcM (wi : WI) (g : WG) (wt : WT) (we : WE) (vs : List Nat) : WE := fun ds μ n Q => wi ds μ n fun items μ1 n1 => items.length < 100000 ∧ ∀ p, (∀ e ∈ μ1, e.1 ≠ p) → ∃ Iv : Nat → List D → Mu → Nat → Prop, Iv 0 [] μ1 n1 ∧
  (∀ i d acc μ' n, items[i]? = some d → Iv i acc μ' n → (∀ e ∈ μ', e.1 ≠ p) → g d (wipeE ds vs) fun ds2 => wt ds2 ((p, acc) :: μ') n fun b μ2 n2 => μ2 = (p, acc) :: μ' ∧ if b = true then we ds2 μ2 n2 fun y μ3 n3 => ∃ μ4, μ3 = (p, acc) :: μ4 ∧ (∀ e ∈ μ4, e.1 ≠ p) ∧ Iv (i + 1) (acc ++ [y]) μ4 n3 else Iv (i + 1) acc μ' n2) ∧
  ∀ acc μ' n, Iv items.length acc μ' n → Q (.lst acc) μ' n
theorem snd_lcM {wi : TI} {g : TG} {tt : TT} {te : TE} {vs : List Nat} {Wi : WI} {wg : WG} {wt : WT} {we : WE} (hi : SndI c wi Wi) (hg : SndG c g wg) (ok : okT g vs) (ht : SndT c tt wt) (he : Snd c te we) : Snd c (tLc wi g tt te vs) (wLcM Wi wg wt we vs) := fun t H0 G0 H G σ ds μ n Q Qd r s w k =>
  hi t H0 G0 H G σ ds μ n _ _ r s w fun J H1 G1 items μ1 n1 s1 g1 wk ⟨hlen, w⟩ => fun Dl hD => by
    have hf := s1.fresh_own hD
    obtain ⟨Iv, i0, step, fin⟩ := w Dl hf
    have s2 := s1.newOwn (vs := []) (xs := []) hD RpL.nil
    refine ⟨fun i m H' => ∃ G' acc μ' n', m = items.length - i ∧ i ≤ items.length ∧ acc.length ≤ i ∧ S c t H0 G0 H' G' ((Dl, acc) :: μ') n' ∧ Same G1 G' ∧ (∀ e ∈ μ', e.1 ≠ Dl) ∧ Iv i acc μ' n', ⟨_, G1, [], μ1, n1, rfl, Nat.zero_le _, Nat.zero_le _, s2, Same.refl _, hf, i0⟩, ?_⟩
    rintro i m H' ⟨G', acc, μ', n', rfl, hle, hacc, s', g', hf', iv⟩
    by_cases hlt : i < items.length
    · obtain ⟨hgo, hy⟩ := wk.step H0 G0 H' G' _ n' i s' g' hlt
      refine .inr ⟨hgo, fun H2 => ∃ G2 acc2 μ2 n2, acc2.length ≤ i + 1 ∧ S c t H0 G0 H2 G2 ((Dl, acc2) :: μ2) n2 ∧ Same G1 G2 ∧ (∀ e ∈ μ2, e.1 ≠ Dl) ∧ Iv (i + 1) acc2 μ2 n2, fun H2 ⟨G2, acc2, μ2, n2, a2, s2, g2, f2, iv2⟩ => ⟨items.length - (i + 1), by omega, G2, acc2, μ2, n2, rfl, by omega, a2, s2, g2, f2, iv2⟩, fun x H3 y => ?_⟩
      obtain ⟨d, G3, hd, s3, g3, r3⟩ := hy x H3 y
      have g13 : Same G1 G3 := Same.trans g' g3
      refine ok x σ H3 _ ?_
      refine hg t H3 G3 (wipe σ vs) (wipeE ds vs) x d _ _ (((r.mono g1).mono g13).wipe vs) s3.gh r3 (step i d acc μ' n' hd iv hf') fun σ4 ds4 r4 w4 => ?_
      refine ht t H0 G0 H3 G3 σ4 ds4 _ n' _ _ r4 s3 w4 fun b H5 G5 μ5 n5 s5 g5 w5 => ?_
      obtain ⟨e5, w5⟩ := w5
      subst e5
      cases b with
      | false => exact iteF ⟨G5, acc, μ', n5, by omega, s5, Same.trans g13 g5, hf', by simpa using w5⟩
      | true =>
        refine iteT ?_
        rw [if_pos rfl] at w5
        refine he t H0 G0 H5 G5 σ4 ds4 _ n5 _ _ (r4.mono g5) s5 w5 fun z H6 G6 dz μ6 n6 s6 g6 rz ⟨μ4, e6, hf6, iv6⟩ => ?_
        subst e6
        obtain ⟨us, h1, h2⟩ := lookup_of_own (p := Dl) (xs := acc) s6 (by rw [List.lookup_cons, beq_self_eq_true])
        refine ⟨us, h1, by rw [RpL.len h2]; exact sz_lt (by omega), G6, acc ++ [dz], μ4, n6, (by simp; omega), ?_, Same.trans g13 (Same.trans g5 g6), hf6, iv6⟩
        have := s6.setOwn (ys := acc ++ [dz]) List.mem_cons_self (RpL.append h2 (RpL.one rz))
        rw [muSet_head hf6] at this
        exact this
    · have e : i = items.length := by omega
      subst e
      obtain ⟨G6, s6, g6, r6⟩ := s'.unown hf'
      exact .inl ⟨wk.stop H0 G0 H' G' _ n' _ s' g' (Nat.le_refl _), k _ _ _ _ _ _ s6 (Same.trans g1 (Same.trans g' g6)) r6 (fin acc μ' n' iv)⟩
theorem lcM_j {wi : WI} {g : WG} {wt : WT} {we : WE} {vs : List Nat} {ds : Env} {μ μ1 : Mu} {n n1 : Nat} {Q : KD} {items : List D} (Iv : Nat → List D → Mu → Nat → Prop) (hi : ∀ k, k items μ1 n1 → wi ds μ n k) (hl : items.length < 100000) (h0 : Iv 0 [] μ1 n1)
    (step : ∀ i d p acc μ' n (J : List D → Mu → Nat → Prop), items[i]? = some d → i < items.length → (∀ e ∈ μ', e.1 ≠ p) → Iv i acc μ' n → (∀ acc μ4 n, Iv (i + 1) acc μ4 n → J acc μ4 n) → g d (wipeE ds vs) fun ds2 => wt ds2 ((p, acc) :: μ') n fun b μ2 n2 => μ2 = (p, acc) :: μ' ∧ if b = true then we ds2 μ2 n2 fun y μ3 n3 => ∃ μ4, μ3 = (p, acc) :: μ4 ∧ (∀ e ∈ μ4, e.1 ≠ p) ∧ J (acc ++ [y]) μ4 n3 else J acc μ' n2)
    (q : ∀ acc μ' n, Iv items.length acc μ' n → Q (.lst acc) μ' n) : wLcM wi g wt we vs ds μ n Q :=
  hi _ ⟨hl, fun p hp => ⟨Iv, h0, fun i d acc μ' n hd iv hf => step i d p acc μ' n _ hd (by
    rcases Nat.lt_or_ge i items.length with h' | h'
    · exact h'
    · rw [List.getElem?_eq_none h'] at hd; cases hd) hf iv fun _ _ _ h => h, q⟩⟩
theorem RpL.drop1 {t : Addr} {G : Hp} {ds : List D} {vs : List V} (i : Nat) (h : RpL c t G ds vs) : RpL c t G (ds.eraseIdx i) (vs.eraseIdx i) := by
  rw [List.eraseIdx_eq_take_drop_succ, List.eraseIdx_eq_take_drop_succ]
  exact RpL.append (RpL.take i h) (RpL.drop (i + 1) h)
/-- xs.pop(i) of an owned list, i from 0 on -/
def wPop (wo we : WE) : WE := fun ds μ n Q => wo ds μ n fun o μ1 n1 => ∃ p ys, o = .own p ∧ μ1.lookup p = some ys ∧ we ds μ1 n1 fun d μ2 n2 => ∃ (xs : List D) (i : Nat) (y : D), d = .int i ∧ μ2.lookup p = some xs ∧ xs.length < 100000 ∧ xs[i]? = some y ∧ Q y (muSet μ2 p (xs.eraseIdx i)) n2
theorem snd_popO {to te : TE} {wo we : WE} (ho : Snd c to wo) (h : Snd c te we) : Snd c (tBM c.K "list" rPopAt to (tCons te tNil)) (wPop wo we) := fun t H0 G0 H G σ ds μ n Q Qd r s w k =>
  ho t H0 G0 H G σ ds μ n _ _ r s w fun o H1 G1 od μ1 n1 s1 g1 ro ⟨p, ys, ep, ey, w1⟩ => by
    subst ep
    simp only [Rp] at ro
    subst ro
    obtain ⟨us, h1, _⟩ := lookup_of_own s1 ey
    refine ⟨.inl ⟨rfl, us, SqL.of h1⟩, h t H0 G0 H1 G1 σ ds μ1 n1 _ _ (r.mono g1) s1 w1 fun v H2 G2 d μ2 n2 s2 g2 rv ⟨xs, i, y, ed, e, hl, hy, q⟩ => ?_⟩
    subst ed
    simp only [Rp] at rv
    subst rv
    obtain ⟨vs, h1, h2⟩ := lookup_of_own s2 e
    obtain ⟨u, hu, ru⟩ := RpL.get h2 hy
    have lt : i < xs.length := (List.getElem?_eq_some_iff.mp hy).1
    have le := RpL.len h2
    refine ⟨p, vs, (i : Int), i, u, rfl, rfl, h1, by omega, by omega, ?_, hu, ?_⟩
    · have nn : ¬ (i : Int) < 0 := by omega
      have lt2 : (i : Int) < (vs.length : Int) := by omega
      simp [seqIndex?, nn, lt2]
    · exact k _ _ _ _ _ _ (s2.setOwn (lookup_mem e) (RpL.drop1 i h2)) (Same.trans g1 g2) ru q
/-- xs.extend(ys) of an owned list -/
def wExt (wo we : WE) : DEnds → Env → Mu → Nat → Prop := fun E ds μ n => wo ds μ n fun o μ1 n1 => ∃ p ys, o = .own p ∧ μ1.lookup p = some ys ∧ we ds μ1 n1 fun d μ2 n2 => ∃ xs zs, d = .lst zs ∧ μ2.lookup p = some xs ∧ xs.length + zs.length < 100000 ∧ E.nx ds (muSet μ2 p (xs ++ zs)) n2
theorem sndS_ext {to te : TE} {wo we : WE} (ho : Snd c to wo) (h : Snd c te we) : SndS c (tDrop (tBM c.K "list" rExtend to (tCons te tNil))) (wExt wo we) := fun t H0 G0 H G σ ds μ n De E r s k1 k2 k3 k4 w =>
  ho t H0 G0 H G σ ds μ n (fun x H1 => tyV c.K "list" x H1 ∧ tCons te tNil σ H1 fun xs H2 => rExtend x xs H2 fun _ H3 => E.nx σ H3) _ r s w fun o H1 G1 od μ1 n1 s1 g1 ro ⟨p, ys, ep, ey, w1⟩ => by
    subst ep
    simp only [Rp] at ro
    subst ro
    obtain ⟨us, h1, _⟩ := lookup_of_own s1 ey
    refine ⟨.inl ⟨rfl, us, SqL.of h1⟩, h t H0 G0 H1 G1 σ ds μ1 n1 _ _ (r.mono g1) s1 w1 fun v H2 G2 d μ2 n2 s2 g2 rv ⟨xs, zs, ez, e, hl, q⟩ => ?_⟩
    subst ez
    simp only [Rp] at rv
    obtain ⟨b, ws, rfl, hb, rb⟩ := rv
    obtain ⟨vs, h1, h2⟩ := lookup_of_own s2 e
    refine ⟨p, b, vs, ws, rfl, rfl, h1, s2.gh _ _ hb, by rw [RpL.len h2, RpL.len rb]; exact Nat.le_of_lt (sz_lt hl), ?_⟩
    exact k1 σ _ G2 ds _ n2 ((r.mono g1).mono g2) (s2.setOwn (lookup_mem e) (RpL.append h2 rb)) q
/-- list(range(m)), owned -/
def wLRg (wa : WE) : WE := fun ds μ n Q => wa ds μ n fun d μ1 n1 => ∃ m : Nat, d = .int m ∧ m ≤ 100000 ∧ ∀ p, (∀ e ∈ μ1, e.1 ≠ p) → Q (.own p) ((p, (List.range m).map fun i => .int (i : Nat)) :: μ1) n1
theorem snd_lrgO {ta : TE} {wa : WE} (h : Snd c ta wa) : Snd c (tLstRg (tRg1 ta)) (wLRg wa) := fun t H0 G0 H G σ ds μ n Q Qd r s w k =>
  h t H0 G0 H G σ ds μ n _ _ r s w fun v H1 G1 d μ1 n1 s1 g1 rv ⟨m, ed, few, q⟩ => by
    subst ed
    simp only [Rp] at rv
    subst rv
    refine ⟨(m : Int), rfl, RgOk.of_le (by omega) (by omega) (by omega) (by omega), fun p hp => ?_⟩
    refine kt_own (k.mono g1) s1 ?_ hp q
    have e : rgV 0 (m : Int) = ((List.range m).map fun i => ((i : Nat) : Int)).map V.int := by
      unfold rgV
      rw [List.map_map, show ((m : Int) - 0).toNat = m by omega]
      exact List.map_congr_left fun i _ => by rw [Int.zero_add]; rfl
    rw [e, show ((List.range m).map fun i => D.int (i : Nat)) = ((List.range m).map fun i => ((i : Nat) : Int)).map D.int by rw [List.map_map]; rfl]
    exact rpl_ints.mpr rfl
end
theorem kCast {X : Cx} {K : PySem.W.Frag} {e : Expr} {T : String} {r : V → List V → Hp → VK → Prop} {to : TE} {t : TA} (p : PE X e (tBM X.K T r to t)) (h : X.K = K := by rfl) : PE X e (tBM K T r to t) := h ▸ p
end Dp

set_option Elab.async false
set_option linter.all false
set_option maxRecDepth 100000
set_option maxHeartbeats 4000001

namespace K14
open PySem PySem.Spec PyProof.Rows L2 Dp
def top (i : Nat) : Stmt := PySem.Challenge.pw_spanalike_k14_cross_spans.main.body.getD i (.Pass ⟨0, 0, 0, 0⟩)
abbrev s_is_integer : Stmt := top 16
theorem sc_is_integer : FnScope ["value"] ["value"] (defScope s_is_integer) := ⟨rfl, rfl, rfl, by decide +kernel, rfl, by decide +kernel, by decide +kernel⟩
abbrev s_is_within : Stmt := top 17
theorem sc_is_within : FnScope ["value", "least", "most"] ["value", "least", "most"] (defScope s_is_within) := ⟨rfl, rfl, rfl, by decide +kernel, rfl, by decide +kernel, by decide +kernel⟩
abbrev s_is_listed : Stmt := top 18
theorem sc_is_listed : FnScope ["value"] ["value"] (defScope s_is_listed) := ⟨rfl, rfl, rfl, by decide +kernel, rfl, by decide +kernel, by decide +kernel⟩
abbrev s_are_integers : Stmt := top 19
theorem sc_are_integers : FnScope ["value", "item"] ["value"] (defScope s_are_integers) := ⟨rfl, rfl, rfl, by decide +kernel, rfl, by decide +kernel, by decide +kernel⟩
abbrev s_need_row : Stmt := top 28
theorem sc_need_row : FnScope ["value", "part"] ["value", "part"] (defScope s_need_row) := ⟨rfl, rfl, rfl, by decide +kernel, rfl, by decide +kernel, by decide +kernel⟩
abbrev s_need_same_beats : Stmt := top 29
theorem sc_need_same_beats : FnScope ["one", "other"] ["one", "other"] (defScope s_need_same_beats) := ⟨rfl, rfl, rfl, by decide +kernel, rfl, by decide +kernel, by decide +kernel⟩
abbrev s_need_rows : Stmt := top 30
theorem sc_need_rows : FnScope ["one", "other"] ["one", "other"] (defScope s_need_rows) := ⟨rfl, rfl, rfl, by decide +kernel, rfl, by decide +kernel, by decide +kernel⟩
abbrev s_ring_product : Stmt := top 31
theorem sc_ring_product : FnScope ["one", "other", "many", "numbers", "beat", "number", "behind"] ["one", "other"] (defScope s_ring_product) := ⟨rfl, rfl, rfl, by decide +kernel, rfl, by decide +kernel, by decide +kernel⟩
abbrev s_Row___init__ : Stmt := inClass (top 32) 0
theorem sc_Row___init__ : FnScope ["self", "numbers", "beat", "number"] ["self", "numbers"] (defScope s_Row___init__) := ⟨rfl, rfl, rfl, by decide +kernel, rfl, by decide +kernel, by decide +kernel⟩
abbrev s_Row___eq__ : Stmt := inClass (top 32) 2
theorem sc_Row___eq__ : FnScope ["self", "other"] ["self", "other"] (defScope s_Row___eq__) := ⟨rfl, rfl, rfl, by decide +kernel, rfl, by decide +kernel, by decide +kernel⟩
abbrev s_Row_turned : Stmt := inClass (top 32) 5
theorem sc_Row_turned : FnScope ["self", "by", "start"] ["self", "by"] (defScope s_Row_turned) := ⟨rfl, rfl, rfl, by decide +kernel, rfl, by decide +kernel, by decide +kernel⟩
abbrev s_Row_mirrored : Stmt := inClass (top 32) 6
theorem sc_Row_mirrored : FnScope ["self"] ["self"] (defScope s_Row_mirrored) := ⟨rfl, rfl, rfl, by decide +kernel, rfl, by decide +kernel, by decide +kernel⟩
abbrev s_Row_stretched : Stmt := inClass (top 32) 7
theorem sc_Row_stretched : FnScope ["self", "by", "numbers", "beat", "number"] ["self", "by"] (defScope s_Row_stretched) := ⟨rfl, rfl, rfl, by decide +kernel, rfl, by decide +kernel, by decide +kernel⟩
abbrev s_Row_left_out : Stmt := inClass (top 32) 8
theorem sc_Row_left_out : FnScope ["self", "number"] ["self"] (defScope s_Row_left_out) := ⟨rfl, rfl, rfl, by decide +kernel, rfl, by decide +kernel, by decide +kernel⟩
abbrev s_Row_times : Stmt := inClass (top 32) 9
theorem sc_Row_times : FnScope ["self", "number", "mine"] ["self", "number"] (defScope s_Row_times) := ⟨rfl, rfl, rfl, by decide +kernel, rfl, by decide +kernel, by decide +kernel⟩
abbrev s_Row_added : Stmt := inClass (top 32) 10
theorem sc_Row_added : FnScope ["self", "other", "mine", "its"] ["self", "other"] (defScope s_Row_added) := ⟨rfl, rfl, rfl, by decide +kernel, rfl, by decide +kernel, by decide +kernel⟩
abbrev s_Row_product : Stmt := inClass (top 32) 11
theorem sc_Row_product : FnScope ["self", "other"] ["self", "other"] (defScope s_Row_product) := ⟨rfl, rfl, rfl, by decide +kernel, rfl, by decide +kernel, by decide +kernel⟩
abbrev s_cross_spans : Stmt := top 34
theorem sc_cross_spans : FnScope ["one", "other"] ["one", "other"] (defScope s_cross_spans) := ⟨rfl, rfl, rfl, by decide +kernel, rfl, by decide +kernel, by decide +kernel⟩
abbrev s_spans : Stmt := top 35
theorem sc_spans : FnScope ["row"] ["row"] (defScope s_spans) := ⟨rfl, rfl, rfl, by decide +kernel, rfl, by decide +kernel, by decide +kernel⟩
structure Tb (c : Cb) (mg : Str → Option Value) : Prop where
  row : RowT c
  b_len : mg "len" = none
  b_isinstance : mg "isinstance" = none
  b_int : mg "int" = none
  b_bool : mg "bool" = none
  b_list : mg "list" = none
  b_tuple : mg "tuple" = none
  b_all : mg "all" = none
  b_sum : mg "sum" = none
  b_abs : mg "abs" = none
  b_range : mg "range" = none
  b_enumerate : mg "enumerate" = none
  b_zip : mg "zip" = none
  b_max : mg "max" = none
  b_type : mg "type" = none
  b_str : mg "str" = none
  b_ValueError : mg "ValueError" = none
  b_gcd : mg "gcd" = some (.builtin "math.gcd")
/-- what is told of the classes of errors -/
structure Ex (c : Cb) (mg : Str → Option Value) : Prop where
  g_BeatError : mg "BeatError" = some (.ref (He.ga c.K "BeatError"))
  g_BadRow : mg "BadRow" = some (.ref (He.ga c.K "BadRow"))
  g_BadNumber : mg "BadNumber" = some (.ref (He.ga c.K "BadNumber"))
  g_Misfit : mg "Misfit" = some (.ref (He.ga c.K "Misfit"))
  g_NoDivisor : mg "NoDivisor" = some (.ref (He.ga c.K "NoDivisor"))
  g_TooMany : mg "TooMany" = some (.ref (He.ga c.K "TooMany"))
  er_BadRow : ErC c.K (He.ga c.K "BadRow")
  no_BadRow : PySem.W.findIn c.K (.ref (He.ga c.K "BadRow")) "part" = some none
  be_BadRow : PySem.W.exmOne c.K (.ref (He.ga c.K "BadRow")) (.ref (He.ga c.K "BeatError")) = some true
  er_BadNumber : ErC c.K (He.ga c.K "BadNumber")
  no_BadNumber : PySem.W.findIn c.K (.ref (He.ga c.K "BadNumber")) "part" = some none
  be_BadNumber : PySem.W.exmOne c.K (.ref (He.ga c.K "BadNumber")) (.ref (He.ga c.K "BeatError")) = some true
  er_Misfit : ErC c.K (He.ga c.K "Misfit")
  no_Misfit : PySem.W.findIn c.K (.ref (He.ga c.K "Misfit")) "part" = some none
  be_Misfit : PySem.W.exmOne c.K (.ref (He.ga c.K "Misfit")) (.ref (He.ga c.K "BeatError")) = some true
  k_BadRow_BadRow : PySem.W.kitOne c.K (.ref (He.ga c.K "BadRow")) (.ref (He.ga c.K "BadRow")) = some true
  k_BadRow_BadNumber : PySem.W.kitOne c.K (.ref (He.ga c.K "BadRow")) (.ref (He.ga c.K "BadNumber")) = some false
  k_BadRow_Misfit : PySem.W.kitOne c.K (.ref (He.ga c.K "BadRow")) (.ref (He.ga c.K "Misfit")) = some false
  k_BadRow_NoDivisor : PySem.W.kitOne c.K (.ref (He.ga c.K "BadRow")) (.ref (He.ga c.K "NoDivisor")) = some false
  k_BadRow_TooMany : PySem.W.kitOne c.K (.ref (He.ga c.K "BadRow")) (.ref (He.ga c.K "TooMany")) = some false
  k_BadNumber_BadRow : PySem.W.kitOne c.K (.ref (He.ga c.K "BadNumber")) (.ref (He.ga c.K "BadRow")) = some false
  k_BadNumber_BadNumber : PySem.W.kitOne c.K (.ref (He.ga c.K "BadNumber")) (.ref (He.ga c.K "BadNumber")) = some true
  k_BadNumber_Misfit : PySem.W.kitOne c.K (.ref (He.ga c.K "BadNumber")) (.ref (He.ga c.K "Misfit")) = some false
  k_BadNumber_NoDivisor : PySem.W.kitOne c.K (.ref (He.ga c.K "BadNumber")) (.ref (He.ga c.K "NoDivisor")) = some false
  k_BadNumber_TooMany : PySem.W.kitOne c.K (.ref (He.ga c.K "BadNumber")) (.ref (He.ga c.K "TooMany")) = some false
  k_Misfit_BadRow : PySem.W.kitOne c.K (.ref (He.ga c.K "Misfit")) (.ref (He.ga c.K "BadRow")) = some false
  k_Misfit_BadNumber : PySem.W.kitOne c.K (.ref (He.ga c.K "Misfit")) (.ref (He.ga c.K "BadNumber")) = some false
  k_Misfit_Misfit : PySem.W.kitOne c.K (.ref (He.ga c.K "Misfit")) (.ref (He.ga c.K "Misfit")) = some true
  k_Misfit_NoDivisor : PySem.W.kitOne c.K (.ref (He.ga c.K "Misfit")) (.ref (He.ga c.K "NoDivisor")) = some false
  k_Misfit_TooMany : PySem.W.kitOne c.K (.ref (He.ga c.K "Misfit")) (.ref (He.ga c.K "TooMany")) = some false
  kn_BadRow : PySem.W.kitOne c.K (.type "NoneType") (.ref (He.ga c.K "BadRow")) = some false
  kn_BadNumber : PySem.W.kitOne c.K (.type "NoneType") (.ref (He.ga c.K "BadNumber")) = some false
  kn_Misfit : PySem.W.kitOne c.K (.type "NoneType") (.ref (He.ga c.K "Misfit")) = some false
  kn_NoDivisor : PySem.W.kitOne c.K (.type "NoneType") (.ref (He.ga c.K "NoDivisor")) = some false
  kn_TooMany : PySem.W.kitOne c.K (.type "NoneType") (.ref (He.ga c.K "TooMany")) = some false
  kr_NoneType : PySem.W.kitOne c.K (.type "NoneType") (.ref c.R) = some false
  kr_int : PySem.W.kitOne c.K (.type "int") (.ref c.R) = some false
  kr_bool : PySem.W.kitOne c.K (.type "bool") (.ref c.R) = some false
  kr_str : PySem.W.kitOne c.K (.type "str") (.ref c.R) = some false
  kr_list : PySem.W.kitOne c.K (.type "list") (.ref c.R) = some false
  kr_tuple : PySem.W.kitOne c.K (.type "tuple") (.ref c.R) = some false
  kr_dict : PySem.W.kitOne c.K (.type "dict") (.ref c.R) = some false
section
variable {P : Program} {w : World} {mg : Str → Option Value} {base : Heap} {c : Cb} {f : Addr} {fd : FuncData}
def F_is_integer : FD
  | [.int _], n, Q => Q (.bl true) n
  | _, _, _ => False
theorem l_is_integer : ∀ ds n Q, F_is_integer ds n Q → ds.length = 1 := by intro ds n Q h; unfold F_is_integer at h; split at h <;> first | rfl | exact h.elim
theorem ok_is_integer (Fn : FunD c.K "is_integer" "is_integer" (defArgs s_is_integer) (defBody s_is_integer) (defScope s_is_integer) [] [] f fd) (T : Tb c mg) : FnOk P w c.K mg base CX0 2 f fd ["value"] (spD c 1 F_is_integer) := by
  refine fn_d Fn sc_is_integer (fun cdv A outer s H E hr => ⟨_, (pss_one (ps_ret (pe_and (pe_callB (isiK (K := c.K)) (by rfl) T.b_isinstance (by decide +kernel) (pa_cons (pv 0) (pa_cons (pe_bltn (v := .ty "int") (u := .type "int") (by rfl) T.b_int (by decide +kernel) rfl) pa_nil))) (pe_one (pe_not (pe_callB (isiK (K := c.K)) (by rfl) T.b_isinstance (by decide +kernel) (pa_cons (pv 0) (pa_cons (pe_bltn (v := .ty "bool") (u := .type "bool") (by rfl) T.b_bool (by decide +kernel) rfl) pa_nil)))))))), _, (sndS_ret (snd_andV (snd_cb (sndC_isi T.row) (sndA_cons snd_var (sndA_cons snd_ty sndA_nil))) (snd_notV (snd_cb (sndC_isi T.row) (sndA_cons snd_var (sndA_cons snd_ty sndA_nil)))))), fun ds n Q h hl => ?_⟩)
  unfold F_is_integer at h
  split at h
  · simp only [wSeq, wNext, wRet, wRetN, wNever, wDrop, wIfS, wAsg, gwName, dv_gtup, dv_gunl, dv_gcons, dv_gnil, wPar, wPar3, wAug, wSetO, wAugO, wApp, wVar, wC, wOp, wUn, asBl, wAnd, wOr, wNot, wAndV, wOrV, wNotV, wIf, wNil, wCons, wTup, wLst, wLstO, wCB, wCall, wCallK1, wMeth, wRel, wMk, wPen0, wPen1, wPen2, wPenS1, wPenS2, wSMeth, dv_make, wRowF, wSl, woNo, woSome, wChain, wYes, wIsi2,
    dv_add_int, dv_add_lst, dv_add_tup, dv_mul_int, dv_mul_lst, dv_mul_tup, rdMulO, dv_i0, dv_i2, rdNeg, rdSl, dv_int_int, dv_int_bl, dv_abs, dv_ne0_lst0, dv_eq0_lst0, rdList, rdListO, rdIsi, dv_eq_row, dv_ne_row, dv_eq_tup, dv_ne_tup, dv_ne_tup0, dv_eq_lst, dv_ne_lst, dv_eq_int, dv_ne_int, dv_eq0_tup, dv_eq0_int, dv_ne0_int, dv_ne0_tup, dv_mk_lst, dv_mk_tup, dv_sum_lst, dv_sum_tup, dv_tuple_lst, dv_tuple_tup, dv_len_lst, dv_len_tup, dv_all, frzL_ints,  rdIs, rdIsNot, Dp.isNon, seqOf, seqI, frz, startD, kg, isiD_non, isiD_bl, isiD_int, isiD_str, isiD_lst, isiD_tup, isiD2_non, isiD2_bl, isiD2_int, isiD2_str, isiD2_lst, isiD2_tup, kb_non_int, kb_bl_int, kb_int_int, kb_str_int, kb_lst_int, kb_tup_int, kb_non_bool, kb_bl_bool, kb_int_bool, kb_str_str, kb_int_str, kb2_non, kb2_bl, kb2_int, kb2_str, kb2_lst, kb2_tup, isi_row_int, isi_row_list, isi_row_tuple, isi_row_str, isi2_row,
    List.map_cons, List.map_nil, List.length_cons, List.length_nil, List.getElem?_cons_zero, List.getElem?_cons_succ, List.set_cons_zero, List.set_cons_succ, List.replicate_succ, List.replicate_zero, List.cons_append, List.nil_append, List.append_nil, Nat.zero_add, Nat.reduceAdd, Nat.reduceSub, List.tail_cons, wipeE, wiRng1, wiRng2, wiSeq, wiEnum, wiZip,
    exists_eq_left, exists_eq_left', exists_eq_right, exists_eq_right', Option.some.injEq, D.int.injEq, D.bl.injEq, D.str.injEq, D.lst.injEq, D.tup.injEq, D.row.injEq, D.own.injEq, D.adr.injEq, D.ty.injEq, reduceCtorEq, List.cons.injEq, true_and, and_true, false_and, and_false, or_false, false_or, exists_false, if_true, if_false, Bool.not_true, Bool.not_false, Bool.false_eq_true, and_self, true_or, or_true, exists_and_left, exists_and_right, ite_true, ite_false, exists_const, exists_eq, exists_eq', decide_true, decide_false, Bool.not_true, Bool.not_false]
    exact h
  · exact h.elim
def F_is_within : FD
  | [.int v, .int a, .int b], n, Q => Q (.bl (decide (a ≤ v) && decide (v ≤ b))) n
  | _, _, _ => False
theorem l_is_within : ∀ ds n Q, F_is_within ds n Q → ds.length = 3 := by intro ds n Q h; unfold F_is_within at h; split at h <;> first | rfl | exact h.elim
theorem ok_is_within (Fn : FunD c.K "is_within" "is_within" (defArgs s_is_within) (defBody s_is_within) (defScope s_is_within) [] [] f fd) (T : Tb c mg) (d_is_integer : Dn P w c.K mg base "is_integer" 2 ["value"] (spD c 1 F_is_integer)) : FnOk P w c.K mg base CX0 3 f fd ["value", "least", "most"] (spD c 3 F_is_within) := by
  refine fn_d Fn sc_is_within (fun cdv A outer s H E hr => ⟨_, (pss_cons (ps_if (pt_not (pt_val (pe_d d_is_integer hr (by rfl) (pa_cons (pv 0) pa_nil)))) (pss_one (ps_ret pe_bl)) pss_nil)
 (pss_cons (ps_if (PW.pt (pw_and (pt_cmpR opNot (pv 1) pe_non (nomark _)) (pw_and1 (pt_cmpR opLt (pv 0) (pv 1) (nomark _))))) (pss_one (ps_ret pe_bl)) pss_nil)
 (pss_one (ps_ret (pe_or (pe_cmpR opIs (pv 2) pe_non (nomark _)) (pe_one (pe_cmpR opLe (pv 0) (pv 2) (nomark _)))))))), _, (sndS_seq (sndS_if (sndT_not (sndT_B (snd_call l_is_integer (sndA_cons snd_var sndA_nil)))) (sndS_ret snd_bl) sndS_next)
 (sndS_seq (sndS_if (sndT_and (sndT_test (snd_op sndR_isNot snd_var snd_non)) (sndT_test (snd_op sndR_lt snd_var snd_var))) (sndS_ret snd_bl) sndS_next)
 (sndS_ret (snd_orV (snd_op sndR_is snd_var snd_non) (snd_op sndR_le snd_var snd_var))))), fun ds n Q h hl => ?_⟩)
  unfold F_is_within at h
  split at h
  · rename_i v a b
    simp only [wSeq, wNext, wRet, wRetN, wNever, wDrop, wIfS, wAsg, gwName, dv_gtup, dv_gunl, dv_gcons, dv_gnil, wPar, wPar3, wAug, wSetO, wAugO, wApp, wVar, wC, wOp, wUn, asBl, wAnd, wOr, wNot, wAndV, wOrV, wNotV, wIf, wNil, wCons, wTup, wLst, wLstO, wCB, wCall, wCallK1, wMeth, wRel, wMk, wPen0, wPen1, wPen2, wPenS1, wPenS2, wSMeth, dv_make, wRowF, wSl, woNo, woSome, wChain, wYes, wIsi2,
    dv_add_int, dv_add_lst, dv_add_tup, dv_mul_int, dv_mul_lst, dv_mul_tup, rdMulO, dv_i0, dv_i2, rdNeg, rdSl, dv_int_int, dv_int_bl, dv_abs, dv_ne0_lst0, dv_eq0_lst0, rdList, rdListO, rdIsi, dv_eq_row, dv_ne_row, dv_eq_tup, dv_ne_tup, dv_ne_tup0, dv_eq_lst, dv_ne_lst, dv_eq_int, dv_ne_int, dv_eq0_tup, dv_eq0_int, dv_ne0_int, dv_ne0_tup, dv_mk_lst, dv_mk_tup, dv_sum_lst, dv_sum_tup, dv_tuple_lst, dv_tuple_tup, dv_len_lst, dv_len_tup, dv_all, frzL_ints,  rdIs, rdIsNot, Dp.isNon, seqOf, seqI, frz, startD, kg, isiD_non, isiD_bl, isiD_int, isiD_str, isiD_lst, isiD_tup, isiD2_non, isiD2_bl, isiD2_int, isiD2_str, isiD2_lst, isiD2_tup, kb_non_int, kb_bl_int, kb_int_int, kb_str_int, kb_lst_int, kb_tup_int, kb_non_bool, kb_bl_bool, kb_int_bool, kb_str_str, kb_int_str, kb2_non, kb2_bl, kb2_int, kb2_str, kb2_lst, kb2_tup, isi_row_int, isi_row_list, isi_row_tuple, isi_row_str, isi2_row,
    List.map_cons, List.map_nil, List.length_cons, List.length_nil, List.getElem?_cons_zero, List.getElem?_cons_succ, List.set_cons_zero, List.set_cons_succ, List.replicate_succ, List.replicate_zero, List.cons_append, List.nil_append, List.append_nil, Nat.zero_add, Nat.reduceAdd, Nat.reduceSub, List.tail_cons, wipeE, wiRng1, wiRng2, wiSeq, wiEnum, wiZip,
    exists_eq_left, exists_eq_left', exists_eq_right, exists_eq_right', Option.some.injEq, D.int.injEq, D.bl.injEq, D.str.injEq, D.lst.injEq, D.tup.injEq, D.row.injEq, D.own.injEq, D.adr.injEq, D.ty.injEq, reduceCtorEq, List.cons.injEq, true_and, and_true, false_and, and_false, or_false, false_or, exists_false, if_true, if_false, Bool.not_true, Bool.not_false, Bool.false_eq_true, and_self, true_or, or_true, exists_and_left, exists_and_right, ite_true, ite_false, exists_const, exists_eq, exists_eq', decide_true, decide_false, Bool.not_true, Bool.not_false, F_is_integer]
    by_cases h1 : v < a
    · rw [if_pos (decide_eq_true h1)]; rwa [decide_eq_false (show ¬ a ≤ v by omega), Bool.false_and] at h
    · rw [if_neg (by simpa using h1)]; rwa [decide_eq_true (show a ≤ v by omega), Bool.true_and] at h
  · exact h.elim
def F_is_listed : FD
  | [.lst _], n, Q => Q (.bl true) n
  | [.tup _], n, Q => Q (.bl true) n
  | [.row _], n, Q => Q (.bl false) n
  | _, _, _ => False
theorem l_is_listed : ∀ ds n Q, F_is_listed ds n Q → ds.length = 1 := by intro ds n Q h; unfold F_is_listed at h; split at h <;> first | rfl | exact h.elim
theorem ok_is_listed (Fn : FunD c.K "is_listed" "is_listed" (defArgs s_is_listed) (defBody s_is_listed) (defScope s_is_listed) [] [] f fd) (T : Tb c mg) : FnOk P w c.K mg base CX0 2 f fd ["value"] (spD c 1 F_is_listed) := by
  refine fn_d Fn sc_is_listed (fun cdv A outer s H E hr => ⟨_, (pss_one (ps_ret (pe_callB (isiK (K := c.K)) (by rfl) T.b_isinstance (by decide +kernel) (pa_cons (pv 0) (pa_cons (pe_tup (pa_cons (pe_bltn (v := .ty "list") (u := .type "list") (by rfl) T.b_list (by decide +kernel) rfl) (pa_cons (pe_bltn (v := .ty "tuple") (u := .type "tuple") (by rfl) T.b_tuple (by decide +kernel) rfl) pa_nil))) pa_nil))))), _, (sndS_ret (snd_isi2 T.row snd_var)), fun ds n Q h hl => ?_⟩)
  unfold F_is_listed at h
  split at h
  · simp only [wSeq, wNext, wRet, wRetN, wNever, wDrop, wIfS, wAsg, gwName, dv_gtup, dv_gunl, dv_gcons, dv_gnil, wPar, wPar3, wAug, wSetO, wAugO, wApp, wVar, wC, wOp, wUn, asBl, wAnd, wOr, wNot, wAndV, wOrV, wNotV, wIf, wNil, wCons, wTup, wLst, wLstO, wCB, wCall, wCallK1, wMeth, wRel, wMk, wPen0, wPen1, wPen2, wPenS1, wPenS2, wSMeth, dv_make, wRowF, wSl, woNo, woSome, wChain, wYes, wIsi2,
    dv_add_int, dv_add_lst, dv_add_tup, dv_mul_int, dv_mul_lst, dv_mul_tup, rdMulO, dv_i0, dv_i2, rdNeg, rdSl, dv_int_int, dv_int_bl, dv_abs, dv_ne0_lst0, dv_eq0_lst0, rdList, rdListO, rdIsi, dv_eq_row, dv_ne_row, dv_eq_tup, dv_ne_tup, dv_ne_tup0, dv_eq_lst, dv_ne_lst, dv_eq_int, dv_ne_int, dv_eq0_tup, dv_eq0_int, dv_ne0_int, dv_ne0_tup, dv_mk_lst, dv_mk_tup, dv_sum_lst, dv_sum_tup, dv_tuple_lst, dv_tuple_tup, dv_len_lst, dv_len_tup, dv_all, frzL_ints,  rdIs, rdIsNot, Dp.isNon, seqOf, seqI, frz, startD, kg, isiD_non, isiD_bl, isiD_int, isiD_str, isiD_lst, isiD_tup, isiD2_non, isiD2_bl, isiD2_int, isiD2_str, isiD2_lst, isiD2_tup, kb_non_int, kb_bl_int, kb_int_int, kb_str_int, kb_lst_int, kb_tup_int, kb_non_bool, kb_bl_bool, kb_int_bool, kb_str_str, kb_int_str, kb2_non, kb2_bl, kb2_int, kb2_str, kb2_lst, kb2_tup, isi_row_int, isi_row_list, isi_row_tuple, isi_row_str, isi2_row,
    List.map_cons, List.map_nil, List.length_cons, List.length_nil, List.getElem?_cons_zero, List.getElem?_cons_succ, List.set_cons_zero, List.set_cons_succ, List.replicate_succ, List.replicate_zero, List.cons_append, List.nil_append, List.append_nil, Nat.zero_add, Nat.reduceAdd, Nat.reduceSub, List.tail_cons, wipeE, wiRng1, wiRng2, wiSeq, wiEnum, wiZip,
    exists_eq_left, exists_eq_left', exists_eq_right, exists_eq_right', Option.some.injEq, D.int.injEq, D.bl.injEq, D.str.injEq, D.lst.injEq, D.tup.injEq, D.row.injEq, D.own.injEq, D.adr.injEq, D.ty.injEq, reduceCtorEq, List.cons.injEq, true_and, and_true, false_and, and_false, or_false, false_or, exists_false, if_true, if_false, Bool.not_true, Bool.not_false, Bool.false_eq_true, and_self, true_or, or_true, exists_and_left, exists_and_right, ite_true, ite_false, exists_const, exists_eq, exists_eq', decide_true, decide_false, Bool.not_true, Bool.not_false]; exact h
  · simp only [wSeq, wNext, wRet, wRetN, wNever, wDrop, wIfS, wAsg, gwName, dv_gtup, dv_gunl, dv_gcons, dv_gnil, wPar, wPar3, wAug, wSetO, wAugO, wApp, wVar, wC, wOp, wUn, asBl, wAnd, wOr, wNot, wAndV, wOrV, wNotV, wIf, wNil, wCons, wTup, wLst, wLstO, wCB, wCall, wCallK1, wMeth, wRel, wMk, wPen0, wPen1, wPen2, wPenS1, wPenS2, wSMeth, dv_make, wRowF, wSl, woNo, woSome, wChain, wYes, wIsi2,
    dv_add_int, dv_add_lst, dv_add_tup, dv_mul_int, dv_mul_lst, dv_mul_tup, rdMulO, dv_i0, dv_i2, rdNeg, rdSl, dv_int_int, dv_int_bl, dv_abs, dv_ne0_lst0, dv_eq0_lst0, rdList, rdListO, rdIsi, dv_eq_row, dv_ne_row, dv_eq_tup, dv_ne_tup, dv_ne_tup0, dv_eq_lst, dv_ne_lst, dv_eq_int, dv_ne_int, dv_eq0_tup, dv_eq0_int, dv_ne0_int, dv_ne0_tup, dv_mk_lst, dv_mk_tup, dv_sum_lst, dv_sum_tup, dv_tuple_lst, dv_tuple_tup, dv_len_lst, dv_len_tup, dv_all, frzL_ints,  rdIs, rdIsNot, Dp.isNon, seqOf, seqI, frz, startD, kg, isiD_non, isiD_bl, isiD_int, isiD_str, isiD_lst, isiD_tup, isiD2_non, isiD2_bl, isiD2_int, isiD2_str, isiD2_lst, isiD2_tup, kb_non_int, kb_bl_int, kb_int_int, kb_str_int, kb_lst_int, kb_tup_int, kb_non_bool, kb_bl_bool, kb_int_bool, kb_str_str, kb_int_str, kb2_non, kb2_bl, kb2_int, kb2_str, kb2_lst, kb2_tup, isi_row_int, isi_row_list, isi_row_tuple, isi_row_str, isi2_row,
    List.map_cons, List.map_nil, List.length_cons, List.length_nil, List.getElem?_cons_zero, List.getElem?_cons_succ, List.set_cons_zero, List.set_cons_succ, List.replicate_succ, List.replicate_zero, List.cons_append, List.nil_append, List.append_nil, Nat.zero_add, Nat.reduceAdd, Nat.reduceSub, List.tail_cons, wipeE, wiRng1, wiRng2, wiSeq, wiEnum, wiZip,
    exists_eq_left, exists_eq_left', exists_eq_right, exists_eq_right', Option.some.injEq, D.int.injEq, D.bl.injEq, D.str.injEq, D.lst.injEq, D.tup.injEq, D.row.injEq, D.own.injEq, D.adr.injEq, D.ty.injEq, reduceCtorEq, List.cons.injEq, true_and, and_true, false_and, and_false, or_false, false_or, exists_false, if_true, if_false, Bool.not_true, Bool.not_false, Bool.false_eq_true, and_self, true_or, or_true, exists_and_left, exists_and_right, ite_true, ite_false, exists_const, exists_eq, exists_eq', decide_true, decide_false, Bool.not_true, Bool.not_false]; exact h
  · simp only [wSeq, wNext, wRet, wRetN, wNever, wDrop, wIfS, wAsg, gwName, dv_gtup, dv_gunl, dv_gcons, dv_gnil, wPar, wPar3, wAug, wSetO, wAugO, wApp, wVar, wC, wOp, wUn, asBl, wAnd, wOr, wNot, wAndV, wOrV, wNotV, wIf, wNil, wCons, wTup, wLst, wLstO, wCB, wCall, wCallK1, wMeth, wRel, wMk, wPen0, wPen1, wPen2, wPenS1, wPenS2, wSMeth, dv_make, wRowF, wSl, woNo, woSome, wChain, wYes, wIsi2,
    dv_add_int, dv_add_lst, dv_add_tup, dv_mul_int, dv_mul_lst, dv_mul_tup, rdMulO, dv_i0, dv_i2, rdNeg, rdSl, dv_int_int, dv_int_bl, dv_abs, dv_ne0_lst0, dv_eq0_lst0, rdList, rdListO, rdIsi, dv_eq_row, dv_ne_row, dv_eq_tup, dv_ne_tup, dv_ne_tup0, dv_eq_lst, dv_ne_lst, dv_eq_int, dv_ne_int, dv_eq0_tup, dv_eq0_int, dv_ne0_int, dv_ne0_tup, dv_mk_lst, dv_mk_tup, dv_sum_lst, dv_sum_tup, dv_tuple_lst, dv_tuple_tup, dv_len_lst, dv_len_tup, dv_all, frzL_ints,  rdIs, rdIsNot, Dp.isNon, seqOf, seqI, frz, startD, kg, isiD_non, isiD_bl, isiD_int, isiD_str, isiD_lst, isiD_tup, isiD2_non, isiD2_bl, isiD2_int, isiD2_str, isiD2_lst, isiD2_tup, kb_non_int, kb_bl_int, kb_int_int, kb_str_int, kb_lst_int, kb_tup_int, kb_non_bool, kb_bl_bool, kb_int_bool, kb_str_str, kb_int_str, kb2_non, kb2_bl, kb2_int, kb2_str, kb2_lst, kb2_tup, isi_row_int, isi_row_list, isi_row_tuple, isi_row_str, isi2_row,
    List.map_cons, List.map_nil, List.length_cons, List.length_nil, List.getElem?_cons_zero, List.getElem?_cons_succ, List.set_cons_zero, List.set_cons_succ, List.replicate_succ, List.replicate_zero, List.cons_append, List.nil_append, List.append_nil, Nat.zero_add, Nat.reduceAdd, Nat.reduceSub, List.tail_cons, wipeE, wiRng1, wiRng2, wiSeq, wiEnum, wiZip,
    exists_eq_left, exists_eq_left', exists_eq_right, exists_eq_right', Option.some.injEq, D.int.injEq, D.bl.injEq, D.str.injEq, D.lst.injEq, D.tup.injEq, D.row.injEq, D.own.injEq, D.adr.injEq, D.ty.injEq, reduceCtorEq, List.cons.injEq, true_and, and_true, false_and, and_false, or_false, false_or, exists_false, if_true, if_false, Bool.not_true, Bool.not_false, Bool.false_eq_true, and_self, true_or, or_true, exists_and_left, exists_and_right, ite_true, ite_false, exists_const, exists_eq, exists_eq', decide_true, decide_false, Bool.not_true, Bool.not_false]; exact h
  · exact h.elim
def F_are_integers : FD
  | [x], n, Q => ∃ ns : List Int, seqI x = some (ns.map D.int) ∧ ns.length < 1000 ∧ Q (.bl true) n
  | _, _, _ => False
theorem l_are_integers : ∀ ds n Q, F_are_integers ds n Q → ds.length = 1 := by intro ds n Q h; unfold F_are_integers at h; split at h <;> first | rfl | exact h.elim
theorem ok_are_integers (Fn : FunD c.K "are_integers" "are_integers" (defArgs s_are_integers) (defBody s_are_integers) (defScope s_are_integers) [] [] f fd) (T : Tb c mg) (d_is_integer : Dn P w c.K mg base "is_integer" 2 ["value"] (spD c 1 F_is_integer)) (d_is_listed : Dn P w c.K mg base "is_listed" 2 ["value"] (spD c 1 F_is_listed)) :
    FnOk P w c.K mg base CX0 3 f fd ["value"] (spD c 1 F_are_integers) := by
  refine fn_d Fn sc_are_integers (fun cdv A outer s H E hr => ⟨_, (pss_one (ps_ret (pe_and (pe_d d_is_listed hr (by rfl) (pa_cons (pv 0) pa_nil)) (pe_one (pe_callB (allK (K := c.K)) (by rfl) T.b_all (by decide +kernel) (pa_cons (pe_lc (own := [("item", 1)]) (g := gName 1) (by rfl) sc_are_integers.nd (pi_seq (pv 0)) (blkOk_by (N := ["value", "item"]) (sc := defScope s_are_integers) (by decide +kernel)) (fun _ _ _ _ _ => (pg_name (i := 1) sc_are_integers.nd rfl (by first | exact .inl rfl | exact .inr rfl))) (fun _ _ _ _ _ => pts_nil) (fun _ _ _ _ _ => (pe_d d_is_integer hr (by rfl) (pa_cons (pv 1) pa_nil)))) pa_nil)))))), _, (sndS_ret (snd_andV (snd_call l_is_listed (sndA_cons snd_var sndA_nil)) (snd_cb sndC_all (sndA_cons (snd_lc (sndI_seq snd_var) sndG_name (okT_name (by decide)) sndT_yes (snd_call l_is_integer (sndA_cons snd_var sndA_nil))) sndA_nil)))), fun ds n Q h hl => ?_⟩)
  unfold F_are_integers at h
  split at h
  · rename_i x
    obtain ⟨ns, hx, hl2, q⟩ := h
    have hx2 : x = .lst (ns.map D.int) ∨ x = .tup (ns.map D.int) := by
      cases x <;> simp only [seqI] at hx <;> first | (cases hx; first | exact .inl rfl | exact .inr rfl) | cases hx
    have key : wLc (wiSeq (wVar 0)) (gwName 1) wYes (wCall F_is_integer (wCons (wVar 1) wNil)) (List.map (fun x => x.snd) [(Str.ofString "item", 1)]) (startD ["value", "item"] [x]) [] n fun d μ1 n1 => rdAll [d] μ1 n1 fun d _ n1 => Q (frz [] d) n1 := by
      refine lc_pure (items := ns.map D.int) (ys := (List.replicate ns.length true).map D.bl) (μ1 := []) (n1 := n) (fun k q => ?_) (by simp; omega) (by simp) ?_ ?_
      · simp only [wSeq, wNext, wRet, wRetN, wNever, wDrop, wIfS, wAsg, gwName, dv_gtup, dv_gunl, dv_gcons, dv_gnil, wPar, wPar3, wAug, wSetO, wAugO, wApp, wVar, wC, wOp, wUn, asBl, wAnd, wOr, wNot, wAndV, wOrV, wNotV, wIf, wNil, wCons, wTup, wLst, wLstO, wCB, wCall, wCallK1, wMeth, wRel, wMk, wPen0, wPen1, wPen2, wPenS1, wPenS2, wSMeth, dv_make, wRowF, wSl, woNo, woSome, wChain, wYes, wIsi2,
    dv_add_int, dv_add_lst, dv_add_tup, dv_mul_int, dv_mul_lst, dv_mul_tup, rdMulO, dv_i0, dv_i2, rdNeg, rdSl, dv_int_int, dv_int_bl, dv_abs, dv_ne0_lst0, dv_eq0_lst0, rdList, rdListO, rdIsi, dv_eq_row, dv_ne_row, dv_eq_tup, dv_ne_tup, dv_ne_tup0, dv_eq_lst, dv_ne_lst, dv_eq_int, dv_ne_int, dv_eq0_tup, dv_eq0_int, dv_ne0_int, dv_ne0_tup, dv_mk_lst, dv_mk_tup, dv_sum_lst, dv_sum_tup, dv_tuple_lst, dv_tuple_tup, dv_len_lst, dv_len_tup, dv_all, frzL_ints,  rdIs, rdIsNot, Dp.isNon, seqOf, seqI, frz, startD, kg, isiD_non, isiD_bl, isiD_int, isiD_str, isiD_lst, isiD_tup, isiD2_non, isiD2_bl, isiD2_int, isiD2_str, isiD2_lst, isiD2_tup, kb_non_int, kb_bl_int, kb_int_int, kb_str_int, kb_lst_int, kb_tup_int, kb_non_bool, kb_bl_bool, kb_int_bool, kb_str_str, kb_int_str, kb2_non, kb2_bl, kb2_int, kb2_str, kb2_lst, kb2_tup, isi_row_int, isi_row_list, isi_row_tuple, isi_row_str, isi2_row,
    List.map_cons, List.map_nil, List.length_cons, List.length_nil, List.getElem?_cons_zero, List.getElem?_cons_succ, List.set_cons_zero, List.set_cons_succ, List.replicate_succ, List.replicate_zero, List.cons_append, List.nil_append, List.append_nil, Nat.zero_add, Nat.reduceAdd, Nat.reduceSub, List.tail_cons, wipeE, wiRng1, wiRng2, wiSeq, wiEnum, wiZip,
    exists_eq_left, exists_eq_left', exists_eq_right, exists_eq_right', Option.some.injEq, D.int.injEq, D.bl.injEq, D.str.injEq, D.lst.injEq, D.tup.injEq, D.row.injEq, D.own.injEq, D.adr.injEq, D.ty.injEq, reduceCtorEq, List.cons.injEq, true_and, and_true, false_and, and_false, or_false, false_or, exists_false, if_true, if_false, Bool.not_true, Bool.not_false, Bool.false_eq_true, and_self, true_or, or_true, exists_and_left, exists_and_right, ite_true, ite_false, exists_const, exists_eq, exists_eq', decide_true, decide_false, Bool.not_true, Bool.not_false, wiSeq]; exact ⟨_, hx, q⟩
      · intro i d y p acc J hd hy hp hJ
        obtain ⟨a, _, rfl⟩ := map_get hd
        obtain ⟨b, hb, rfl⟩ := map_get hy
        have : b = true := by
          rw [List.getElem?_replicate] at hb
          split at hb <;> cases hb; rfl
        subst this
        simp only [wSeq, wNext, wRet, wRetN, wNever, wDrop, wIfS, wAsg, gwName, dv_gtup, dv_gunl, dv_gcons, dv_gnil, wPar, wPar3, wAug, wSetO, wAugO, wApp, wVar, wC, wOp, wUn, asBl, wAnd, wOr, wNot, wAndV, wOrV, wNotV, wIf, wNil, wCons, wTup, wLst, wLstO, wCB, wCall, wCallK1, wMeth, wRel, wMk, wPen0, wPen1, wPen2, wPenS1, wPenS2, wSMeth, dv_make, wRowF, wSl, woNo, woSome, wChain, wYes, wIsi2,
    dv_add_int, dv_add_lst, dv_add_tup, dv_mul_int, dv_mul_lst, dv_mul_tup, rdMulO, dv_i0, dv_i2, rdNeg, rdSl, dv_int_int, dv_int_bl, dv_abs, dv_ne0_lst0, dv_eq0_lst0, rdList, rdListO, rdIsi, dv_eq_row, dv_ne_row, dv_eq_tup, dv_ne_tup, dv_ne_tup0, dv_eq_lst, dv_ne_lst, dv_eq_int, dv_ne_int, dv_eq0_tup, dv_eq0_int, dv_ne0_int, dv_ne0_tup, dv_mk_lst, dv_mk_tup, dv_sum_lst, dv_sum_tup, dv_tuple_lst, dv_tuple_tup, dv_len_lst, dv_len_tup, dv_all, frzL_ints,  rdIs, rdIsNot, Dp.isNon, seqOf, seqI, frz, startD, kg, isiD_non, isiD_bl, isiD_int, isiD_str, isiD_lst, isiD_tup, isiD2_non, isiD2_bl, isiD2_int, isiD2_str, isiD2_lst, isiD2_tup, kb_non_int, kb_bl_int, kb_int_int, kb_str_int, kb_lst_int, kb_tup_int, kb_non_bool, kb_bl_bool, kb_int_bool, kb_str_str, kb_int_str, kb2_non, kb2_bl, kb2_int, kb2_str, kb2_lst, kb2_tup, isi_row_int, isi_row_list, isi_row_tuple, isi_row_str, isi2_row,
    List.map_cons, List.map_nil, List.length_cons, List.length_nil, List.getElem?_cons_zero, List.getElem?_cons_succ, List.set_cons_zero, List.set_cons_succ, List.replicate_succ, List.replicate_zero, List.cons_append, List.nil_append, List.append_nil, Nat.zero_add, Nat.reduceAdd, Nat.reduceSub, List.tail_cons, wipeE, wiRng1, wiRng2, wiSeq, wiEnum, wiZip,
    exists_eq_left, exists_eq_left', exists_eq_right, exists_eq_right', Option.some.injEq, D.int.injEq, D.bl.injEq, D.str.injEq, D.lst.injEq, D.tup.injEq, D.row.injEq, D.own.injEq, D.adr.injEq, D.ty.injEq, reduceCtorEq, List.cons.injEq, true_and, and_true, false_and, and_false, or_false, false_or, exists_false, if_true, if_false, Bool.not_true, Bool.not_false, Bool.false_eq_true, and_self, true_or, or_true, exists_and_left, exists_and_right, ite_true, ite_false, exists_const, exists_eq, exists_eq', decide_true, decide_false, Bool.not_true, Bool.not_false, F_is_integer]
        exact hJ
      · simp only [wSeq, wNext, wRet, wRetN, wNever, wDrop, wIfS, wAsg, gwName, dv_gtup, dv_gunl, dv_gcons, dv_gnil, wPar, wPar3, wAug, wSetO, wAugO, wApp, wVar, wC, wOp, wUn, asBl, wAnd, wOr, wNot, wAndV, wOrV, wNotV, wIf, wNil, wCons, wTup, wLst, wLstO, wCB, wCall, wCallK1, wMeth, wRel, wMk, wPen0, wPen1, wPen2, wPenS1, wPenS2, wSMeth, dv_make, wRowF, wSl, woNo, woSome, wChain, wYes, wIsi2,
    dv_add_int, dv_add_lst, dv_add_tup, dv_mul_int, dv_mul_lst, dv_mul_tup, rdMulO, dv_i0, dv_i2, rdNeg, rdSl, dv_int_int, dv_int_bl, dv_abs, dv_ne0_lst0, dv_eq0_lst0, rdList, rdListO, rdIsi, dv_eq_row, dv_ne_row, dv_eq_tup, dv_ne_tup, dv_ne_tup0, dv_eq_lst, dv_ne_lst, dv_eq_int, dv_ne_int, dv_eq0_tup, dv_eq0_int, dv_ne0_int, dv_ne0_tup, dv_mk_lst, dv_mk_tup, dv_sum_lst, dv_sum_tup, dv_tuple_lst, dv_tuple_tup, dv_len_lst, dv_len_tup, dv_all, frzL_ints,  rdIs, rdIsNot, Dp.isNon, seqOf, seqI, frz, startD, kg, isiD_non, isiD_bl, isiD_int, isiD_str, isiD_lst, isiD_tup, isiD2_non, isiD2_bl, isiD2_int, isiD2_str, isiD2_lst, isiD2_tup, kb_non_int, kb_bl_int, kb_int_int, kb_str_int, kb_lst_int, kb_tup_int, kb_non_bool, kb_bl_bool, kb_int_bool, kb_str_str, kb_int_str, kb2_non, kb2_bl, kb2_int, kb2_str, kb2_lst, kb2_tup, isi_row_int, isi_row_list, isi_row_tuple, isi_row_str, isi2_row,
    List.map_cons, List.map_nil, List.length_cons, List.length_nil, List.getElem?_cons_zero, List.getElem?_cons_succ, List.set_cons_zero, List.set_cons_succ, List.replicate_succ, List.replicate_zero, List.cons_append, List.nil_append, List.append_nil, Nat.zero_add, Nat.reduceAdd, Nat.reduceSub, List.tail_cons, wipeE, wiRng1, wiRng2, wiSeq, wiEnum, wiZip,
    exists_eq_left, exists_eq_left', exists_eq_right, exists_eq_right', Option.some.injEq, D.int.injEq, D.bl.injEq, D.str.injEq, D.lst.injEq, D.tup.injEq, D.row.injEq, D.own.injEq, D.adr.injEq, D.ty.injEq, reduceCtorEq, List.cons.injEq, true_and, and_true, false_and, and_false, or_false, false_or, exists_false, if_true, if_false, Bool.not_true, Bool.not_false, Bool.false_eq_true, and_self, true_or, or_true, exists_and_left, exists_and_right, ite_true, ite_false, exists_const, exists_eq, exists_eq', decide_true, decide_false, Bool.not_true, Bool.not_false]
        have : (List.replicate ns.length true).all id = true := by simp
        rw [this]; exact q
    rcases hx2 with rfl | rfl
    · simp only [wSeq, wNext, wRet, wRetN, wNever, wDrop, wIfS, wAsg, gwName, dv_gtup, dv_gunl, dv_gcons, dv_gnil, wPar, wPar3, wAug, wSetO, wAugO, wApp, wVar, wC, wOp, wUn, asBl, wAnd, wOr, wNot, wAndV, wOrV, wNotV, wIf, wNil, wCons, wTup, wLst, wLstO, wCB, wCall, wCallK1, wMeth, wRel, wMk, wPen0, wPen1, wPen2, wPenS1, wPenS2, wSMeth, dv_make, wRowF, wSl, woNo, woSome, wChain, wYes, wIsi2,
    dv_add_int, dv_add_lst, dv_add_tup, dv_mul_int, dv_mul_lst, dv_mul_tup, rdMulO, dv_i0, dv_i2, rdNeg, rdSl, dv_int_int, dv_int_bl, dv_abs, dv_ne0_lst0, dv_eq0_lst0, rdList, rdListO, rdIsi, dv_eq_row, dv_ne_row, dv_eq_tup, dv_ne_tup, dv_ne_tup0, dv_eq_lst, dv_ne_lst, dv_eq_int, dv_ne_int, dv_eq0_tup, dv_eq0_int, dv_ne0_int, dv_ne0_tup, dv_mk_lst, dv_mk_tup, dv_sum_lst, dv_sum_tup, dv_tuple_lst, dv_tuple_tup, dv_len_lst, dv_len_tup, dv_all, frzL_ints,  rdIs, rdIsNot, Dp.isNon, seqOf, seqI, frz, startD, kg, isiD_non, isiD_bl, isiD_int, isiD_str, isiD_lst, isiD_tup, isiD2_non, isiD2_bl, isiD2_int, isiD2_str, isiD2_lst, isiD2_tup, kb_non_int, kb_bl_int, kb_int_int, kb_str_int, kb_lst_int, kb_tup_int, kb_non_bool, kb_bl_bool, kb_int_bool, kb_str_str, kb_int_str, kb2_non, kb2_bl, kb2_int, kb2_str, kb2_lst, kb2_tup, isi_row_int, isi_row_list, isi_row_tuple, isi_row_str, isi2_row,
    List.map_cons, List.map_nil, List.length_cons, List.length_nil, List.getElem?_cons_zero, List.getElem?_cons_succ, List.set_cons_zero, List.set_cons_succ, List.replicate_succ, List.replicate_zero, List.cons_append, List.nil_append, List.append_nil, Nat.zero_add, Nat.reduceAdd, Nat.reduceSub, List.tail_cons, wipeE, wiRng1, wiRng2, wiSeq, wiEnum, wiZip,
    exists_eq_left, exists_eq_left', exists_eq_right, exists_eq_right', Option.some.injEq, D.int.injEq, D.bl.injEq, D.str.injEq, D.lst.injEq, D.tup.injEq, D.row.injEq, D.own.injEq, D.adr.injEq, D.ty.injEq, reduceCtorEq, List.cons.injEq, true_and, and_true, false_and, and_false, or_false, false_or, exists_false, if_true, if_false, Bool.not_true, Bool.not_false, Bool.false_eq_true, and_self, true_or, or_true, exists_and_left, exists_and_right, ite_true, ite_false, exists_const, exists_eq, exists_eq', decide_true, decide_false, Bool.not_true, Bool.not_false, F_is_listed]
      simp only [wSeq, wNext, wRet, wRetN, wNever, wDrop, wIfS, wAsg, gwName, dv_gtup, dv_gunl, dv_gcons, dv_gnil, wPar, wPar3, wAug, wSetO, wAugO, wApp, wVar, wC, wOp, wUn, asBl, wAnd, wOr, wNot, wAndV, wOrV, wNotV, wIf, wNil, wCons, wTup, wLst, wLstO, wCB, wCall, wCallK1, wMeth, wRel, wMk, wPen0, wPen1, wPen2, wPenS1, wPenS2, wSMeth, dv_make, wRowF, wSl, woNo, woSome, wChain, wYes, wIsi2,
    dv_add_int, dv_add_lst, dv_add_tup, dv_mul_int, dv_mul_lst, dv_mul_tup, rdMulO, dv_i0, dv_i2, rdNeg, rdSl, dv_int_int, dv_int_bl, dv_abs, dv_ne0_lst0, dv_eq0_lst0, rdList, rdListO, rdIsi, dv_eq_row, dv_ne_row, dv_eq_tup, dv_ne_tup, dv_ne_tup0, dv_eq_lst, dv_ne_lst, dv_eq_int, dv_ne_int, dv_eq0_tup, dv_eq0_int, dv_ne0_int, dv_ne0_tup, dv_mk_lst, dv_mk_tup, dv_sum_lst, dv_sum_tup, dv_tuple_lst, dv_tuple_tup, dv_len_lst, dv_len_tup, dv_all, frzL_ints,  rdIs, rdIsNot, Dp.isNon, seqOf, seqI, frz, startD, kg, isiD_non, isiD_bl, isiD_int, isiD_str, isiD_lst, isiD_tup, isiD2_non, isiD2_bl, isiD2_int, isiD2_str, isiD2_lst, isiD2_tup, kb_non_int, kb_bl_int, kb_int_int, kb_str_int, kb_lst_int, kb_tup_int, kb_non_bool, kb_bl_bool, kb_int_bool, kb_str_str, kb_int_str, kb2_non, kb2_bl, kb2_int, kb2_str, kb2_lst, kb2_tup, isi_row_int, isi_row_list, isi_row_tuple, isi_row_str, isi2_row,
    List.map_cons, List.map_nil, List.length_cons, List.length_nil, List.getElem?_cons_zero, List.getElem?_cons_succ, List.set_cons_zero, List.set_cons_succ, List.replicate_succ, List.replicate_zero, List.cons_append, List.nil_append, List.append_nil, Nat.zero_add, Nat.reduceAdd, Nat.reduceSub, List.tail_cons, wipeE, wiRng1, wiRng2, wiSeq, wiEnum, wiZip,
    exists_eq_left, exists_eq_left', exists_eq_right, exists_eq_right', Option.some.injEq, D.int.injEq, D.bl.injEq, D.str.injEq, D.lst.injEq, D.tup.injEq, D.row.injEq, D.own.injEq, D.adr.injEq, D.ty.injEq, reduceCtorEq, List.cons.injEq, true_and, and_true, false_and, and_false, or_false, false_or, exists_false, if_true, if_false, Bool.not_true, Bool.not_false, Bool.false_eq_true, and_self, true_or, or_true, exists_and_left, exists_and_right, ite_true, ite_false, exists_const, exists_eq, exists_eq', decide_true, decide_false, Bool.not_true, Bool.not_false] at key
      exact key
    · simp only [wSeq, wNext, wRet, wRetN, wNever, wDrop, wIfS, wAsg, gwName, dv_gtup, dv_gunl, dv_gcons, dv_gnil, wPar, wPar3, wAug, wSetO, wAugO, wApp, wVar, wC, wOp, wUn, asBl, wAnd, wOr, wNot, wAndV, wOrV, wNotV, wIf, wNil, wCons, wTup, wLst, wLstO, wCB, wCall, wCallK1, wMeth, wRel, wMk, wPen0, wPen1, wPen2, wPenS1, wPenS2, wSMeth, dv_make, wRowF, wSl, woNo, woSome, wChain, wYes, wIsi2,
    dv_add_int, dv_add_lst, dv_add_tup, dv_mul_int, dv_mul_lst, dv_mul_tup, rdMulO, dv_i0, dv_i2, rdNeg, rdSl, dv_int_int, dv_int_bl, dv_abs, dv_ne0_lst0, dv_eq0_lst0, rdList, rdListO, rdIsi, dv_eq_row, dv_ne_row, dv_eq_tup, dv_ne_tup, dv_ne_tup0, dv_eq_lst, dv_ne_lst, dv_eq_int, dv_ne_int, dv_eq0_tup, dv_eq0_int, dv_ne0_int, dv_ne0_tup, dv_mk_lst, dv_mk_tup, dv_sum_lst, dv_sum_tup, dv_tuple_lst, dv_tuple_tup, dv_len_lst, dv_len_tup, dv_all, frzL_ints,  rdIs, rdIsNot, Dp.isNon, seqOf, seqI, frz, startD, kg, isiD_non, isiD_bl, isiD_int, isiD_str, isiD_lst, isiD_tup, isiD2_non, isiD2_bl, isiD2_int, isiD2_str, isiD2_lst, isiD2_tup, kb_non_int, kb_bl_int, kb_int_int, kb_str_int, kb_lst_int, kb_tup_int, kb_non_bool, kb_bl_bool, kb_int_bool, kb_str_str, kb_int_str, kb2_non, kb2_bl, kb2_int, kb2_str, kb2_lst, kb2_tup, isi_row_int, isi_row_list, isi_row_tuple, isi_row_str, isi2_row,
    List.map_cons, List.map_nil, List.length_cons, List.length_nil, List.getElem?_cons_zero, List.getElem?_cons_succ, List.set_cons_zero, List.set_cons_succ, List.replicate_succ, List.replicate_zero, List.cons_append, List.nil_append, List.append_nil, Nat.zero_add, Nat.reduceAdd, Nat.reduceSub, List.tail_cons, wipeE, wiRng1, wiRng2, wiSeq, wiEnum, wiZip,
    exists_eq_left, exists_eq_left', exists_eq_right, exists_eq_right', Option.some.injEq, D.int.injEq, D.bl.injEq, D.str.injEq, D.lst.injEq, D.tup.injEq, D.row.injEq, D.own.injEq, D.adr.injEq, D.ty.injEq, reduceCtorEq, List.cons.injEq, true_and, and_true, false_and, and_false, or_false, false_or, exists_false, if_true, if_false, Bool.not_true, Bool.not_false, Bool.false_eq_true, and_self, true_or, or_true, exists_and_left, exists_and_right, ite_true, ite_false, exists_const, exists_eq, exists_eq', decide_true, decide_false, Bool.not_true, Bool.not_false, F_is_listed]
      simp only [wSeq, wNext, wRet, wRetN, wNever, wDrop, wIfS, wAsg, gwName, dv_gtup, dv_gunl, dv_gcons, dv_gnil, wPar, wPar3, wAug, wSetO, wAugO, wApp, wVar, wC, wOp, wUn, asBl, wAnd, wOr, wNot, wAndV, wOrV, wNotV, wIf, wNil, wCons, wTup, wLst, wLstO, wCB, wCall, wCallK1, wMeth, wRel, wMk, wPen0, wPen1, wPen2, wPenS1, wPenS2, wSMeth, dv_make, wRowF, wSl, woNo, woSome, wChain, wYes, wIsi2,
    dv_add_int, dv_add_lst, dv_add_tup, dv_mul_int, dv_mul_lst, dv_mul_tup, rdMulO, dv_i0, dv_i2, rdNeg, rdSl, dv_int_int, dv_int_bl, dv_abs, dv_ne0_lst0, dv_eq0_lst0, rdList, rdListO, rdIsi, dv_eq_row, dv_ne_row, dv_eq_tup, dv_ne_tup, dv_ne_tup0, dv_eq_lst, dv_ne_lst, dv_eq_int, dv_ne_int, dv_eq0_tup, dv_eq0_int, dv_ne0_int, dv_ne0_tup, dv_mk_lst, dv_mk_tup, dv_sum_lst, dv_sum_tup, dv_tuple_lst, dv_tuple_tup, dv_len_lst, dv_len_tup, dv_all, frzL_ints,  rdIs, rdIsNot, Dp.isNon, seqOf, seqI, frz, startD, kg, isiD_non, isiD_bl, isiD_int, isiD_str, isiD_lst, isiD_tup, isiD2_non, isiD2_bl, isiD2_int, isiD2_str, isiD2_lst, isiD2_tup, kb_non_int, kb_bl_int, kb_int_int, kb_str_int, kb_lst_int, kb_tup_int, kb_non_bool, kb_bl_bool, kb_int_bool, kb_str_str, kb_int_str, kb2_non, kb2_bl, kb2_int, kb2_str, kb2_lst, kb2_tup, isi_row_int, isi_row_list, isi_row_tuple, isi_row_str, isi2_row,
    List.map_cons, List.map_nil, List.length_cons, List.length_nil, List.getElem?_cons_zero, List.getElem?_cons_succ, List.set_cons_zero, List.set_cons_succ, List.replicate_succ, List.replicate_zero, List.cons_append, List.nil_append, List.append_nil, Nat.zero_add, Nat.reduceAdd, Nat.reduceSub, List.tail_cons, wipeE, wiRng1, wiRng2, wiSeq, wiEnum, wiZip,
    exists_eq_left, exists_eq_left', exists_eq_right, exists_eq_right', Option.some.injEq, D.int.injEq, D.bl.injEq, D.str.injEq, D.lst.injEq, D.tup.injEq, D.row.injEq, D.own.injEq, D.adr.injEq, D.ty.injEq, reduceCtorEq, List.cons.injEq, true_and, and_true, false_and, and_false, or_false, false_or, exists_false, if_true, if_false, Bool.not_true, Bool.not_false, Bool.false_eq_true, and_self, true_or, or_true, exists_and_left, exists_and_right, ite_true, ite_false, exists_const, exists_eq, exists_eq', decide_true, decide_false, Bool.not_true, Bool.not_false] at key
      exact key
  · exact h.elim
def F_need_row : FD
  | [.row _, .str _], n, Q => Q .non n
  | _, _, _ => False
theorem l_need_row : ∀ ds n Q, F_need_row ds n Q → ds.length = 2 := by intro ds n Q h; unfold F_need_row at h; split at h <;> first | rfl | exact h.elim
theorem ok_need_row (Fn : FunD c.K "need_row" "need_row" (defArgs s_need_row) (defBody s_need_row) (defScope s_need_row) [] [] f fd) (T : Tb c mg) (n_Row : Nd P w c.K mg base c.R "Row" 5 ["self", "numbers"] (spInit c)) : FnOk P w c.K mg base CX0 2 f fd ["value", "part"] (spD c 2 F_need_row) := by
  refine fn_d Fn sc_need_row (fun cdv A outer s H E hr => ⟨_, (pss_one (ps_if (pt_not (pt_val (pe_callB (isiK (K := c.K)) (by rfl) T.b_isinstance (by decide +kernel) (pa_cons (pv 0) (pa_cons (pe_cn n_Row (by rfl)) pa_nil))))) (pss_one ps_never) pss_nil)), _, (sndS_if (sndT_not (sndT_B (snd_cb (sndC_isi T.row) (sndA_cons snd_var (sndA_cons snd_adr sndA_nil))))) sndS_never sndS_next), fun ds n Q h hl => ?_⟩)
  unfold F_need_row at h
  split at h
  · simp only [wSeq, wNext, wRet, wRetN, wNever, wDrop, wIfS, wAsg, gwName, dv_gtup, dv_gunl, dv_gcons, dv_gnil, wPar, wPar3, wAug, wSetO, wAugO, wApp, wVar, wC, wOp, wUn, asBl, wAnd, wOr, wNot, wAndV, wOrV, wNotV, wIf, wNil, wCons, wTup, wLst, wLstO, wCB, wCall, wCallK1, wMeth, wRel, wMk, wPen0, wPen1, wPen2, wPenS1, wPenS2, wSMeth, dv_make, wRowF, wSl, woNo, woSome, wChain, wYes, wIsi2,
    dv_add_int, dv_add_lst, dv_add_tup, dv_mul_int, dv_mul_lst, dv_mul_tup, rdMulO, dv_i0, dv_i2, rdNeg, rdSl, dv_int_int, dv_int_bl, dv_abs, dv_ne0_lst0, dv_eq0_lst0, rdList, rdListO, rdIsi, dv_eq_row, dv_ne_row, dv_eq_tup, dv_ne_tup, dv_ne_tup0, dv_eq_lst, dv_ne_lst, dv_eq_int, dv_ne_int, dv_eq0_tup, dv_eq0_int, dv_ne0_int, dv_ne0_tup, dv_mk_lst, dv_mk_tup, dv_sum_lst, dv_sum_tup, dv_tuple_lst, dv_tuple_tup, dv_len_lst, dv_len_tup, dv_all, frzL_ints,  rdIs, rdIsNot, Dp.isNon, seqOf, seqI, frz, startD, kg, isiD_non, isiD_bl, isiD_int, isiD_str, isiD_lst, isiD_tup, isiD2_non, isiD2_bl, isiD2_int, isiD2_str, isiD2_lst, isiD2_tup, kb_non_int, kb_bl_int, kb_int_int, kb_str_int, kb_lst_int, kb_tup_int, kb_non_bool, kb_bl_bool, kb_int_bool, kb_str_str, kb_int_str, kb2_non, kb2_bl, kb2_int, kb2_str, kb2_lst, kb2_tup, isi_row_int, isi_row_list, isi_row_tuple, isi_row_str, isi2_row,
    List.map_cons, List.map_nil, List.length_cons, List.length_nil, List.getElem?_cons_zero, List.getElem?_cons_succ, List.set_cons_zero, List.set_cons_succ, List.replicate_succ, List.replicate_zero, List.cons_append, List.nil_append, List.append_nil, Nat.zero_add, Nat.reduceAdd, Nat.reduceSub, List.tail_cons, wipeE, wiRng1, wiRng2, wiSeq, wiEnum, wiZip,
    exists_eq_left, exists_eq_left', exists_eq_right, exists_eq_right', Option.some.injEq, D.int.injEq, D.bl.injEq, D.str.injEq, D.lst.injEq, D.tup.injEq, D.row.injEq, D.own.injEq, D.adr.injEq, D.ty.injEq, reduceCtorEq, List.cons.injEq, true_and, and_true, false_and, and_false, or_false, false_or, exists_false, if_true, if_false, Bool.not_true, Bool.not_false, Bool.false_eq_true, and_self, true_or, or_true, exists_and_left, exists_and_right, ite_true, ite_false, exists_const, exists_eq, exists_eq', decide_true, decide_false, Bool.not_true, Bool.not_false]
    exact h
  · exact h.elim
def F_need_same_beats : FD
  | [.row a, .row b], n, Q => a.length = b.length ∧ Q .non n
  | _, _, _ => False
theorem l_need_same_beats : ∀ ds n Q, F_need_same_beats ds n Q → ds.length = 2 := by intro ds n Q h; unfold F_need_same_beats at h; split at h <;> first | rfl | exact h.elim
theorem ok_need_same_beats (Fn : FunD c.K "need_same_beats" "need_same_beats" (defArgs s_need_same_beats) (defBody s_need_same_beats) (defScope s_need_same_beats) [] [] f fd) (T : Tb c mg) : FnOk P w c.K mg base CX0 2 f fd ["one", "other"] (spD c 2 F_need_same_beats) := by
  refine fn_d Fn sc_need_same_beats (fun cdv A outer s H E hr => ⟨_, (pss_one (ps_if (pt_cmpR (ne0K (K := c.K) hr) (fldK (K := c.K) (pv 0) (by rfl)) (fldK (K := c.K) (pv 1) (by rfl)) (nomark _)) (pss_one ps_never) pss_nil)), _, (sndS_if (sndT_test (snd_op sndR_ne0 (snd_many T.row snd_var) (snd_many T.row snd_var))) sndS_never sndS_next), fun ds n Q h hl => ?_⟩)
  unfold F_need_same_beats at h
  split at h
  · obtain ⟨h1, q⟩ := h
    simp only [wSeq, wNext, wRet, wRetN, wNever, wDrop, wIfS, wAsg, gwName, dv_gtup, dv_gunl, dv_gcons, dv_gnil, wPar, wPar3, wAug, wSetO, wAugO, wApp, wVar, wC, wOp, wUn, asBl, wAnd, wOr, wNot, wAndV, wOrV, wNotV, wIf, wNil, wCons, wTup, wLst, wLstO, wCB, wCall, wCallK1, wMeth, wRel, wMk, wPen0, wPen1, wPen2, wPenS1, wPenS2, wSMeth, dv_make, wRowF, wSl, woNo, woSome, wChain, wYes, wIsi2,
    dv_add_int, dv_add_lst, dv_add_tup, dv_mul_int, dv_mul_lst, dv_mul_tup, rdMulO, dv_i0, dv_i2, rdNeg, rdSl, dv_int_int, dv_int_bl, dv_abs, dv_ne0_lst0, dv_eq0_lst0, rdList, rdListO, rdIsi, dv_eq_row, dv_ne_row, dv_eq_tup, dv_ne_tup, dv_ne_tup0, dv_eq_lst, dv_ne_lst, dv_eq_int, dv_ne_int, dv_eq0_tup, dv_eq0_int, dv_ne0_int, dv_ne0_tup, dv_mk_lst, dv_mk_tup, dv_sum_lst, dv_sum_tup, dv_tuple_lst, dv_tuple_tup, dv_len_lst, dv_len_tup, dv_all, frzL_ints,  rdIs, rdIsNot, Dp.isNon, seqOf, seqI, frz, startD, kg, isiD_non, isiD_bl, isiD_int, isiD_str, isiD_lst, isiD_tup, isiD2_non, isiD2_bl, isiD2_int, isiD2_str, isiD2_lst, isiD2_tup, kb_non_int, kb_bl_int, kb_int_int, kb_str_int, kb_lst_int, kb_tup_int, kb_non_bool, kb_bl_bool, kb_int_bool, kb_str_str, kb_int_str, kb2_non, kb2_bl, kb2_int, kb2_str, kb2_lst, kb2_tup, isi_row_int, isi_row_list, isi_row_tuple, isi_row_str, isi2_row,
    List.map_cons, List.map_nil, List.length_cons, List.length_nil, List.getElem?_cons_zero, List.getElem?_cons_succ, List.set_cons_zero, List.set_cons_succ, List.replicate_succ, List.replicate_zero, List.cons_append, List.nil_append, List.append_nil, Nat.zero_add, Nat.reduceAdd, Nat.reduceSub, List.tail_cons, wipeE, wiRng1, wiRng2, wiSeq, wiEnum, wiZip,
    exists_eq_left, exists_eq_left', exists_eq_right, exists_eq_right', Option.some.injEq, D.int.injEq, D.bl.injEq, D.str.injEq, D.lst.injEq, D.tup.injEq, D.row.injEq, D.own.injEq, D.adr.injEq, D.ty.injEq, reduceCtorEq, List.cons.injEq, true_and, and_true, false_and, and_false, or_false, false_or, exists_false, if_true, if_false, Bool.not_true, Bool.not_false, Bool.false_eq_true, and_self, true_or, or_true, exists_and_left, exists_and_right, ite_true, ite_false, exists_const, exists_eq, exists_eq', decide_true, decide_false, Bool.not_true, Bool.not_false, h1, decide_true]
    exact q
  · exact h.elim
theorem ok_eq (Fn : FunD c.K "__eq__" "Row.__eq__" (defArgs s_Row___eq__) (defBody s_Row___eq__) (defScope s_Row___eq__) [] [] f fd) (T : Tb c mg) (n_Row : Nd P w c.K mg base c.R "Row" 5 ["self", "numbers"] (spInit c)) : FnOk P w c.K mg base CX0 2 f fd ["self", "other"] (spD c 2 FEq) := by
  refine fn_d Fn sc_Row___eq__ (fun cdv A outer s H E hr => ⟨_, (pss_one (ps_ret (pe_and (pe_callB (isiK (K := c.K)) (by rfl) T.b_isinstance (by decide +kernel) (pa_cons (pv 1) (pa_cons (pe_cn n_Row (by rfl)) pa_nil))) (pe_one (pe_cmpR (eq0K (K := c.K) hr) (fldK (K := c.K) (pv 0) (by rfl)) (fldK (K := c.K) (pv 1) (by rfl)) (nomark _)))))), _, (sndS_ret (snd_andV (snd_cb (sndC_isi T.row) (sndA_cons snd_var (sndA_cons snd_adr sndA_nil))) (snd_op sndR_eq0 (snd_numbers T.row snd_var) (snd_numbers T.row snd_var)))), fun ds n Q h hl => ?_⟩)
  obtain ⟨a, b, rfl, q⟩ := h
  simp only [wSeq, wNext, wRet, wRetN, wNever, wDrop, wIfS, wAsg, gwName, dv_gtup, dv_gunl, dv_gcons, dv_gnil, wPar, wPar3, wAug, wSetO, wAugO, wApp, wVar, wC, wOp, wUn, asBl, wAnd, wOr, wNot, wAndV, wOrV, wNotV, wIf, wNil, wCons, wTup, wLst, wLstO, wCB, wCall, wCallK1, wMeth, wRel, wMk, wPen0, wPen1, wPen2, wPenS1, wPenS2, wSMeth, dv_make, wRowF, wSl, woNo, woSome, wChain, wYes, wIsi2,
    dv_add_int, dv_add_lst, dv_add_tup, dv_mul_int, dv_mul_lst, dv_mul_tup, rdMulO, dv_i0, dv_i2, rdNeg, rdSl, dv_int_int, dv_int_bl, dv_abs, dv_ne0_lst0, dv_eq0_lst0, rdList, rdListO, rdIsi, dv_eq_row, dv_ne_row, dv_eq_tup, dv_ne_tup, dv_ne_tup0, dv_eq_lst, dv_ne_lst, dv_eq_int, dv_ne_int, dv_eq0_tup, dv_eq0_int, dv_ne0_int, dv_ne0_tup, dv_mk_lst, dv_mk_tup, dv_sum_lst, dv_sum_tup, dv_tuple_lst, dv_tuple_tup, dv_len_lst, dv_len_tup, dv_all, frzL_ints,  rdIs, rdIsNot, Dp.isNon, seqOf, seqI, frz, startD, kg, isiD_non, isiD_bl, isiD_int, isiD_str, isiD_lst, isiD_tup, isiD2_non, isiD2_bl, isiD2_int, isiD2_str, isiD2_lst, isiD2_tup, kb_non_int, kb_bl_int, kb_int_int, kb_str_int, kb_lst_int, kb_tup_int, kb_non_bool, kb_bl_bool, kb_int_bool, kb_str_str, kb_int_str, kb2_non, kb2_bl, kb2_int, kb2_str, kb2_lst, kb2_tup, isi_row_int, isi_row_list, isi_row_tuple, isi_row_str, isi2_row,
    List.map_cons, List.map_nil, List.length_cons, List.length_nil, List.getElem?_cons_zero, List.getElem?_cons_succ, List.set_cons_zero, List.set_cons_succ, List.replicate_succ, List.replicate_zero, List.cons_append, List.nil_append, List.append_nil, Nat.zero_add, Nat.reduceAdd, Nat.reduceSub, List.tail_cons, wipeE, wiRng1, wiRng2, wiSeq, wiEnum, wiZip,
    exists_eq_left, exists_eq_left', exists_eq_right, exists_eq_right', Option.some.injEq, D.int.injEq, D.bl.injEq, D.str.injEq, D.lst.injEq, D.tup.injEq, D.row.injEq, D.own.injEq, D.adr.injEq, D.ty.injEq, reduceCtorEq, List.cons.injEq, true_and, and_true, false_and, and_false, or_false, false_or, exists_false, if_true, if_false, Bool.not_true, Bool.not_false, Bool.false_eq_true, and_self, true_or, or_true, exists_and_left, exists_and_right, ite_true, ite_false, exists_const, exists_eq, exists_eq', decide_true, decide_false, Bool.not_true, Bool.not_false]
  exact q
def Rk (a : List Int) : Prop := 2 ≤ a.length ∧ a.length ≤ 24
def F_left_out : FD
  | [.row a], n, Q => Rk a ∧ Q (.row (a.map fun x => 1 - x)) n
  | _, _, _ => False
theorem l_left_out : ∀ ds n Q, F_left_out ds n Q → ds.length = 1 := by intro ds n Q h; unfold F_left_out at h; split at h <;> first | rfl | exact h.elim
theorem ok_left_out (Fn : FunD c.K "left_out" "Row.left_out" (defArgs s_Row_left_out) (defBody s_Row_left_out) (defScope s_Row_left_out) [] [] f fd) (T : Tb c mg) (n_Row : Nd P w c.K mg base c.R "Row" 5 ["self", "numbers"] (spInit c)) : FnOk P w c.K mg base CX0 7 f fd ["self"] (spD c 1 F_left_out) := by
  refine fn_d Fn sc_Row_left_out (fun cdv A outer s H E hr => ⟨_, (pss_one (ps_ret (pe_n n_Row hr (by rfl) (pa_cons (pe_lc (own := [("number", 1)]) (g := gName 1) (by rfl) sc_Row_left_out.nd (pi_seq (fldK (K := c.K) (pv 0) (by rfl))) (blkOk_by (N := ["self", "number"]) (sc := defScope s_Row_left_out) (by decide +kernel)) (fun _ _ _ _ _ => (pg_name (i := 1) sc_Row_left_out.nd rfl (by first | exact .inl rfl | exact .inr rfl))) (fun _ _ _ _ _ => pts_nil) (fun _ _ _ _ _ => (pe_op opSub pe_int (pv 1)))) pa_nil)))), _, (sndS_ret (snd_make (sndA_cons (snd_lc (sndI_seq (snd_numbers T.row snd_var)) sndG_name (okT_name (by decide)) sndT_yes (snd_op sndR_sub snd_int snd_var)) sndA_nil))), fun ds n Q h hl => ?_⟩)
  unfold F_left_out at h
  split at h
  · rename_i a
    obtain ⟨h1, q⟩ := h
    simp only [wSeq, wNext, wRet, wRetN, wNever, wDrop, wIfS, wAsg, gwName, dv_gtup, dv_gunl, dv_gcons, dv_gnil, wPar, wPar3, wAug, wSetO, wAugO, wApp, wVar, wC, wOp, wUn, asBl, wAnd, wOr, wNot, wAndV, wOrV, wNotV, wIf, wNil, wCons, wTup, wLst, wLstO, wCB, wCall, wCallK1, wMeth, wRel, wMk, wPen0, wPen1, wPen2, wPenS1, wPenS2, wSMeth, dv_make, wRowF, wSl, woNo, woSome, wChain, wYes, wIsi2,
    dv_add_int, dv_add_lst, dv_add_tup, dv_mul_int, dv_mul_lst, dv_mul_tup, rdMulO, dv_i0, dv_i2, rdNeg, rdSl, dv_int_int, dv_int_bl, dv_abs, dv_ne0_lst0, dv_eq0_lst0, rdList, rdListO, rdIsi, dv_eq_row, dv_ne_row, dv_eq_tup, dv_ne_tup, dv_ne_tup0, dv_eq_lst, dv_ne_lst, dv_eq_int, dv_ne_int, dv_eq0_tup, dv_eq0_int, dv_ne0_int, dv_ne0_tup, dv_mk_lst, dv_mk_tup, dv_sum_lst, dv_sum_tup, dv_tuple_lst, dv_tuple_tup, dv_len_lst, dv_len_tup, dv_all, frzL_ints,  rdIs, rdIsNot, Dp.isNon, seqOf, seqI, frz, startD, kg, isiD_non, isiD_bl, isiD_int, isiD_str, isiD_lst, isiD_tup, isiD2_non, isiD2_bl, isiD2_int, isiD2_str, isiD2_lst, isiD2_tup, kb_non_int, kb_bl_int, kb_int_int, kb_str_int, kb_lst_int, kb_tup_int, kb_non_bool, kb_bl_bool, kb_int_bool, kb_str_str, kb_int_str, kb2_non, kb2_bl, kb2_int, kb2_str, kb2_lst, kb2_tup, isi_row_int, isi_row_list, isi_row_tuple, isi_row_str, isi2_row,
    List.map_cons, List.map_nil, List.length_cons, List.length_nil, List.getElem?_cons_zero, List.getElem?_cons_succ, List.set_cons_zero, List.set_cons_succ, List.replicate_succ, List.replicate_zero, List.cons_append, List.nil_append, List.append_nil, Nat.zero_add, Nat.reduceAdd, Nat.reduceSub, List.tail_cons, wipeE, wiRng1, wiRng2, wiSeq, wiEnum, wiZip,
    exists_eq_left, exists_eq_left', exists_eq_right, exists_eq_right', Option.some.injEq, D.int.injEq, D.bl.injEq, D.str.injEq, D.lst.injEq, D.tup.injEq, D.row.injEq, D.own.injEq, D.adr.injEq, D.ty.injEq, reduceCtorEq, List.cons.injEq, true_and, and_true, false_and, and_false, or_false, false_or, exists_false, if_true, if_false, Bool.not_true, Bool.not_false, Bool.false_eq_true, and_self, true_or, or_true, exists_and_left, exists_and_right, ite_true, ite_false, exists_const, exists_eq, exists_eq', decide_true, decide_false, Bool.not_true, Bool.not_false]
    refine lc_map (μ1 := []) (n1 := n) a (fun x => D.int x) (fun x => D.int (1 - x)) (fun k q => ?_) (by have := h1.2; omega) (fun x p acc J _ _ hJ => ?_) ?_
    · simp only [wSeq, wNext, wRet, wRetN, wNever, wDrop, wIfS, wAsg, gwName, dv_gtup, dv_gunl, dv_gcons, dv_gnil, wPar, wPar3, wAug, wSetO, wAugO, wApp, wVar, wC, wOp, wUn, asBl, wAnd, wOr, wNot, wAndV, wOrV, wNotV, wIf, wNil, wCons, wTup, wLst, wLstO, wCB, wCall, wCallK1, wMeth, wRel, wMk, wPen0, wPen1, wPen2, wPenS1, wPenS2, wSMeth, dv_make, wRowF, wSl, woNo, woSome, wChain, wYes, wIsi2,
    dv_add_int, dv_add_lst, dv_add_tup, dv_mul_int, dv_mul_lst, dv_mul_tup, rdMulO, dv_i0, dv_i2, rdNeg, rdSl, dv_int_int, dv_int_bl, dv_abs, dv_ne0_lst0, dv_eq0_lst0, rdList, rdListO, rdIsi, dv_eq_row, dv_ne_row, dv_eq_tup, dv_ne_tup, dv_ne_tup0, dv_eq_lst, dv_ne_lst, dv_eq_int, dv_ne_int, dv_eq0_tup, dv_eq0_int, dv_ne0_int, dv_ne0_tup, dv_mk_lst, dv_mk_tup, dv_sum_lst, dv_sum_tup, dv_tuple_lst, dv_tuple_tup, dv_len_lst, dv_len_tup, dv_all, frzL_ints,  rdIs, rdIsNot, Dp.isNon, seqOf, seqI, frz, startD, kg, isiD_non, isiD_bl, isiD_int, isiD_str, isiD_lst, isiD_tup, isiD2_non, isiD2_bl, isiD2_int, isiD2_str, isiD2_lst, isiD2_tup, kb_non_int, kb_bl_int, kb_int_int, kb_str_int, kb_lst_int, kb_tup_int, kb_non_bool, kb_bl_bool, kb_int_bool, kb_str_str, kb_int_str, kb2_non, kb2_bl, kb2_int, kb2_str, kb2_lst, kb2_tup, isi_row_int, isi_row_list, isi_row_tuple, isi_row_str, isi2_row,
    List.map_cons, List.map_nil, List.length_cons, List.length_nil, List.getElem?_cons_zero, List.getElem?_cons_succ, List.set_cons_zero, List.set_cons_succ, List.replicate_succ, List.replicate_zero, List.cons_append, List.nil_append, List.append_nil, Nat.zero_add, Nat.reduceAdd, Nat.reduceSub, List.tail_cons, wipeE, wiRng1, wiRng2, wiSeq, wiEnum, wiZip,
    exists_eq_left, exists_eq_left', exists_eq_right, exists_eq_right', Option.some.injEq, D.int.injEq, D.bl.injEq, D.str.injEq, D.lst.injEq, D.tup.injEq, D.row.injEq, D.own.injEq, D.adr.injEq, D.ty.injEq, reduceCtorEq, List.cons.injEq, true_and, and_true, false_and, and_false, or_false, false_or, exists_false, if_true, if_false, Bool.not_true, Bool.not_false, Bool.false_eq_true, and_self, true_or, or_true, exists_and_left, exists_and_right, ite_true, ite_false, exists_const, exists_eq, exists_eq', decide_true, decide_false, Bool.not_true, Bool.not_false, wiSeq, seqI]; exact q
    · simp only [wSeq, wNext, wRet, wRetN, wNever, wDrop, wIfS, wAsg, gwName, dv_gtup, dv_gunl, dv_gcons, dv_gnil, wPar, wPar3, wAug, wSetO, wAugO, wApp, wVar, wC, wOp, wUn, asBl, wAnd, wOr, wNot, wAndV, wOrV, wNotV, wIf, wNil, wCons, wTup, wLst, wLstO, wCB, wCall, wCallK1, wMeth, wRel, wMk, wPen0, wPen1, wPen2, wPenS1, wPenS2, wSMeth, dv_make, wRowF, wSl, woNo, woSome, wChain, wYes, wIsi2,
    dv_add_int, dv_add_lst, dv_add_tup, dv_mul_int, dv_mul_lst, dv_mul_tup, rdMulO, dv_i0, dv_i2, rdNeg, rdSl, dv_int_int, dv_int_bl, dv_abs, dv_ne0_lst0, dv_eq0_lst0, rdList, rdListO, rdIsi, dv_eq_row, dv_ne_row, dv_eq_tup, dv_ne_tup, dv_ne_tup0, dv_eq_lst, dv_ne_lst, dv_eq_int, dv_ne_int, dv_eq0_tup, dv_eq0_int, dv_ne0_int, dv_ne0_tup, dv_mk_lst, dv_mk_tup, dv_sum_lst, dv_sum_tup, dv_tuple_lst, dv_tuple_tup, dv_len_lst, dv_len_tup, dv_all, frzL_ints,  rdIs, rdIsNot, Dp.isNon, seqOf, seqI, frz, startD, kg, isiD_non, isiD_bl, isiD_int, isiD_str, isiD_lst, isiD_tup, isiD2_non, isiD2_bl, isiD2_int, isiD2_str, isiD2_lst, isiD2_tup, kb_non_int, kb_bl_int, kb_int_int, kb_str_int, kb_lst_int, kb_tup_int, kb_non_bool, kb_bl_bool, kb_int_bool, kb_str_str, kb_int_str, kb2_non, kb2_bl, kb2_int, kb2_str, kb2_lst, kb2_tup, isi_row_int, isi_row_list, isi_row_tuple, isi_row_str, isi2_row,
    List.map_cons, List.map_nil, List.length_cons, List.length_nil, List.getElem?_cons_zero, List.getElem?_cons_succ, List.set_cons_zero, List.set_cons_succ, List.replicate_succ, List.replicate_zero, List.cons_append, List.nil_append, List.append_nil, Nat.zero_add, Nat.reduceAdd, Nat.reduceSub, List.tail_cons, wipeE, wiRng1, wiRng2, wiSeq, wiEnum, wiZip,
    exists_eq_left, exists_eq_left', exists_eq_right, exists_eq_right', Option.some.injEq, D.int.injEq, D.bl.injEq, D.str.injEq, D.lst.injEq, D.tup.injEq, D.row.injEq, D.own.injEq, D.adr.injEq, D.ty.injEq, reduceCtorEq, List.cons.injEq, true_and, and_true, false_and, and_false, or_false, false_or, exists_false, if_true, if_false, Bool.not_true, Bool.not_false, Bool.false_eq_true, and_self, true_or, or_true, exists_and_left, exists_and_right, ite_true, ite_false, exists_const, exists_eq, exists_eq', decide_true, decide_false, Bool.not_true, Bool.not_false]; exact hJ
    · rw [show a.map (fun x => D.int (1 - x)) = (a.map fun x => 1 - x).map D.int by rw [List.map_map]; rfl]
      simp only [wSeq, wNext, wRet, wRetN, wNever, wDrop, wIfS, wAsg, gwName, dv_gtup, dv_gunl, dv_gcons, dv_gnil, wPar, wPar3, wAug, wSetO, wAugO, wApp, wVar, wC, wOp, wUn, asBl, wAnd, wOr, wNot, wAndV, wOrV, wNotV, wIf, wNil, wCons, wTup, wLst, wLstO, wCB, wCall, wCallK1, wMeth, wRel, wMk, wPen0, wPen1, wPen2, wPenS1, wPenS2, wSMeth, dv_make, wRowF, wSl, woNo, woSome, wChain, wYes, wIsi2,
    dv_add_int, dv_add_lst, dv_add_tup, dv_mul_int, dv_mul_lst, dv_mul_tup, rdMulO, dv_i0, dv_i2, rdNeg, rdSl, dv_int_int, dv_int_bl, dv_abs, dv_ne0_lst0, dv_eq0_lst0, rdList, rdListO, rdIsi, dv_eq_row, dv_ne_row, dv_eq_tup, dv_ne_tup, dv_ne_tup0, dv_eq_lst, dv_ne_lst, dv_eq_int, dv_ne_int, dv_eq0_tup, dv_eq0_int, dv_ne0_int, dv_ne0_tup, dv_mk_lst, dv_mk_tup, dv_sum_lst, dv_sum_tup, dv_tuple_lst, dv_tuple_tup, dv_len_lst, dv_len_tup, dv_all, frzL_ints,  rdIs, rdIsNot, Dp.isNon, seqOf, seqI, frz, startD, kg, isiD_non, isiD_bl, isiD_int, isiD_str, isiD_lst, isiD_tup, isiD2_non, isiD2_bl, isiD2_int, isiD2_str, isiD2_lst, isiD2_tup, kb_non_int, kb_bl_int, kb_int_int, kb_str_int, kb_lst_int, kb_tup_int, kb_non_bool, kb_bl_bool, kb_int_bool, kb_str_str, kb_int_str, kb2_non, kb2_bl, kb2_int, kb2_str, kb2_lst, kb2_tup, isi_row_int, isi_row_list, isi_row_tuple, isi_row_str, isi2_row,
    List.map_cons, List.map_nil, List.length_cons, List.length_nil, List.getElem?_cons_zero, List.getElem?_cons_succ, List.set_cons_zero, List.set_cons_succ, List.replicate_succ, List.replicate_zero, List.cons_append, List.nil_append, List.append_nil, Nat.zero_add, Nat.reduceAdd, Nat.reduceSub, List.tail_cons, wipeE, wiRng1, wiRng2, wiSeq, wiEnum, wiZip,
    exists_eq_left, exists_eq_left', exists_eq_right, exists_eq_right', Option.some.injEq, D.int.injEq, D.bl.injEq, D.str.injEq, D.lst.injEq, D.tup.injEq, D.row.injEq, D.own.injEq, D.adr.injEq, D.ty.injEq, reduceCtorEq, List.cons.injEq, true_and, and_true, false_and, and_false, or_false, false_or, exists_false, if_true, if_false, Bool.not_true, Bool.not_false, Bool.false_eq_true, and_self, true_or, or_true, exists_and_left, exists_and_right, ite_true, ite_false, exists_const, exists_eq, exists_eq', decide_true, decide_false, Bool.not_true, Bool.not_false]
      exact ⟨by simpa using h1.1, by simpa using h1.2, q⟩
  · exact h.elim
def F_times : FD
  | [.row a, .int k], n, Q => Rk a ∧ (-(2 ^ 64) < k ∧ k < 2 ^ 64) ∧ Q (.row (a.map fun x => x * k)) n
  | _, _, _ => False
theorem l_times : ∀ ds n Q, F_times ds n Q → ds.length = 2 := by intro ds n Q h; unfold F_times at h; split at h <;> first | rfl | exact h.elim
theorem ok_times (Fn : FunD c.K "times" "Row.times" (defArgs s_Row_times) (defBody s_Row_times) (defScope s_Row_times) [] [] f fd) (T : Tb c mg) (d_is_integer : Dn P w c.K mg base "is_integer" 2 ["value"] (spD c 1 F_is_integer)) (n_Row : Nd P w c.K mg base c.R "Row" 5 ["self", "numbers"] (spInit c)) : FnOk P w c.K mg base CX0 7 f fd ["self", "number"] (spD c 2 F_times) := by
  refine fn_d Fn sc_Row_times (fun cdv A outer s H E hr => ⟨_, (pss_cons (ps_if (pt_not (pt_val (pe_d d_is_integer hr (by rfl) (pa_cons (pv 1) pa_nil)))) (pss_one ps_never) pss_nil)
 (pss_one (ps_ret (pe_n n_Row hr (by rfl) (pa_cons (pe_lc (own := [("mine", 2)]) (g := gName 2) (by rfl) sc_Row_times.nd (pi_seq (fldK (K := c.K) (pv 0) (by rfl))) (blkOk_by (N := ["self", "number", "mine"]) (sc := defScope s_Row_times) (by decide +kernel)) (fun _ _ _ _ _ => (pg_name (i := 2) sc_Row_times.nd rfl (by first | exact .inl rfl | exact .inr rfl))) (fun _ _ _ _ _ => pts_nil) (fun _ _ _ _ _ => (pe_op (opMulK (K := c.K)) (pv 2) (pv 1)))) pa_nil))))), _, (sndS_seq (sndS_if (sndT_not (sndT_B (snd_call l_is_integer (sndA_cons snd_var sndA_nil)))) sndS_never sndS_next)
 (sndS_ret (snd_make (sndA_cons (snd_lc (sndI_seq (snd_numbers T.row snd_var)) sndG_name (okT_name (by decide)) sndT_yes (snd_op sndR_mul snd_var snd_var)) sndA_nil)))), fun ds n Q h hl => ?_⟩)
  unfold F_times at h
  split at h
  · rename_i a k
    obtain ⟨h1, h2, q⟩ := h
    simp only [wSeq, wNext, wRet, wRetN, wNever, wDrop, wIfS, wAsg, gwName, dv_gtup, dv_gunl, dv_gcons, dv_gnil, wPar, wPar3, wAug, wSetO, wAugO, wApp, wVar, wC, wOp, wUn, asBl, wAnd, wOr, wNot, wAndV, wOrV, wNotV, wIf, wNil, wCons, wTup, wLst, wLstO, wCB, wCall, wCallK1, wMeth, wRel, wMk, wPen0, wPen1, wPen2, wPenS1, wPenS2, wSMeth, dv_make, wRowF, wSl, woNo, woSome, wChain, wYes, wIsi2,
    dv_add_int, dv_add_lst, dv_add_tup, dv_mul_int, dv_mul_lst, dv_mul_tup, rdMulO, dv_i0, dv_i2, rdNeg, rdSl, dv_int_int, dv_int_bl, dv_abs, dv_ne0_lst0, dv_eq0_lst0, rdList, rdListO, rdIsi, dv_eq_row, dv_ne_row, dv_eq_tup, dv_ne_tup, dv_ne_tup0, dv_eq_lst, dv_ne_lst, dv_eq_int, dv_ne_int, dv_eq0_tup, dv_eq0_int, dv_ne0_int, dv_ne0_tup, dv_mk_lst, dv_mk_tup, dv_sum_lst, dv_sum_tup, dv_tuple_lst, dv_tuple_tup, dv_len_lst, dv_len_tup, dv_all, frzL_ints,  rdIs, rdIsNot, Dp.isNon, seqOf, seqI, frz, startD, kg, isiD_non, isiD_bl, isiD_int, isiD_str, isiD_lst, isiD_tup, isiD2_non, isiD2_bl, isiD2_int, isiD2_str, isiD2_lst, isiD2_tup, kb_non_int, kb_bl_int, kb_int_int, kb_str_int, kb_lst_int, kb_tup_int, kb_non_bool, kb_bl_bool, kb_int_bool, kb_str_str, kb_int_str, kb2_non, kb2_bl, kb2_int, kb2_str, kb2_lst, kb2_tup, isi_row_int, isi_row_list, isi_row_tuple, isi_row_str, isi2_row,
    List.map_cons, List.map_nil, List.length_cons, List.length_nil, List.getElem?_cons_zero, List.getElem?_cons_succ, List.set_cons_zero, List.set_cons_succ, List.replicate_succ, List.replicate_zero, List.cons_append, List.nil_append, List.append_nil, Nat.zero_add, Nat.reduceAdd, Nat.reduceSub, List.tail_cons, wipeE, wiRng1, wiRng2, wiSeq, wiEnum, wiZip,
    exists_eq_left, exists_eq_left', exists_eq_right, exists_eq_right', Option.some.injEq, D.int.injEq, D.bl.injEq, D.str.injEq, D.lst.injEq, D.tup.injEq, D.row.injEq, D.own.injEq, D.adr.injEq, D.ty.injEq, reduceCtorEq, List.cons.injEq, true_and, and_true, false_and, and_false, or_false, false_or, exists_false, if_true, if_false, Bool.not_true, Bool.not_false, Bool.false_eq_true, and_self, true_or, or_true, exists_and_left, exists_and_right, ite_true, ite_false, exists_const, exists_eq, exists_eq', decide_true, decide_false, Bool.not_true, Bool.not_false, F_is_integer]
    refine lc_map (μ1 := []) (n1 := n) a (fun x => D.int x) (fun x => D.int (x * k)) (fun k q => ?_) (by have := h1.2; omega) (fun x p acc J _ _ hJ => ?_) ?_
    · simp only [wSeq, wNext, wRet, wRetN, wNever, wDrop, wIfS, wAsg, gwName, dv_gtup, dv_gunl, dv_gcons, dv_gnil, wPar, wPar3, wAug, wSetO, wAugO, wApp, wVar, wC, wOp, wUn, asBl, wAnd, wOr, wNot, wAndV, wOrV, wNotV, wIf, wNil, wCons, wTup, wLst, wLstO, wCB, wCall, wCallK1, wMeth, wRel, wMk, wPen0, wPen1, wPen2, wPenS1, wPenS2, wSMeth, dv_make, wRowF, wSl, woNo, woSome, wChain, wYes, wIsi2,
    dv_add_int, dv_add_lst, dv_add_tup, dv_mul_int, dv_mul_lst, dv_mul_tup, rdMulO, dv_i0, dv_i2, rdNeg, rdSl, dv_int_int, dv_int_bl, dv_abs, dv_ne0_lst0, dv_eq0_lst0, rdList, rdListO, rdIsi, dv_eq_row, dv_ne_row, dv_eq_tup, dv_ne_tup, dv_ne_tup0, dv_eq_lst, dv_ne_lst, dv_eq_int, dv_ne_int, dv_eq0_tup, dv_eq0_int, dv_ne0_int, dv_ne0_tup, dv_mk_lst, dv_mk_tup, dv_sum_lst, dv_sum_tup, dv_tuple_lst, dv_tuple_tup, dv_len_lst, dv_len_tup, dv_all, frzL_ints,  rdIs, rdIsNot, Dp.isNon, seqOf, seqI, frz, startD, kg, isiD_non, isiD_bl, isiD_int, isiD_str, isiD_lst, isiD_tup, isiD2_non, isiD2_bl, isiD2_int, isiD2_str, isiD2_lst, isiD2_tup, kb_non_int, kb_bl_int, kb_int_int, kb_str_int, kb_lst_int, kb_tup_int, kb_non_bool, kb_bl_bool, kb_int_bool, kb_str_str, kb_int_str, kb2_non, kb2_bl, kb2_int, kb2_str, kb2_lst, kb2_tup, isi_row_int, isi_row_list, isi_row_tuple, isi_row_str, isi2_row,
    List.map_cons, List.map_nil, List.length_cons, List.length_nil, List.getElem?_cons_zero, List.getElem?_cons_succ, List.set_cons_zero, List.set_cons_succ, List.replicate_succ, List.replicate_zero, List.cons_append, List.nil_append, List.append_nil, Nat.zero_add, Nat.reduceAdd, Nat.reduceSub, List.tail_cons, wipeE, wiRng1, wiRng2, wiSeq, wiEnum, wiZip,
    exists_eq_left, exists_eq_left', exists_eq_right, exists_eq_right', Option.some.injEq, D.int.injEq, D.bl.injEq, D.str.injEq, D.lst.injEq, D.tup.injEq, D.row.injEq, D.own.injEq, D.adr.injEq, D.ty.injEq, reduceCtorEq, List.cons.injEq, true_and, and_true, false_and, and_false, or_false, false_or, exists_false, if_true, if_false, Bool.not_true, Bool.not_false, Bool.false_eq_true, and_self, true_or, or_true, exists_and_left, exists_and_right, ite_true, ite_false, exists_const, exists_eq, exists_eq', decide_true, decide_false, Bool.not_true, Bool.not_false, wiSeq, seqI]; exact q
    · simp only [wSeq, wNext, wRet, wRetN, wNever, wDrop, wIfS, wAsg, gwName, dv_gtup, dv_gunl, dv_gcons, dv_gnil, wPar, wPar3, wAug, wSetO, wAugO, wApp, wVar, wC, wOp, wUn, asBl, wAnd, wOr, wNot, wAndV, wOrV, wNotV, wIf, wNil, wCons, wTup, wLst, wLstO, wCB, wCall, wCallK1, wMeth, wRel, wMk, wPen0, wPen1, wPen2, wPenS1, wPenS2, wSMeth, dv_make, wRowF, wSl, woNo, woSome, wChain, wYes, wIsi2,
    dv_add_int, dv_add_lst, dv_add_tup, dv_mul_int, dv_mul_lst, dv_mul_tup, rdMulO, dv_i0, dv_i2, rdNeg, rdSl, dv_int_int, dv_int_bl, dv_abs, dv_ne0_lst0, dv_eq0_lst0, rdList, rdListO, rdIsi, dv_eq_row, dv_ne_row, dv_eq_tup, dv_ne_tup, dv_ne_tup0, dv_eq_lst, dv_ne_lst, dv_eq_int, dv_ne_int, dv_eq0_tup, dv_eq0_int, dv_ne0_int, dv_ne0_tup, dv_mk_lst, dv_mk_tup, dv_sum_lst, dv_sum_tup, dv_tuple_lst, dv_tuple_tup, dv_len_lst, dv_len_tup, dv_all, frzL_ints,  rdIs, rdIsNot, Dp.isNon, seqOf, seqI, frz, startD, kg, isiD_non, isiD_bl, isiD_int, isiD_str, isiD_lst, isiD_tup, isiD2_non, isiD2_bl, isiD2_int, isiD2_str, isiD2_lst, isiD2_tup, kb_non_int, kb_bl_int, kb_int_int, kb_str_int, kb_lst_int, kb_tup_int, kb_non_bool, kb_bl_bool, kb_int_bool, kb_str_str, kb_int_str, kb2_non, kb2_bl, kb2_int, kb2_str, kb2_lst, kb2_tup, isi_row_int, isi_row_list, isi_row_tuple, isi_row_str, isi2_row,
    List.map_cons, List.map_nil, List.length_cons, List.length_nil, List.getElem?_cons_zero, List.getElem?_cons_succ, List.set_cons_zero, List.set_cons_succ, List.replicate_succ, List.replicate_zero, List.cons_append, List.nil_append, List.append_nil, Nat.zero_add, Nat.reduceAdd, Nat.reduceSub, List.tail_cons, wipeE, wiRng1, wiRng2, wiSeq, wiEnum, wiZip,
    exists_eq_left, exists_eq_left', exists_eq_right, exists_eq_right', Option.some.injEq, D.int.injEq, D.bl.injEq, D.str.injEq, D.lst.injEq, D.tup.injEq, D.row.injEq, D.own.injEq, D.adr.injEq, D.ty.injEq, reduceCtorEq, List.cons.injEq, true_and, and_true, false_and, and_false, or_false, false_or, exists_false, if_true, if_false, Bool.not_true, Bool.not_false, Bool.false_eq_true, and_self, true_or, or_true, exists_and_left, exists_and_right, ite_true, ite_false, exists_const, exists_eq, exists_eq', decide_true, decide_false, Bool.not_true, Bool.not_false]; exact ⟨.inl (.inr h2), hJ⟩
    · rw [show a.map (fun x => D.int (x * k)) = (a.map fun x => x * k).map D.int by rw [List.map_map]; rfl]
      simp only [wSeq, wNext, wRet, wRetN, wNever, wDrop, wIfS, wAsg, gwName, dv_gtup, dv_gunl, dv_gcons, dv_gnil, wPar, wPar3, wAug, wSetO, wAugO, wApp, wVar, wC, wOp, wUn, asBl, wAnd, wOr, wNot, wAndV, wOrV, wNotV, wIf, wNil, wCons, wTup, wLst, wLstO, wCB, wCall, wCallK1, wMeth, wRel, wMk, wPen0, wPen1, wPen2, wPenS1, wPenS2, wSMeth, dv_make, wRowF, wSl, woNo, woSome, wChain, wYes, wIsi2,
    dv_add_int, dv_add_lst, dv_add_tup, dv_mul_int, dv_mul_lst, dv_mul_tup, rdMulO, dv_i0, dv_i2, rdNeg, rdSl, dv_int_int, dv_int_bl, dv_abs, dv_ne0_lst0, dv_eq0_lst0, rdList, rdListO, rdIsi, dv_eq_row, dv_ne_row, dv_eq_tup, dv_ne_tup, dv_ne_tup0, dv_eq_lst, dv_ne_lst, dv_eq_int, dv_ne_int, dv_eq0_tup, dv_eq0_int, dv_ne0_int, dv_ne0_tup, dv_mk_lst, dv_mk_tup, dv_sum_lst, dv_sum_tup, dv_tuple_lst, dv_tuple_tup, dv_len_lst, dv_len_tup, dv_all, frzL_ints,  rdIs, rdIsNot, Dp.isNon, seqOf, seqI, frz, startD, kg, isiD_non, isiD_bl, isiD_int, isiD_str, isiD_lst, isiD_tup, isiD2_non, isiD2_bl, isiD2_int, isiD2_str, isiD2_lst, isiD2_tup, kb_non_int, kb_bl_int, kb_int_int, kb_str_int, kb_lst_int, kb_tup_int, kb_non_bool, kb_bl_bool, kb_int_bool, kb_str_str, kb_int_str, kb2_non, kb2_bl, kb2_int, kb2_str, kb2_lst, kb2_tup, isi_row_int, isi_row_list, isi_row_tuple, isi_row_str, isi2_row,
    List.map_cons, List.map_nil, List.length_cons, List.length_nil, List.getElem?_cons_zero, List.getElem?_cons_succ, List.set_cons_zero, List.set_cons_succ, List.replicate_succ, List.replicate_zero, List.cons_append, List.nil_append, List.append_nil, Nat.zero_add, Nat.reduceAdd, Nat.reduceSub, List.tail_cons, wipeE, wiRng1, wiRng2, wiSeq, wiEnum, wiZip,
    exists_eq_left, exists_eq_left', exists_eq_right, exists_eq_right', Option.some.injEq, D.int.injEq, D.bl.injEq, D.str.injEq, D.lst.injEq, D.tup.injEq, D.row.injEq, D.own.injEq, D.adr.injEq, D.ty.injEq, reduceCtorEq, List.cons.injEq, true_and, and_true, false_and, and_false, or_false, false_or, exists_false, if_true, if_false, Bool.not_true, Bool.not_false, Bool.false_eq_true, and_self, true_or, or_true, exists_and_left, exists_and_right, ite_true, ite_false, exists_const, exists_eq, exists_eq', decide_true, decide_false, Bool.not_true, Bool.not_false]
      exact ⟨by simpa using h1.1, by simpa using h1.2, q⟩
  · exact h.elim
def F_added : FD
  | [.row a, .row b], n, Q => Rk a ∧ a.length = b.length ∧ Q (.row (List.zipWith (· + ·) a b)) n
  | _, _, _ => False
theorem l_added : ∀ ds n Q, F_added ds n Q → ds.length = 2 := by intro ds n Q h; unfold F_added at h; split at h <;> first | rfl | exact h.elim
theorem ok_added (Fn : FunD c.K "added" "Row.added" (defArgs s_Row_added) (defBody s_Row_added) (defScope s_Row_added) [] [] f fd) (T : Tb c mg) (d_need_row : Dn P w c.K mg base "need_row" 2 ["value", "part"] (spD c 2 F_need_row)) (d_need_same_beats : Dn P w c.K mg base "need_same_beats" 2 ["one", "other"] (spD c 2 F_need_same_beats)) (n_Row : Nd P w c.K mg base c.R "Row" 5 ["self", "numbers"] (spInit c)) : FnOk P w c.K mg base CX0 7 f fd ["self", "other"] (spD c 2 F_added) := by
  refine fn_d Fn sc_Row_added (fun cdv A outer s H E hr => ⟨_, (pss_cons (ps_expr (pe_d d_need_row hr (by rfl) (pa_cons (pv 1) (pa_cons pe_str pa_nil))))
 (pss_cons (ps_expr (pe_d d_need_same_beats hr (by rfl) (pa_cons (pv 0) (pa_cons (pv 1) pa_nil))))
 (pss_one (ps_ret (pe_n n_Row hr (by rfl) (pa_cons (pe_lc (own := [("mine", 2), ("its", 3)]) (g := gTup _ 2 (gCons (gName 2) (gCons (gName 3) gNil))) (by rfl) sc_Row_added.nd (RZ.pi_zipA (by rfl) T.b_zip (pa_cons (fldK (K := c.K) (pv 0) (by rfl)) (pa_cons (fldK (K := c.K) (pv 1) (by rfl)) pa_nil))) (blkOk_by (N := ["self", "other", "mine", "its"]) (sc := defScope s_Row_added) (by decide +kernel)) (fun _ _ _ _ _ => (pg_tup rfl (pgs_cons (pg_name (i := 2) sc_Row_added.nd rfl (by first | exact .inl rfl | exact .inr rfl)) (pgs_cons (pg_name (i := 3) sc_Row_added.nd rfl (by first | exact .inl rfl | exact .inr rfl)) pgs_nil)))) (fun _ _ _ _ _ => pts_nil) (fun _ _ _ _ _ => (pe_op (opAddK (K := c.K)) (pv 2) (pv 3)))) pa_nil)))))), _, (sndS_seq (sndS_drop (snd_call l_need_row (sndA_cons snd_var (sndA_cons snd_str sndA_nil))))
 (sndS_seq (sndS_drop (snd_call l_need_same_beats (sndA_cons snd_var (sndA_cons snd_var sndA_nil))))
 (sndS_ret (snd_make (sndA_cons (snd_lc (sndI_zip (sndA_cons (snd_numbers T.row snd_var) (sndA_cons (snd_numbers T.row snd_var) sndA_nil))) (sndG_tup (sndGs_cons sndG_name (sndGs_cons sndG_name sndGs_nil))) (okT_pair (by decide) (by decide)) sndT_yes (snd_op sndR_add snd_var snd_var)) sndA_nil))))), fun ds n Q h hl => ?_⟩)
  unfold F_added at h
  split at h
  · rename_i a b
    obtain ⟨h1, h2, q⟩ := h
    simp only [wSeq, wNext, wRet, wRetN, wNever, wDrop, wIfS, wAsg, gwName, dv_gtup, dv_gunl, dv_gcons, dv_gnil, wPar, wPar3, wAug, wSetO, wAugO, wApp, wVar, wC, wOp, wUn, asBl, wAnd, wOr, wNot, wAndV, wOrV, wNotV, wIf, wNil, wCons, wTup, wLst, wLstO, wCB, wCall, wCallK1, wMeth, wRel, wMk, wPen0, wPen1, wPen2, wPenS1, wPenS2, wSMeth, dv_make, wRowF, wSl, woNo, woSome, wChain, wYes, wIsi2,
    dv_add_int, dv_add_lst, dv_add_tup, dv_mul_int, dv_mul_lst, dv_mul_tup, rdMulO, dv_i0, dv_i2, rdNeg, rdSl, dv_int_int, dv_int_bl, dv_abs, dv_ne0_lst0, dv_eq0_lst0, rdList, rdListO, rdIsi, dv_eq_row, dv_ne_row, dv_eq_tup, dv_ne_tup, dv_ne_tup0, dv_eq_lst, dv_ne_lst, dv_eq_int, dv_ne_int, dv_eq0_tup, dv_eq0_int, dv_ne0_int, dv_ne0_tup, dv_mk_lst, dv_mk_tup, dv_sum_lst, dv_sum_tup, dv_tuple_lst, dv_tuple_tup, dv_len_lst, dv_len_tup, dv_all, frzL_ints,  rdIs, rdIsNot, Dp.isNon, seqOf, seqI, frz, startD, kg, isiD_non, isiD_bl, isiD_int, isiD_str, isiD_lst, isiD_tup, isiD2_non, isiD2_bl, isiD2_int, isiD2_str, isiD2_lst, isiD2_tup, kb_non_int, kb_bl_int, kb_int_int, kb_str_int, kb_lst_int, kb_tup_int, kb_non_bool, kb_bl_bool, kb_int_bool, kb_str_str, kb_int_str, kb2_non, kb2_bl, kb2_int, kb2_str, kb2_lst, kb2_tup, isi_row_int, isi_row_list, isi_row_tuple, isi_row_str, isi2_row,
    List.map_cons, List.map_nil, List.length_cons, List.length_nil, List.getElem?_cons_zero, List.getElem?_cons_succ, List.set_cons_zero, List.set_cons_succ, List.replicate_succ, List.replicate_zero, List.cons_append, List.nil_append, List.append_nil, Nat.zero_add, Nat.reduceAdd, Nat.reduceSub, List.tail_cons, wipeE, wiRng1, wiRng2, wiSeq, wiEnum, wiZip,
    exists_eq_left, exists_eq_left', exists_eq_right, exists_eq_right', Option.some.injEq, D.int.injEq, D.bl.injEq, D.str.injEq, D.lst.injEq, D.tup.injEq, D.row.injEq, D.own.injEq, D.adr.injEq, D.ty.injEq, reduceCtorEq, List.cons.injEq, true_and, and_true, false_and, and_false, or_false, false_or, exists_false, if_true, if_false, Bool.not_true, Bool.not_false, Bool.false_eq_true, and_self, true_or, or_true, exists_and_left, exists_and_right, ite_true, ite_false, exists_const, exists_eq, exists_eq', decide_true, decide_false, Bool.not_true, Bool.not_false, F_need_row, F_need_same_beats, h2]
    refine lc_map (μ1 := []) (n1 := n) (a.zip b) (fun e => .tup [.int e.1, .int e.2]) (fun e => .int (e.1 + e.2)) (fun k q => ?_) (by have := h1.2; simp; omega) (fun x p acc J _ _ hJ => ?_) ?_
    · simp only [wSeq, wNext, wRet, wRetN, wNever, wDrop, wIfS, wAsg, gwName, dv_gtup, dv_gunl, dv_gcons, dv_gnil, wPar, wPar3, wAug, wSetO, wAugO, wApp, wVar, wC, wOp, wUn, asBl, wAnd, wOr, wNot, wAndV, wOrV, wNotV, wIf, wNil, wCons, wTup, wLst, wLstO, wCB, wCall, wCallK1, wMeth, wRel, wMk, wPen0, wPen1, wPen2, wPenS1, wPenS2, wSMeth, dv_make, wRowF, wSl, woNo, woSome, wChain, wYes, wIsi2,
    dv_add_int, dv_add_lst, dv_add_tup, dv_mul_int, dv_mul_lst, dv_mul_tup, rdMulO, dv_i0, dv_i2, rdNeg, rdSl, dv_int_int, dv_int_bl, dv_abs, dv_ne0_lst0, dv_eq0_lst0, rdList, rdListO, rdIsi, dv_eq_row, dv_ne_row, dv_eq_tup, dv_ne_tup, dv_ne_tup0, dv_eq_lst, dv_ne_lst, dv_eq_int, dv_ne_int, dv_eq0_tup, dv_eq0_int, dv_ne0_int, dv_ne0_tup, dv_mk_lst, dv_mk_tup, dv_sum_lst, dv_sum_tup, dv_tuple_lst, dv_tuple_tup, dv_len_lst, dv_len_tup, dv_all, frzL_ints,  rdIs, rdIsNot, Dp.isNon, seqOf, seqI, frz, startD, kg, isiD_non, isiD_bl, isiD_int, isiD_str, isiD_lst, isiD_tup, isiD2_non, isiD2_bl, isiD2_int, isiD2_str, isiD2_lst, isiD2_tup, kb_non_int, kb_bl_int, kb_int_int, kb_str_int, kb_lst_int, kb_tup_int, kb_non_bool, kb_bl_bool, kb_int_bool, kb_str_str, kb_int_str, kb2_non, kb2_bl, kb2_int, kb2_str, kb2_lst, kb2_tup, isi_row_int, isi_row_list, isi_row_tuple, isi_row_str, isi2_row,
    List.map_cons, List.map_nil, List.length_cons, List.length_nil, List.getElem?_cons_zero, List.getElem?_cons_succ, List.set_cons_zero, List.set_cons_succ, List.replicate_succ, List.replicate_zero, List.cons_append, List.nil_append, List.append_nil, Nat.zero_add, Nat.reduceAdd, Nat.reduceSub, List.tail_cons, wipeE, wiRng1, wiRng2, wiSeq, wiEnum, wiZip,
    exists_eq_left, exists_eq_left', exists_eq_right, exists_eq_right', Option.some.injEq, D.int.injEq, D.bl.injEq, D.str.injEq, D.lst.injEq, D.tup.injEq, D.row.injEq, D.own.injEq, D.adr.injEq, D.ty.injEq, reduceCtorEq, List.cons.injEq, true_and, and_true, false_and, and_false, or_false, false_or, exists_false, if_true, if_false, Bool.not_true, Bool.not_false, Bool.false_eq_true, and_self, true_or, or_true, exists_and_left, exists_and_right, ite_true, ite_false, exists_const, exists_eq, exists_eq', decide_true, decide_false, Bool.not_true, Bool.not_false, wiZip]
      exact ⟨_, _, ⟨rfl, rfl⟩, by rw [zip_ints h2]; exact q⟩
    · simp only [wSeq, wNext, wRet, wRetN, wNever, wDrop, wIfS, wAsg, gwName, dv_gtup, dv_gunl, dv_gcons, dv_gnil, wPar, wPar3, wAug, wSetO, wAugO, wApp, wVar, wC, wOp, wUn, asBl, wAnd, wOr, wNot, wAndV, wOrV, wNotV, wIf, wNil, wCons, wTup, wLst, wLstO, wCB, wCall, wCallK1, wMeth, wRel, wMk, wPen0, wPen1, wPen2, wPenS1, wPenS2, wSMeth, dv_make, wRowF, wSl, woNo, woSome, wChain, wYes, wIsi2,
    dv_add_int, dv_add_lst, dv_add_tup, dv_mul_int, dv_mul_lst, dv_mul_tup, rdMulO, dv_i0, dv_i2, rdNeg, rdSl, dv_int_int, dv_int_bl, dv_abs, dv_ne0_lst0, dv_eq0_lst0, rdList, rdListO, rdIsi, dv_eq_row, dv_ne_row, dv_eq_tup, dv_ne_tup, dv_ne_tup0, dv_eq_lst, dv_ne_lst, dv_eq_int, dv_ne_int, dv_eq0_tup, dv_eq0_int, dv_ne0_int, dv_ne0_tup, dv_mk_lst, dv_mk_tup, dv_sum_lst, dv_sum_tup, dv_tuple_lst, dv_tuple_tup, dv_len_lst, dv_len_tup, dv_all, frzL_ints,  rdIs, rdIsNot, Dp.isNon, seqOf, seqI, frz, startD, kg, isiD_non, isiD_bl, isiD_int, isiD_str, isiD_lst, isiD_tup, isiD2_non, isiD2_bl, isiD2_int, isiD2_str, isiD2_lst, isiD2_tup, kb_non_int, kb_bl_int, kb_int_int, kb_str_int, kb_lst_int, kb_tup_int, kb_non_bool, kb_bl_bool, kb_int_bool, kb_str_str, kb_int_str, kb2_non, kb2_bl, kb2_int, kb2_str, kb2_lst, kb2_tup, isi_row_int, isi_row_list, isi_row_tuple, isi_row_str, isi2_row,
    List.map_cons, List.map_nil, List.length_cons, List.length_nil, List.getElem?_cons_zero, List.getElem?_cons_succ, List.set_cons_zero, List.set_cons_succ, List.replicate_succ, List.replicate_zero, List.cons_append, List.nil_append, List.append_nil, Nat.zero_add, Nat.reduceAdd, Nat.reduceSub, List.tail_cons, wipeE, wiRng1, wiRng2, wiSeq, wiEnum, wiZip,
    exists_eq_left, exists_eq_left', exists_eq_right, exists_eq_right', Option.some.injEq, D.int.injEq, D.bl.injEq, D.str.injEq, D.lst.injEq, D.tup.injEq, D.row.injEq, D.own.injEq, D.adr.injEq, D.ty.injEq, reduceCtorEq, List.cons.injEq, true_and, and_true, false_and, and_false, or_false, false_or, exists_false, if_true, if_false, Bool.not_true, Bool.not_false, Bool.false_eq_true, and_self, true_or, or_true, exists_and_left, exists_and_right, ite_true, ite_false, exists_const, exists_eq, exists_eq', decide_true, decide_false, Bool.not_true, Bool.not_false]; exact hJ
    · rw [zip_sum]
      simp only [wSeq, wNext, wRet, wRetN, wNever, wDrop, wIfS, wAsg, gwName, dv_gtup, dv_gunl, dv_gcons, dv_gnil, wPar, wPar3, wAug, wSetO, wAugO, wApp, wVar, wC, wOp, wUn, asBl, wAnd, wOr, wNot, wAndV, wOrV, wNotV, wIf, wNil, wCons, wTup, wLst, wLstO, wCB, wCall, wCallK1, wMeth, wRel, wMk, wPen0, wPen1, wPen2, wPenS1, wPenS2, wSMeth, dv_make, wRowF, wSl, woNo, woSome, wChain, wYes, wIsi2,
    dv_add_int, dv_add_lst, dv_add_tup, dv_mul_int, dv_mul_lst, dv_mul_tup, rdMulO, dv_i0, dv_i2, rdNeg, rdSl, dv_int_int, dv_int_bl, dv_abs, dv_ne0_lst0, dv_eq0_lst0, rdList, rdListO, rdIsi, dv_eq_row, dv_ne_row, dv_eq_tup, dv_ne_tup, dv_ne_tup0, dv_eq_lst, dv_ne_lst, dv_eq_int, dv_ne_int, dv_eq0_tup, dv_eq0_int, dv_ne0_int, dv_ne0_tup, dv_mk_lst, dv_mk_tup, dv_sum_lst, dv_sum_tup, dv_tuple_lst, dv_tuple_tup, dv_len_lst, dv_len_tup, dv_all, frzL_ints,  rdIs, rdIsNot, Dp.isNon, seqOf, seqI, frz, startD, kg, isiD_non, isiD_bl, isiD_int, isiD_str, isiD_lst, isiD_tup, isiD2_non, isiD2_bl, isiD2_int, isiD2_str, isiD2_lst, isiD2_tup, kb_non_int, kb_bl_int, kb_int_int, kb_str_int, kb_lst_int, kb_tup_int, kb_non_bool, kb_bl_bool, kb_int_bool, kb_str_str, kb_int_str, kb2_non, kb2_bl, kb2_int, kb2_str, kb2_lst, kb2_tup, isi_row_int, isi_row_list, isi_row_tuple, isi_row_str, isi2_row,
    List.map_cons, List.map_nil, List.length_cons, List.length_nil, List.getElem?_cons_zero, List.getElem?_cons_succ, List.set_cons_zero, List.set_cons_succ, List.replicate_succ, List.replicate_zero, List.cons_append, List.nil_append, List.append_nil, Nat.zero_add, Nat.reduceAdd, Nat.reduceSub, List.tail_cons, wipeE, wiRng1, wiRng2, wiSeq, wiEnum, wiZip,
    exists_eq_left, exists_eq_left', exists_eq_right, exists_eq_right', Option.some.injEq, D.int.injEq, D.bl.injEq, D.str.injEq, D.lst.injEq, D.tup.injEq, D.row.injEq, D.own.injEq, D.adr.injEq, D.ty.injEq, reduceCtorEq, List.cons.injEq, true_and, and_true, false_and, and_false, or_false, false_or, exists_false, if_true, if_false, Bool.not_true, Bool.not_false, Bool.false_eq_true, and_self, true_or, or_true, exists_and_left, exists_and_right, ite_true, ite_false, exists_const, exists_eq, exists_eq', decide_true, decide_false, Bool.not_true, Bool.not_false]
      have := h1.1
      have := h1.2
      exact ⟨by rw [List.length_zipWith]; omega, by rw [List.length_zipWith]; omega, q⟩
  · exact h.elim
def F_turned : FD
  | [.row a, .int t], n, Q => Rk a ∧ Q (.row (tab a.length fun k => nt a (((k : Int) - t) % (a.length : Int)).toNat)) n
  | _, _, _ => False
theorem l_turned : ∀ ds n Q, F_turned ds n Q → ds.length = 2 := by intro ds n Q h; unfold F_turned at h; split at h <;> first | rfl | exact h.elim
theorem ok_turned (Fn : FunD c.K "turned" "Row.turned" (defArgs s_Row_turned) (defBody s_Row_turned) (defScope s_Row_turned) [] [] f fd) (T : Tb c mg) (d_is_integer : Dn P w c.K mg base "is_integer" 2 ["value"] (spD c 1 F_is_integer)) (n_Row : Nd P w c.K mg base c.R "Row" 5 ["self", "numbers"] (spInit c)) : FnOk P w c.K mg base CX0 7 f fd ["self", "by"] (spD c 2 F_turned) := by
  refine fn_d Fn sc_Row_turned (fun cdv A outer s H E hr => ⟨_, (pss_cons (ps_if (pt_not (pt_val (pe_d d_is_integer hr (by rfl) (pa_cons (pv 1) pa_nil)))) (pss_one ps_never) pss_nil)
 (pss_cons (ps_set (i := 2) sc_Row_turned.nd rfl (by first | exact .inl rfl | exact .inr rfl) (pe_op opSub (fldK (K := c.K) (pv 0) (by rfl)) (pe_op opMod (pv 1) (fldK (K := c.K) (pv 0) (by rfl)))))
 (pss_one (ps_ret (pe_n n_Row hr (by rfl) (pa_cons (pe_op (opAddK (K := c.K)) (pe_slice (slK (K := c.K)) (fldK (K := c.K) (pv 0) (by rfl)) (po_some (pv 2)) po_none) (pe_slice (slK (K := c.K)) (fldK (K := c.K) (pv 0) (by rfl)) po_none (po_some (pv 2)))) pa_nil)))))), _, (sndS_seq (sndS_if (sndT_not (sndT_B (snd_call l_is_integer (sndA_cons snd_var sndA_nil)))) sndS_never sndS_next)
 (sndS_seq (sndS_asg (snd_op sndR_sub (snd_many T.row snd_var) (snd_op sndR_mod snd_var (snd_many T.row snd_var))) sndG_name)
 (sndS_ret (snd_make (sndA_cons (snd_op sndR_add (snd_sl (snd_numbers T.row snd_var) (sndO_some snd_var) sndO_no) (snd_sl (snd_numbers T.row snd_var) sndO_no (sndO_some snd_var))) sndA_nil))))), fun ds n Q h hl => ?_⟩)
  unfold F_turned at h
  split at h
  · rename_i a t
    obtain ⟨h1, q⟩ := h
    simp only [wSeq, wNext, wRet, wRetN, wNever, wDrop, wIfS, wAsg, gwName, dv_gtup, dv_gunl, dv_gcons, dv_gnil, wPar, wPar3, wAug, wSetO, wAugO, wApp, wVar, wC, wOp, wUn, asBl, wAnd, wOr, wNot, wAndV, wOrV, wNotV, wIf, wNil, wCons, wTup, wLst, wLstO, wCB, wCall, wCallK1, wMeth, wRel, wMk, wPen0, wPen1, wPen2, wPenS1, wPenS2, wSMeth, dv_make, wRowF, wSl, woNo, woSome, wChain, wYes, wIsi2,
    dv_add_int, dv_add_lst, dv_add_tup, dv_mul_int, dv_mul_lst, dv_mul_tup, rdMulO, dv_i0, dv_i2, rdNeg, rdSl, dv_int_int, dv_int_bl, dv_abs, dv_ne0_lst0, dv_eq0_lst0, rdList, rdListO, rdIsi, dv_eq_row, dv_ne_row, dv_eq_tup, dv_ne_tup, dv_ne_tup0, dv_eq_lst, dv_ne_lst, dv_eq_int, dv_ne_int, dv_eq0_tup, dv_eq0_int, dv_ne0_int, dv_ne0_tup, dv_mk_lst, dv_mk_tup, dv_sum_lst, dv_sum_tup, dv_tuple_lst, dv_tuple_tup, dv_len_lst, dv_len_tup, dv_all, frzL_ints,  rdIs, rdIsNot, Dp.isNon, seqOf, seqI, frz, startD, kg, isiD_non, isiD_bl, isiD_int, isiD_str, isiD_lst, isiD_tup, isiD2_non, isiD2_bl, isiD2_int, isiD2_str, isiD2_lst, isiD2_tup, kb_non_int, kb_bl_int, kb_int_int, kb_str_int, kb_lst_int, kb_tup_int, kb_non_bool, kb_bl_bool, kb_int_bool, kb_str_str, kb_int_str, kb2_non, kb2_bl, kb2_int, kb2_str, kb2_lst, kb2_tup, isi_row_int, isi_row_list, isi_row_tuple, isi_row_str, isi2_row,
    List.map_cons, List.map_nil, List.length_cons, List.length_nil, List.getElem?_cons_zero, List.getElem?_cons_succ, List.set_cons_zero, List.set_cons_succ, List.replicate_succ, List.replicate_zero, List.cons_append, List.nil_append, List.append_nil, Nat.zero_add, Nat.reduceAdd, Nat.reduceSub, List.tail_cons, wipeE, wiRng1, wiRng2, wiSeq, wiEnum, wiZip,
    exists_eq_left, exists_eq_left', exists_eq_right, exists_eq_right', Option.some.injEq, D.int.injEq, D.bl.injEq, D.str.injEq, D.lst.injEq, D.tup.injEq, D.row.injEq, D.own.injEq, D.adr.injEq, D.ty.injEq, reduceCtorEq, List.cons.injEq, true_and, and_true, false_and, and_false, or_false, false_or, exists_false, if_true, if_false, Bool.not_true, Bool.not_false, Bool.false_eq_true, and_self, true_or, or_true, exists_and_left, exists_and_right, ite_true, ite_false, exists_const, exists_eq, exists_eq', decide_true, decide_false, Bool.not_true, Bool.not_false, F_is_integer]
    have h24 := h1.2
    have h02 := h1.1
    rw [cut_ints, cut_ints, ← List.map_append]
    have hr0 := Int.emod_nonneg t (show (a.length : Int) ≠ 0 by omega)
    have hr1 := Int.emod_lt_of_pos t (show (0 : Int) < (a.length : Int) by omega)
    obtain ⟨r, hr⟩ : ∃ r : Nat, t % (a.length : Int) = r := ⟨(t % (a.length : Int)).toNat, by omega⟩
    rw [hr] at hr0 hr1 ⊢
    rw [show ((a.length : Int) - (r : Int)) = ((a.length - r : Nat) : Int) by omega, HT.sIx_nat, HT.sIx_nat, HT.sIx_none, HT.sIx_none]
    rw [show (((a.drop (min (a.length - r) a.length)).take (a.length - min (a.length - r) a.length)) ++ ((a.drop 0).take (min (a.length - r) a.length - 0))) = tab a.length fun k => nt a (((k : Int) - t) % (a.length : Int)).toNat from ?_]
    · simp only [wSeq, wNext, wRet, wRetN, wNever, wDrop, wIfS, wAsg, gwName, dv_gtup, dv_gunl, dv_gcons, dv_gnil, wPar, wPar3, wAug, wSetO, wAugO, wApp, wVar, wC, wOp, wUn, asBl, wAnd, wOr, wNot, wAndV, wOrV, wNotV, wIf, wNil, wCons, wTup, wLst, wLstO, wCB, wCall, wCallK1, wMeth, wRel, wMk, wPen0, wPen1, wPen2, wPenS1, wPenS2, wSMeth, dv_make, wRowF, wSl, woNo, woSome, wChain, wYes, wIsi2,
    dv_add_int, dv_add_lst, dv_add_tup, dv_mul_int, dv_mul_lst, dv_mul_tup, rdMulO, dv_i0, dv_i2, rdNeg, rdSl, dv_int_int, dv_int_bl, dv_abs, dv_ne0_lst0, dv_eq0_lst0, rdList, rdListO, rdIsi, dv_eq_row, dv_ne_row, dv_eq_tup, dv_ne_tup, dv_ne_tup0, dv_eq_lst, dv_ne_lst, dv_eq_int, dv_ne_int, dv_eq0_tup, dv_eq0_int, dv_ne0_int, dv_ne0_tup, dv_mk_lst, dv_mk_tup, dv_sum_lst, dv_sum_tup, dv_tuple_lst, dv_tuple_tup, dv_len_lst, dv_len_tup, dv_all, frzL_ints,  rdIs, rdIsNot, Dp.isNon, seqOf, seqI, frz, startD, kg, isiD_non, isiD_bl, isiD_int, isiD_str, isiD_lst, isiD_tup, isiD2_non, isiD2_bl, isiD2_int, isiD2_str, isiD2_lst, isiD2_tup, kb_non_int, kb_bl_int, kb_int_int, kb_str_int, kb_lst_int, kb_tup_int, kb_non_bool, kb_bl_bool, kb_int_bool, kb_str_str, kb_int_str, kb2_non, kb2_bl, kb2_int, kb2_str, kb2_lst, kb2_tup, isi_row_int, isi_row_list, isi_row_tuple, isi_row_str, isi2_row,
    List.map_cons, List.map_nil, List.length_cons, List.length_nil, List.getElem?_cons_zero, List.getElem?_cons_succ, List.set_cons_zero, List.set_cons_succ, List.replicate_succ, List.replicate_zero, List.cons_append, List.nil_append, List.append_nil, Nat.zero_add, Nat.reduceAdd, Nat.reduceSub, List.tail_cons, wipeE, wiRng1, wiRng2, wiSeq, wiEnum, wiZip,
    exists_eq_left, exists_eq_left', exists_eq_right, exists_eq_right', Option.some.injEq, D.int.injEq, D.bl.injEq, D.str.injEq, D.lst.injEq, D.tup.injEq, D.row.injEq, D.own.injEq, D.adr.injEq, D.ty.injEq, reduceCtorEq, List.cons.injEq, true_and, and_true, false_and, and_false, or_false, false_or, exists_false, if_true, if_false, Bool.not_true, Bool.not_false, Bool.false_eq_true, and_self, true_or, or_true, exists_and_left, exists_and_right, ite_true, ite_false, exists_const, exists_eq, exists_eq', decide_true, decide_false, Bool.not_true, Bool.not_false]
      exact ⟨by omega, by simp; omega, by rw [tab_len]; exact h1.1, by rw [tab_len]; exact h1.2, q⟩
    · rw [Nat.min_eq_left (by omega)]
      refine List.ext_getElem? fun k => ?_
      have e : ∀ k : Nat, ((k : Int) - t) % (a.length : Int) = ((k : Int) - r) % (a.length : Int) := fun k => by rw [← hr, Int.sub_emod_emod]
      rcases Nat.lt_or_ge k a.length with hk | hk
      · rw [tab_get hk, e k]
        by_cases c : k < r
        · rw [List.getElem?_append_left (by simp; omega), List.getElem?_take, if_pos (by omega), List.getElem?_drop, nt_lt (by omega)]
          congr 2
          rw [show (k : Int) - r = ((a.length - r + k : Nat) : Int) + (a.length : Int) * (-1) by omega, Int.add_mul_emod_self_left, Int.emod_eq_of_lt (by omega) (by omega)]; omega
        · rw [List.getElem?_append_right (by simp; omega), List.getElem?_take, if_pos (by simp; omega), List.getElem?_drop, nt_lt (by simp; omega)]
          congr 2
          rw [Int.emod_eq_of_lt (by omega) (by omega)]; simp; omega
      · rw [List.getElem?_eq_none (by simp; omega), List.getElem?_eq_none (by simp; omega)]
  · exact h.elim
def F_ring_product : FD
  | [.tup xs, .tup ys], n, Q => ∃ a b : List Int, xs = a.map D.int ∧ ys = b.map D.int ∧ Rk a ∧ a.length = b.length ∧ ((∀ x ∈ a, -(2 ^ 64) < x ∧ x < 2 ^ 64) ∨ ∀ x ∈ b, -(2 ^ 64) < x ∧ x < 2 ^ 64) ∧ Q (.lst ((rp a b).map D.int)) n
  | _, _, _ => False
theorem l_ring_product : ∀ ds n Q, F_ring_product ds n Q → ds.length = 2 := by intro ds n Q h; unfold F_ring_product at h; split at h <;> first | rfl | exact h.elim
theorem ok_ring_product (Fn : FunD c.K "ring_product" "ring_product" (defArgs s_ring_product) (defBody s_ring_product) (defScope s_ring_product) [] [] f fd) (T : Tb c mg) : FnOk P w c.K mg base CX0 2 f fd ["one", "other"] (spD c 2 F_ring_product) := by
  refine fn_d Fn sc_ring_product (fun cdv A outer s H E hr => ⟨_, (pss_cons (ps_set (i := 2) sc_ring_product.nd rfl (by first | exact .inl rfl | exact .inr rfl) (pe_callB (lenK (K := c.K)) (by rfl) T.b_len (by decide +kernel) (pa_cons (pv 0) pa_nil)))
 (pss_cons (ps_set (i := 3) sc_ring_product.nd rfl (by first | exact .inl rfl | exact .inr rfl) (pe_op (opMulK (K := c.K)) (pe_lst (pa_cons pe_int pa_nil)) (pv 2)))
 (pss_cons (ps_for PassesOwn.never rfl (pi_enumA (by rfl) T.b_enumerate (pa_cons (pv 0) pa_nil)) (pg_tup rfl (pgs_cons (pg_name (i := 4) sc_ring_product.nd rfl (by first | exact .inl rfl | exact .inr rfl)) (pgs_cons (pg_name (i := 5) sc_ring_product.nd rfl (by first | exact .inl rfl | exact .inr rfl)) pgs_nil)))
 (pss_one (ps_if (pt_cmpR (ne0K (K := c.K) hr) (pv 5) pe_int (nomark _)) (pss_one (ps_for PassesOwn.never rfl (pi_range1 (by rfl) T.b_range (pa_cons (pv 2) pa_nil)) (pg_name (i := 6) sc_ring_product.nd rfl (by first | exact .inl rfl | exact .inr rfl))
 (pss_one (ps_augS (pv 3) (pe_op opMod (pe_op (opAddK (K := c.K)) (pv 4) (pv 6)) (pv 2)) get_list (pe_op (opMulK (K := c.K)) (pv 5) (pe_ix (ixK (K := c.K)) (pv 1) (pv 6) (fun _ _ => rfl))) ip_add set_list)))) pss_nil)))
 (pss_one (ps_ret (pv 3)))))), _, (sndS_seq (sndS_asg (snd_cb sndC_len (sndA_cons snd_var sndA_nil)) sndG_name)
 (sndS_seq (sndS_asg (snd_op sndR_mulO (snd_lst (sndA_cons snd_int sndA_nil)) snd_var) sndG_name)
 (sndS_seq (sndS_for (sndI_enum (sndA_cons snd_var sndA_nil)) (sndG_tup (sndGs_cons sndG_name (sndGs_cons sndG_name sndGs_nil))) (sndS_if (sndT_test (snd_op sndR_ne0 snd_var snd_int)) (sndS_for (sndI_rng1 (sndA_cons snd_var sndA_nil)) sndG_name (sndS_augO snd_var (snd_op sndR_mod (snd_op sndR_add snd_var snd_var) snd_var) (snd_op sndR_mul snd_var (snd_op sndR_ix snd_var snd_var)))) sndS_next))
 (sndS_ret snd_var)))), fun ds n Q h hl => ?_⟩)
  unfold F_ring_product at h
  split at h
  · rename_i xs ys
    obtain ⟨a, b, rfl, rfl, h1, h2, h3, q⟩ := h
    simp only [wSeq, wNext, wRet, wRetN, wNever, wDrop, wIfS, wAsg, gwName, dv_gtup, dv_gunl, dv_gcons, dv_gnil, wPar, wPar3, wAug, wSetO, wAugO, wApp, wVar, wC, wOp, wUn, asBl, wAnd, wOr, wNot, wAndV, wOrV, wNotV, wIf, wNil, wCons, wTup, wLst, wLstO, wCB, wCall, wCallK1, wMeth, wRel, wMk, wPen0, wPen1, wPen2, wPenS1, wPenS2, wSMeth, dv_make, wRowF, wSl, woNo, woSome, wChain, wYes, wIsi2,
    dv_add_int, dv_add_lst, dv_add_tup, dv_mul_int, dv_mul_lst, dv_mul_tup, rdMulO, dv_i0, dv_i2, rdNeg, rdSl, dv_int_int, dv_int_bl, dv_abs, dv_ne0_lst0, dv_eq0_lst0, rdList, rdListO, rdIsi, dv_eq_row, dv_ne_row, dv_eq_tup, dv_ne_tup, dv_ne_tup0, dv_eq_lst, dv_ne_lst, dv_eq_int, dv_ne_int, dv_eq0_tup, dv_eq0_int, dv_ne0_int, dv_ne0_tup, dv_mk_lst, dv_mk_tup, dv_sum_lst, dv_sum_tup, dv_tuple_lst, dv_tuple_tup, dv_len_lst, dv_len_tup, dv_all, frzL_ints,  rdIs, rdIsNot, Dp.isNon, seqOf, seqI, frz, startD, kg, isiD_non, isiD_bl, isiD_int, isiD_str, isiD_lst, isiD_tup, isiD2_non, isiD2_bl, isiD2_int, isiD2_str, isiD2_lst, isiD2_tup, kb_non_int, kb_bl_int, kb_int_int, kb_str_int, kb_lst_int, kb_tup_int, kb_non_bool, kb_bl_bool, kb_int_bool, kb_str_str, kb_int_str, kb2_non, kb2_bl, kb2_int, kb2_str, kb2_lst, kb2_tup, isi_row_int, isi_row_list, isi_row_tuple, isi_row_str, isi2_row,
    List.map_cons, List.map_nil, List.length_cons, List.length_nil, List.getElem?_cons_zero, List.getElem?_cons_succ, List.set_cons_zero, List.set_cons_succ, List.replicate_succ, List.replicate_zero, List.cons_append, List.nil_append, List.append_nil, Nat.zero_add, Nat.reduceAdd, Nat.reduceSub, List.tail_cons, wipeE, wiRng1, wiRng2, wiSeq, wiEnum, wiZip,
    exists_eq_left, exists_eq_left', exists_eq_right, exists_eq_right', Option.some.injEq, D.int.injEq, D.bl.injEq, D.str.injEq, D.lst.injEq, D.tup.injEq, D.row.injEq, D.own.injEq, D.adr.injEq, D.ty.injEq, reduceCtorEq, List.cons.injEq, true_and, and_true, false_and, and_false, or_false, false_or, exists_false, if_true, if_false, Bool.not_true, Bool.not_false, Bool.false_eq_true, and_self, true_or, or_true, exists_and_left, exists_and_right, ite_true, ite_false, exists_const, exists_eq, exists_eq', decide_true, decide_false, Bool.not_true, Bool.not_false]
    have h24 := h1.2
    have h02 := h1.1
    refine ⟨by decide, by omega, by rw [List.length_map]; omega, by decide, fun p hp => ?_⟩
    rw [rep_one, List.length_map, show ((a.length : Int)).toNat = a.length by omega, show List.replicate a.length (D.int 0) = (tab a.length (st2 a.length (nt a) (nt b) 0 0)).map D.int by rw [show st2 a.length (nt a) (nt b) 0 0 = fun _ => 0 from funext fun _ => st2_start, ← rep_tab, List.map_replicate]]
    refine for_j (items := enumD (a.map D.int)) (μ1 := [(p, (tab a.length (st2 a.length (nt a) (nt b) 0 0)).map D.int)]) (n1 := n) (fun i ds μ n' => n' = n ∧ μ = [(p, (tab a.length (st2 a.length (nt a) (nt b) i 0)).map D.int)] ∧ ∃ u v z, ds = [some (.tup (a.map D.int)), some (.tup (b.map D.int)), some (.int a.length), some (.own p), u, v, z]) (fun k q => ?_) ⟨rfl, rfl, _, _, _, rfl⟩ ?_ ?_
    · simp only [wSeq, wNext, wRet, wRetN, wNever, wDrop, wIfS, wAsg, gwName, dv_gtup, dv_gunl, dv_gcons, dv_gnil, wPar, wPar3, wAug, wSetO, wAugO, wApp, wVar, wC, wOp, wUn, asBl, wAnd, wOr, wNot, wAndV, wOrV, wNotV, wIf, wNil, wCons, wTup, wLst, wLstO, wCB, wCall, wCallK1, wMeth, wRel, wMk, wPen0, wPen1, wPen2, wPenS1, wPenS2, wSMeth, dv_make, wRowF, wSl, woNo, woSome, wChain, wYes, wIsi2,
    dv_add_int, dv_add_lst, dv_add_tup, dv_mul_int, dv_mul_lst, dv_mul_tup, rdMulO, dv_i0, dv_i2, rdNeg, rdSl, dv_int_int, dv_int_bl, dv_abs, dv_ne0_lst0, dv_eq0_lst0, rdList, rdListO, rdIsi, dv_eq_row, dv_ne_row, dv_eq_tup, dv_ne_tup, dv_ne_tup0, dv_eq_lst, dv_ne_lst, dv_eq_int, dv_ne_int, dv_eq0_tup, dv_eq0_int, dv_ne0_int, dv_ne0_tup, dv_mk_lst, dv_mk_tup, dv_sum_lst, dv_sum_tup, dv_tuple_lst, dv_tuple_tup, dv_len_lst, dv_len_tup, dv_all, frzL_ints,  rdIs, rdIsNot, Dp.isNon, seqOf, seqI, frz, startD, kg, isiD_non, isiD_bl, isiD_int, isiD_str, isiD_lst, isiD_tup, isiD2_non, isiD2_bl, isiD2_int, isiD2_str, isiD2_lst, isiD2_tup, kb_non_int, kb_bl_int, kb_int_int, kb_str_int, kb_lst_int, kb_tup_int, kb_non_bool, kb_bl_bool, kb_int_bool, kb_str_str, kb_int_str, kb2_non, kb2_bl, kb2_int, kb2_str, kb2_lst, kb2_tup, isi_row_int, isi_row_list, isi_row_tuple, isi_row_str, isi2_row,
    List.map_cons, List.map_nil, List.length_cons, List.length_nil, List.getElem?_cons_zero, List.getElem?_cons_succ, List.set_cons_zero, List.set_cons_succ, List.replicate_succ, List.replicate_zero, List.cons_append, List.nil_append, List.append_nil, Nat.zero_add, Nat.reduceAdd, Nat.reduceSub, List.tail_cons, wipeE, wiRng1, wiRng2, wiSeq, wiEnum, wiZip,
    exists_eq_left, exists_eq_left', exists_eq_right, exists_eq_right', Option.some.injEq, D.int.injEq, D.bl.injEq, D.str.injEq, D.lst.injEq, D.tup.injEq, D.row.injEq, D.own.injEq, D.adr.injEq, D.ty.injEq, reduceCtorEq, List.cons.injEq, true_and, and_true, false_and, and_false, or_false, false_or, exists_false, if_true, if_false, Bool.not_true, Bool.not_false, Bool.false_eq_true, and_self, true_or, or_true, exists_and_left, exists_and_right, ite_true, ite_false, exists_const, exists_eq, exists_eq', decide_true, decide_false, Bool.not_true, Bool.not_false]; exact q
    · rintro i d ds μ n' J hd hi ⟨rfl, rfl, u, v, z, rfl⟩ hJ
      rw [enumD_len, List.length_map] at hi
      rw [enum_ints] at hd
      obtain ⟨i', hi', rfl⟩ := map_get hd
      rw [List.getElem?_range hi] at hi'
      cases hi'
      rw [show a.getD i 0 = nt a i from rfl]
      simp only [wSeq, wNext, wRet, wRetN, wNever, wDrop, wIfS, wAsg, gwName, dv_gtup, dv_gunl, dv_gcons, dv_gnil, wPar, wPar3, wAug, wSetO, wAugO, wApp, wVar, wC, wOp, wUn, asBl, wAnd, wOr, wNot, wAndV, wOrV, wNotV, wIf, wNil, wCons, wTup, wLst, wLstO, wCB, wCall, wCallK1, wMeth, wRel, wMk, wPen0, wPen1, wPen2, wPenS1, wPenS2, wSMeth, dv_make, wRowF, wSl, woNo, woSome, wChain, wYes, wIsi2,
    dv_add_int, dv_add_lst, dv_add_tup, dv_mul_int, dv_mul_lst, dv_mul_tup, rdMulO, dv_i0, dv_i2, rdNeg, rdSl, dv_int_int, dv_int_bl, dv_abs, dv_ne0_lst0, dv_eq0_lst0, rdList, rdListO, rdIsi, dv_eq_row, dv_ne_row, dv_eq_tup, dv_ne_tup, dv_ne_tup0, dv_eq_lst, dv_ne_lst, dv_eq_int, dv_ne_int, dv_eq0_tup, dv_eq0_int, dv_ne0_int, dv_ne0_tup, dv_mk_lst, dv_mk_tup, dv_sum_lst, dv_sum_tup, dv_tuple_lst, dv_tuple_tup, dv_len_lst, dv_len_tup, dv_all, frzL_ints,  rdIs, rdIsNot, Dp.isNon, seqOf, seqI, frz, startD, kg, isiD_non, isiD_bl, isiD_int, isiD_str, isiD_lst, isiD_tup, isiD2_non, isiD2_bl, isiD2_int, isiD2_str, isiD2_lst, isiD2_tup, kb_non_int, kb_bl_int, kb_int_int, kb_str_int, kb_lst_int, kb_tup_int, kb_non_bool, kb_bl_bool, kb_int_bool, kb_str_str, kb_int_str, kb2_non, kb2_bl, kb2_int, kb2_str, kb2_lst, kb2_tup, isi_row_int, isi_row_list, isi_row_tuple, isi_row_str, isi2_row,
    List.map_cons, List.map_nil, List.length_cons, List.length_nil, List.getElem?_cons_zero, List.getElem?_cons_succ, List.set_cons_zero, List.set_cons_succ, List.replicate_succ, List.replicate_zero, List.cons_append, List.nil_append, List.append_nil, Nat.zero_add, Nat.reduceAdd, Nat.reduceSub, List.tail_cons, wipeE, wiRng1, wiRng2, wiSeq, wiEnum, wiZip,
    exists_eq_left, exists_eq_left', exists_eq_right, exists_eq_right', Option.some.injEq, D.int.injEq, D.bl.injEq, D.str.injEq, D.lst.injEq, D.tup.injEq, D.row.injEq, D.own.injEq, D.adr.injEq, D.ty.injEq, reduceCtorEq, List.cons.injEq, true_and, and_true, false_and, and_false, or_false, false_or, exists_false, if_true, if_false, Bool.not_true, Bool.not_false, Bool.false_eq_true, and_self, true_or, or_true, exists_and_left, exists_and_right, ite_true, ite_false, exists_const, exists_eq, exists_eq', decide_true, decide_false, Bool.not_true, Bool.not_false]
      refine ⟨rfl, ?_⟩
      by_cases h0 : nt a i = 0
      · rw [if_neg (by simpa using h0)]
        exact hJ _ _ _ ⟨rfl, by rw [show st2 a.length (nt a) (nt b) i 0 = st2 a.length (nt a) (nt b) (i + 1) 0 from funext fun k => st2_skip h0], _, _, _, rfl⟩
      · rw [if_pos (by simpa using h0)]
        refine for_j (items := rngD 0 a.length) (μ1 := [(p, (tab a.length (st2 a.length (nt a) (nt b) i 0)).map D.int)]) (n1 := n') (fun j ds μ n2 => n2 = n' ∧ μ = [(p, (tab a.length (st2 a.length (nt a) (nt b) i j)).map D.int)] ∧ ∃ z, ds = [some (.tup (a.map D.int)), some (.tup (b.map D.int)), some (.int a.length), some (.own p), some (.int i), some (.int (nt a i)), z]) (fun k q => ?_) ⟨rfl, rfl, _, rfl⟩ ?_ ?_
        · simp only [wSeq, wNext, wRet, wRetN, wNever, wDrop, wIfS, wAsg, gwName, dv_gtup, dv_gunl, dv_gcons, dv_gnil, wPar, wPar3, wAug, wSetO, wAugO, wApp, wVar, wC, wOp, wUn, asBl, wAnd, wOr, wNot, wAndV, wOrV, wNotV, wIf, wNil, wCons, wTup, wLst, wLstO, wCB, wCall, wCallK1, wMeth, wRel, wMk, wPen0, wPen1, wPen2, wPenS1, wPenS2, wSMeth, dv_make, wRowF, wSl, woNo, woSome, wChain, wYes, wIsi2,
    dv_add_int, dv_add_lst, dv_add_tup, dv_mul_int, dv_mul_lst, dv_mul_tup, rdMulO, dv_i0, dv_i2, rdNeg, rdSl, dv_int_int, dv_int_bl, dv_abs, dv_ne0_lst0, dv_eq0_lst0, rdList, rdListO, rdIsi, dv_eq_row, dv_ne_row, dv_eq_tup, dv_ne_tup, dv_ne_tup0, dv_eq_lst, dv_ne_lst, dv_eq_int, dv_ne_int, dv_eq0_tup, dv_eq0_int, dv_ne0_int, dv_ne0_tup, dv_mk_lst, dv_mk_tup, dv_sum_lst, dv_sum_tup, dv_tuple_lst, dv_tuple_tup, dv_len_lst, dv_len_tup, dv_all, frzL_ints,  rdIs, rdIsNot, Dp.isNon, seqOf, seqI, frz, startD, kg, isiD_non, isiD_bl, isiD_int, isiD_str, isiD_lst, isiD_tup, isiD2_non, isiD2_bl, isiD2_int, isiD2_str, isiD2_lst, isiD2_tup, kb_non_int, kb_bl_int, kb_int_int, kb_str_int, kb_lst_int, kb_tup_int, kb_non_bool, kb_bl_bool, kb_int_bool, kb_str_str, kb_int_str, kb2_non, kb2_bl, kb2_int, kb2_str, kb2_lst, kb2_tup, isi_row_int, isi_row_list, isi_row_tuple, isi_row_str, isi2_row,
    List.map_cons, List.map_nil, List.length_cons, List.length_nil, List.getElem?_cons_zero, List.getElem?_cons_succ, List.set_cons_zero, List.set_cons_succ, List.replicate_succ, List.replicate_zero, List.cons_append, List.nil_append, List.append_nil, Nat.zero_add, Nat.reduceAdd, Nat.reduceSub, List.tail_cons, wipeE, wiRng1, wiRng2, wiSeq, wiEnum, wiZip,
    exists_eq_left, exists_eq_left', exists_eq_right, exists_eq_right', Option.some.injEq, D.int.injEq, D.bl.injEq, D.str.injEq, D.lst.injEq, D.tup.injEq, D.row.injEq, D.own.injEq, D.adr.injEq, D.ty.injEq, reduceCtorEq, List.cons.injEq, true_and, and_true, false_and, and_false, or_false, false_or, exists_false, if_true, if_false, Bool.not_true, Bool.not_false, Bool.false_eq_true, and_self, true_or, or_true, exists_and_left, exists_and_right, ite_true, ite_false, exists_const, exists_eq, exists_eq', decide_true, decide_false, Bool.not_true, Bool.not_false]; exact ⟨by omega, by omega, q⟩
        · rintro j d ds μ n2 J2 hd hj ⟨rfl, rfl, z2, rfl⟩ hJ2
          rw [rngD_len] at hj
          rw [rngD_get hj] at hd
          cases hd
          have hm : (i + j) % a.length < a.length := Nat.mod_lt _ (by omega)
          have em : ((i : Int) + (0 + (j : Nat))) % (a.length : Int) = ((i + j) % a.length : Nat) := by rw [Int.zero_add]; rfl
          simp only [wSeq, wNext, wRet, wRetN, wNever, wDrop, wIfS, wAsg, gwName, dv_gtup, dv_gunl, dv_gcons, dv_gnil, wPar, wPar3, wAug, wSetO, wAugO, wApp, wVar, wC, wOp, wUn, asBl, wAnd, wOr, wNot, wAndV, wOrV, wNotV, wIf, wNil, wCons, wTup, wLst, wLstO, wCB, wCall, wCallK1, wMeth, wRel, wMk, wPen0, wPen1, wPen2, wPenS1, wPenS2, wSMeth, dv_make, wRowF, wSl, woNo, woSome, wChain, wYes, wIsi2,
    dv_add_int, dv_add_lst, dv_add_tup, dv_mul_int, dv_mul_lst, dv_mul_tup, rdMulO, dv_i0, dv_i2, rdNeg, rdSl, dv_int_int, dv_int_bl, dv_abs, dv_ne0_lst0, dv_eq0_lst0, rdList, rdListO, rdIsi, dv_eq_row, dv_ne_row, dv_eq_tup, dv_ne_tup, dv_ne_tup0, dv_eq_lst, dv_ne_lst, dv_eq_int, dv_ne_int, dv_eq0_tup, dv_eq0_int, dv_ne0_int, dv_ne0_tup, dv_mk_lst, dv_mk_tup, dv_sum_lst, dv_sum_tup, dv_tuple_lst, dv_tuple_tup, dv_len_lst, dv_len_tup, dv_all, frzL_ints,  rdIs, rdIsNot, Dp.isNon, seqOf, seqI, frz, startD, kg, isiD_non, isiD_bl, isiD_int, isiD_str, isiD_lst, isiD_tup, isiD2_non, isiD2_bl, isiD2_int, isiD2_str, isiD2_lst, isiD2_tup, kb_non_int, kb_bl_int, kb_int_int, kb_str_int, kb_lst_int, kb_tup_int, kb_non_bool, kb_bl_bool, kb_int_bool, kb_str_str, kb_int_str, kb2_non, kb2_bl, kb2_int, kb2_str, kb2_lst, kb2_tup, isi_row_int, isi_row_list, isi_row_tuple, isi_row_str, isi2_row,
    List.map_cons, List.map_nil, List.length_cons, List.length_nil, List.getElem?_cons_zero, List.getElem?_cons_succ, List.set_cons_zero, List.set_cons_succ, List.replicate_succ, List.replicate_zero, List.cons_append, List.nil_append, List.append_nil, Nat.zero_add, Nat.reduceAdd, Nat.reduceSub, List.tail_cons, wipeE, wiRng1, wiRng2, wiSeq, wiEnum, wiZip,
    exists_eq_left, exists_eq_left', exists_eq_right, exists_eq_right', Option.some.injEq, D.int.injEq, D.bl.injEq, D.str.injEq, D.lst.injEq, D.tup.injEq, D.row.injEq, D.own.injEq, D.adr.injEq, D.ty.injEq, reduceCtorEq, List.cons.injEq, true_and, and_true, false_and, and_false, or_false, false_or, exists_false, if_true, if_false, Bool.not_true, Bool.not_false, Bool.false_eq_true, and_self, true_or, or_true, exists_and_left, exists_and_right, ite_true, ite_false, exists_const, exists_eq, exists_eq', decide_true, decide_false, Bool.not_true, Bool.not_false, map_lookup]
          refine ⟨by omega, _, ixN_nat em (by rw [List.length_map, tab_len]; exact hm), _, by rw [List.getElem?_map, tab_get hm]; rfl, dv_ixI (ns := b) rfl (atI_nat (show (0 + (j : Int)) = j by omega) (nt_lt (by omega))) ?_ (fun _ z => by cases z)⟩
          simp only [wSeq, wNext, wRet, wRetN, wNever, wDrop, wIfS, wAsg, gwName, dv_gtup, dv_gunl, dv_gcons, dv_gnil, wPar, wPar3, wAug, wSetO, wAugO, wApp, wVar, wC, wOp, wUn, asBl, wAnd, wOr, wNot, wAndV, wOrV, wNotV, wIf, wNil, wCons, wTup, wLst, wLstO, wCB, wCall, wCallK1, wMeth, wRel, wMk, wPen0, wPen1, wPen2, wPenS1, wPenS2, wSMeth, dv_make, wRowF, wSl, woNo, woSome, wChain, wYes, wIsi2,
    dv_add_int, dv_add_lst, dv_add_tup, dv_mul_int, dv_mul_lst, dv_mul_tup, rdMulO, dv_i0, dv_i2, rdNeg, rdSl, dv_int_int, dv_int_bl, dv_abs, dv_ne0_lst0, dv_eq0_lst0, rdList, rdListO, rdIsi, dv_eq_row, dv_ne_row, dv_eq_tup, dv_ne_tup, dv_ne_tup0, dv_eq_lst, dv_ne_lst, dv_eq_int, dv_ne_int, dv_eq0_tup, dv_eq0_int, dv_ne0_int, dv_ne0_tup, dv_mk_lst, dv_mk_tup, dv_sum_lst, dv_sum_tup, dv_tuple_lst, dv_tuple_tup, dv_len_lst, dv_len_tup, dv_all, frzL_ints,  rdIs, rdIsNot, Dp.isNon, seqOf, seqI, frz, startD, kg, isiD_non, isiD_bl, isiD_int, isiD_str, isiD_lst, isiD_tup, isiD2_non, isiD2_bl, isiD2_int, isiD2_str, isiD2_lst, isiD2_tup, kb_non_int, kb_bl_int, kb_int_int, kb_str_int, kb_lst_int, kb_tup_int, kb_non_bool, kb_bl_bool, kb_int_bool, kb_str_str, kb_int_str, kb2_non, kb2_bl, kb2_int, kb2_str, kb2_lst, kb2_tup, isi_row_int, isi_row_list, isi_row_tuple, isi_row_str, isi2_row,
    List.map_cons, List.map_nil, List.length_cons, List.length_nil, List.getElem?_cons_zero, List.getElem?_cons_succ, List.set_cons_zero, List.set_cons_succ, List.replicate_succ, List.replicate_zero, List.cons_append, List.nil_append, List.append_nil, Nat.zero_add, Nat.reduceAdd, Nat.reduceSub, List.tail_cons, wipeE, wiRng1, wiRng2, wiSeq, wiEnum, wiZip,
    exists_eq_left, exists_eq_left', exists_eq_right, exists_eq_right', Option.some.injEq, D.int.injEq, D.bl.injEq, D.str.injEq, D.lst.injEq, D.tup.injEq, D.row.injEq, D.own.injEq, D.adr.injEq, D.ty.injEq, reduceCtorEq, List.cons.injEq, true_and, and_true, false_and, and_false, or_false, false_or, exists_false, if_true, if_false, Bool.not_true, Bool.not_false, Bool.false_eq_true, and_self, true_or, or_true, exists_and_left, exists_and_right, ite_true, ite_false, exists_const, exists_eq, exists_eq', decide_true, decide_false, Bool.not_true, Bool.not_false]
          refine ⟨?_, hJ2 _ _ _ ⟨rfl, ?_, _, rfl⟩⟩
          · rcases h3 with h | h
            · exact .inl (.inl (h _ (List.mem_of_getElem? (nt_lt hi))))
            · exact .inl (.inr (h _ (List.mem_of_getElem? (nt_lt (show j < b.length by omega)))))
          · rw [muSet_one, ← List.map_set, tab_set, show (fun k => if k = (i + j) % a.length then st2 a.length (nt a) (nt b) i j ((i + j) % a.length) + nt a i * nt b j else st2 a.length (nt a) (nt b) i j k) = st2 a.length (nt a) (nt b) i (j + 1) from funext fun k => st2_step]
        · rintro ds μ n2 ⟨rfl, rfl, z2, rfl⟩
          rw [rngD_len]
          exact hJ _ _ _ ⟨rfl, by rw [show st2 a.length (nt a) (nt b) i a.length = st2 a.length (nt a) (nt b) (i + 1) 0 from funext fun k => st2_row], _, _, _, rfl⟩
    · rintro ds μ n' ⟨rfl, rfl, u, v, z, rfl⟩
      rw [enumD_len, List.length_map]
      simp only [wSeq, wNext, wRet, wRetN, wNever, wDrop, wIfS, wAsg, gwName, dv_gtup, dv_gunl, dv_gcons, dv_gnil, wPar, wPar3, wAug, wSetO, wAugO, wApp, wVar, wC, wOp, wUn, asBl, wAnd, wOr, wNot, wAndV, wOrV, wNotV, wIf, wNil, wCons, wTup, wLst, wLstO, wCB, wCall, wCallK1, wMeth, wRel, wMk, wPen0, wPen1, wPen2, wPenS1, wPenS2, wSMeth, dv_make, wRowF, wSl, woNo, woSome, wChain, wYes, wIsi2,
    dv_add_int, dv_add_lst, dv_add_tup, dv_mul_int, dv_mul_lst, dv_mul_tup, rdMulO, dv_i0, dv_i2, rdNeg, rdSl, dv_int_int, dv_int_bl, dv_abs, dv_ne0_lst0, dv_eq0_lst0, rdList, rdListO, rdIsi, dv_eq_row, dv_ne_row, dv_eq_tup, dv_ne_tup, dv_ne_tup0, dv_eq_lst, dv_ne_lst, dv_eq_int, dv_ne_int, dv_eq0_tup, dv_eq0_int, dv_ne0_int, dv_ne0_tup, dv_mk_lst, dv_mk_tup, dv_sum_lst, dv_sum_tup, dv_tuple_lst, dv_tuple_tup, dv_len_lst, dv_len_tup, dv_all, frzL_ints,  rdIs, rdIsNot, Dp.isNon, seqOf, seqI, frz, startD, kg, isiD_non, isiD_bl, isiD_int, isiD_str, isiD_lst, isiD_tup, isiD2_non, isiD2_bl, isiD2_int, isiD2_str, isiD2_lst, isiD2_tup, kb_non_int, kb_bl_int, kb_int_int, kb_str_int, kb_lst_int, kb_tup_int, kb_non_bool, kb_bl_bool, kb_int_bool, kb_str_str, kb_int_str, kb2_non, kb2_bl, kb2_int, kb2_str, kb2_lst, kb2_tup, isi_row_int, isi_row_list, isi_row_tuple, isi_row_str, isi2_row,
    List.map_cons, List.map_nil, List.length_cons, List.length_nil, List.getElem?_cons_zero, List.getElem?_cons_succ, List.set_cons_zero, List.set_cons_succ, List.replicate_succ, List.replicate_zero, List.cons_append, List.nil_append, List.append_nil, Nat.zero_add, Nat.reduceAdd, Nat.reduceSub, List.tail_cons, wipeE, wiRng1, wiRng2, wiSeq, wiEnum, wiZip,
    exists_eq_left, exists_eq_left', exists_eq_right, exists_eq_right', Option.some.injEq, D.int.injEq, D.bl.injEq, D.str.injEq, D.lst.injEq, D.tup.injEq, D.row.injEq, D.own.injEq, D.adr.injEq, D.ty.injEq, reduceCtorEq, List.cons.injEq, true_and, and_true, false_and, and_false, or_false, false_or, exists_false, if_true, if_false, Bool.not_true, Bool.not_false, Bool.false_eq_true, and_self, true_or, or_true, exists_and_left, exists_and_right, ite_true, ite_false, exists_const, exists_eq, exists_eq', decide_true, decide_false, Bool.not_true, Bool.not_false, map_lookup]
      rw [show tab a.length (st2 a.length (nt a) (nt b) a.length 0) = rp a b from tab_congr fun k _ => st2_end]
      exact q
  · exact h.elim
theorem lv_ring {a b : List Int} {n : Nat} {Q : D → Nat → Prop} : F_ring_product [.tup (a.map D.int), .tup (b.map D.int)] n Q = (Rk a ∧ a.length = b.length ∧ ((∀ x ∈ a, -(2 ^ 64) < x ∧ x < 2 ^ 64) ∨ ∀ x ∈ b, -(2 ^ 64) < x ∧ x < 2 ^ 64) ∧ Q (.lst ((rp a b).map D.int)) n) :=
  propext ⟨fun ⟨a', b', e1, e2, h⟩ => by rw [map_int_inj e1, map_int_inj e2]; exact h, fun h => ⟨a, b, rfl, rfl, h⟩⟩
def F_product : FD
  | [.row a, .row b], n, Q => Rk a ∧ a.length = b.length ∧ ((∀ x ∈ a, -(2 ^ 64) < x ∧ x < 2 ^ 64) ∨ ∀ x ∈ b, -(2 ^ 64) < x ∧ x < 2 ^ 64) ∧ Q (.row (rp a b)) n
  | _, _, _ => False
theorem l_product : ∀ ds n Q, F_product ds n Q → ds.length = 2 := by intro ds n Q h; unfold F_product at h; split at h <;> first | rfl | exact h.elim
theorem ok_product (Fn : FunD c.K "product" "Row.product" (defArgs s_Row_product) (defBody s_Row_product) (defScope s_Row_product) [] [] f fd) (T : Tb c mg) (d_need_row : Dn P w c.K mg base "need_row" 2 ["value", "part"] (spD c 2 F_need_row)) (d_need_same_beats : Dn P w c.K mg base "need_same_beats" 2 ["one", "other"] (spD c 2 F_need_same_beats)) (d_ring_product : Dn P w c.K mg base "ring_product" 2 ["one", "other"] (spD c 2 F_ring_product)) (n_Row : Nd P w c.K mg base c.R "Row" 5 ["self", "numbers"] (spInit c)) : FnOk P w c.K mg base CX0 7 f fd ["self", "other"] (spD c 2 F_product) := by
  refine fn_d Fn sc_Row_product (fun cdv A outer s H E hr => ⟨_, (pss_cons (ps_expr (pe_d d_need_row hr (by rfl) (pa_cons (pv 1) (pa_cons pe_str pa_nil))))
 (pss_cons (ps_expr (pe_d d_need_same_beats hr (by rfl) (pa_cons (pv 0) (pa_cons (pv 1) pa_nil))))
 (pss_one (ps_ret (pe_n n_Row hr (by rfl) (pa_cons (pe_d d_ring_product hr (by rfl) (pa_cons (fldK (K := c.K) (pv 0) (by rfl)) (pa_cons (fldK (K := c.K) (pv 1) (by rfl)) pa_nil))) pa_nil)))))), _, (sndS_seq (sndS_drop (snd_call l_need_row (sndA_cons snd_var (sndA_cons snd_str sndA_nil))))
 (sndS_seq (sndS_drop (snd_call l_need_same_beats (sndA_cons snd_var (sndA_cons snd_var sndA_nil))))
 (sndS_ret (snd_make (sndA_cons (snd_call l_ring_product (sndA_cons (snd_numbers T.row snd_var) (sndA_cons (snd_numbers T.row snd_var) sndA_nil))) sndA_nil))))), fun ds n Q h hl => ?_⟩)
  unfold F_product at h
  split at h
  · rename_i a b
    obtain ⟨h1, h2, h3, q⟩ := h
    simp only [wSeq, wNext, wRet, wRetN, wNever, wDrop, wIfS, wAsg, gwName, dv_gtup, dv_gunl, dv_gcons, dv_gnil, wPar, wPar3, wAug, wSetO, wAugO, wApp, wVar, wC, wOp, wUn, asBl, wAnd, wOr, wNot, wAndV, wOrV, wNotV, wIf, wNil, wCons, wTup, wLst, wLstO, wCB, wCall, wCallK1, wMeth, wRel, wMk, wPen0, wPen1, wPen2, wPenS1, wPenS2, wSMeth, dv_make, wRowF, wSl, woNo, woSome, wChain, wYes, wIsi2,
    dv_add_int, dv_add_lst, dv_add_tup, dv_mul_int, dv_mul_lst, dv_mul_tup, rdMulO, dv_i0, dv_i2, rdNeg, rdSl, dv_int_int, dv_int_bl, dv_abs, dv_ne0_lst0, dv_eq0_lst0, rdList, rdListO, rdIsi, dv_eq_row, dv_ne_row, dv_eq_tup, dv_ne_tup, dv_ne_tup0, dv_eq_lst, dv_ne_lst, dv_eq_int, dv_ne_int, dv_eq0_tup, dv_eq0_int, dv_ne0_int, dv_ne0_tup, dv_mk_lst, dv_mk_tup, dv_sum_lst, dv_sum_tup, dv_tuple_lst, dv_tuple_tup, dv_len_lst, dv_len_tup, dv_all, frzL_ints,  rdIs, rdIsNot, Dp.isNon, seqOf, seqI, frz, startD, kg, isiD_non, isiD_bl, isiD_int, isiD_str, isiD_lst, isiD_tup, isiD2_non, isiD2_bl, isiD2_int, isiD2_str, isiD2_lst, isiD2_tup, kb_non_int, kb_bl_int, kb_int_int, kb_str_int, kb_lst_int, kb_tup_int, kb_non_bool, kb_bl_bool, kb_int_bool, kb_str_str, kb_int_str, kb2_non, kb2_bl, kb2_int, kb2_str, kb2_lst, kb2_tup, isi_row_int, isi_row_list, isi_row_tuple, isi_row_str, isi2_row,
    List.map_cons, List.map_nil, List.length_cons, List.length_nil, List.getElem?_cons_zero, List.getElem?_cons_succ, List.set_cons_zero, List.set_cons_succ, List.replicate_succ, List.replicate_zero, List.cons_append, List.nil_append, List.append_nil, Nat.zero_add, Nat.reduceAdd, Nat.reduceSub, List.tail_cons, wipeE, wiRng1, wiRng2, wiSeq, wiEnum, wiZip,
    exists_eq_left, exists_eq_left', exists_eq_right, exists_eq_right', Option.some.injEq, D.int.injEq, D.bl.injEq, D.str.injEq, D.lst.injEq, D.tup.injEq, D.row.injEq, D.own.injEq, D.adr.injEq, D.ty.injEq, reduceCtorEq, List.cons.injEq, true_and, and_true, false_and, and_false, or_false, false_or, exists_false, if_true, if_false, Bool.not_true, Bool.not_false, Bool.false_eq_true, and_self, true_or, or_true, exists_and_left, exists_and_right, ite_true, ite_false, exists_const, exists_eq, exists_eq', decide_true, decide_false, Bool.not_true, Bool.not_false, F_need_row, F_need_same_beats, h2]
    refine ⟨a, b, rfl, rfl, h1, h2, h3, ?_⟩
    simp only [wSeq, wNext, wRet, wRetN, wNever, wDrop, wIfS, wAsg, gwName, dv_gtup, dv_gunl, dv_gcons, dv_gnil, wPar, wPar3, wAug, wSetO, wAugO, wApp, wVar, wC, wOp, wUn, asBl, wAnd, wOr, wNot, wAndV, wOrV, wNotV, wIf, wNil, wCons, wTup, wLst, wLstO, wCB, wCall, wCallK1, wMeth, wRel, wMk, wPen0, wPen1, wPen2, wPenS1, wPenS2, wSMeth, dv_make, wRowF, wSl, woNo, woSome, wChain, wYes, wIsi2,
    dv_add_int, dv_add_lst, dv_add_tup, dv_mul_int, dv_mul_lst, dv_mul_tup, rdMulO, dv_i0, dv_i2, rdNeg, rdSl, dv_int_int, dv_int_bl, dv_abs, dv_ne0_lst0, dv_eq0_lst0, rdList, rdListO, rdIsi, dv_eq_row, dv_ne_row, dv_eq_tup, dv_ne_tup, dv_ne_tup0, dv_eq_lst, dv_ne_lst, dv_eq_int, dv_ne_int, dv_eq0_tup, dv_eq0_int, dv_ne0_int, dv_ne0_tup, dv_mk_lst, dv_mk_tup, dv_sum_lst, dv_sum_tup, dv_tuple_lst, dv_tuple_tup, dv_len_lst, dv_len_tup, dv_all, frzL_ints,  rdIs, rdIsNot, Dp.isNon, seqOf, seqI, frz, startD, kg, isiD_non, isiD_bl, isiD_int, isiD_str, isiD_lst, isiD_tup, isiD2_non, isiD2_bl, isiD2_int, isiD2_str, isiD2_lst, isiD2_tup, kb_non_int, kb_bl_int, kb_int_int, kb_str_int, kb_lst_int, kb_tup_int, kb_non_bool, kb_bl_bool, kb_int_bool, kb_str_str, kb_int_str, kb2_non, kb2_bl, kb2_int, kb2_str, kb2_lst, kb2_tup, isi_row_int, isi_row_list, isi_row_tuple, isi_row_str, isi2_row,
    List.map_cons, List.map_nil, List.length_cons, List.length_nil, List.getElem?_cons_zero, List.getElem?_cons_succ, List.set_cons_zero, List.set_cons_succ, List.replicate_succ, List.replicate_zero, List.cons_append, List.nil_append, List.append_nil, Nat.zero_add, Nat.reduceAdd, Nat.reduceSub, List.tail_cons, wipeE, wiRng1, wiRng2, wiSeq, wiEnum, wiZip,
    exists_eq_left, exists_eq_left', exists_eq_right, exists_eq_right', Option.some.injEq, D.int.injEq, D.bl.injEq, D.str.injEq, D.lst.injEq, D.tup.injEq, D.row.injEq, D.own.injEq, D.adr.injEq, D.ty.injEq, reduceCtorEq, List.cons.injEq, true_and, and_true, false_and, and_false, or_false, false_or, exists_false, if_true, if_false, Bool.not_true, Bool.not_false, Bool.false_eq_true, and_self, true_or, or_true, exists_and_left, exists_and_right, ite_true, ite_false, exists_const, exists_eq, exists_eq', decide_true, decide_false, Bool.not_true, Bool.not_false, rp_len]
    exact ⟨h1.1, h1.2, q⟩
  · exact h.elim
def F_mirrored : FD
  | [.row a], n, Q => Rk a ∧ Q (.row (tab a.length fun k => nt a (ng a.length k))) n
  | _, _, _ => False
theorem l_mirrored : ∀ ds n Q, F_mirrored ds n Q → ds.length = 1 := by intro ds n Q h; unfold F_mirrored at h; split at h <;> first | rfl | exact h.elim
theorem ok_mirrored (Fn : FunD c.K "mirrored" "Row.mirrored" (defArgs s_Row_mirrored) (defBody s_Row_mirrored) (defScope s_Row_mirrored) [] [] f fd) (T : Tb c mg) (n_Row : Nd P w c.K mg base c.R "Row" 5 ["self", "numbers"] (spInit c)) : FnOk P w c.K mg base CX0 7 f fd ["self"] (spD c 1 F_mirrored) := by
  refine fn_d Fn sc_Row_mirrored (fun cdv A outer s H E hr => ⟨_, (pss_one (ps_ret (pe_n n_Row hr (by rfl) (pa_cons (pe_op (opAddK (K := c.K)) (pe_slice (slK (K := c.K)) (fldK (K := c.K) (pv 0) (by rfl)) po_none (po_some pe_int)) (bkK (K := c.K) (b := true) (fldK (K := c.K) (pv 0) (by rfl)) po_zero)) pa_nil)))), _, (sndS_ret (snd_make (sndA_cons (snd_op sndR_add (snd_sl (snd_numbers T.row snd_var) sndO_no (sndO_some snd_int)) (snd_bk (snd_numbers T.row snd_var))) sndA_nil))), fun ds n Q h hl => ?_⟩)
  unfold F_mirrored at h
  split at h
  · rename_i a
    obtain ⟨h1, q⟩ := h
    simp only [wSeq, wNext, wRet, wRetN, wNever, wDrop, wIfS, wAsg, gwName, dv_gtup, dv_gunl, dv_gcons, dv_gnil, wPar, wPar3, wAug, wSetO, wAugO, wApp, wVar, wC, wOp, wUn, asBl, wAnd, wOr, wNot, wAndV, wOrV, wNotV, wIf, wNil, wCons, wTup, wLst, wLstO, wCB, wCall, wCallK1, wMeth, wRel, wMk, wPen0, wPen1, wPen2, wPenS1, wPenS2, wSMeth, dv_make, wRowF, wSl, woNo, woSome, wChain, wYes, wIsi2,
    dv_add_int, dv_add_lst, dv_add_tup, dv_mul_int, dv_mul_lst, dv_mul_tup, rdMulO, dv_i0, dv_i2, rdNeg, rdSl, dv_int_int, dv_int_bl, dv_abs, dv_ne0_lst0, dv_eq0_lst0, rdList, rdListO, rdIsi, dv_eq_row, dv_ne_row, dv_eq_tup, dv_ne_tup, dv_ne_tup0, dv_eq_lst, dv_ne_lst, dv_eq_int, dv_ne_int, dv_eq0_tup, dv_eq0_int, dv_ne0_int, dv_ne0_tup, dv_mk_lst, dv_mk_tup, dv_sum_lst, dv_sum_tup, dv_tuple_lst, dv_tuple_tup, dv_len_lst, dv_len_tup, dv_all, frzL_ints,  rdIs, rdIsNot, Dp.isNon, seqOf, seqI, frz, startD, kg, isiD_non, isiD_bl, isiD_int, isiD_str, isiD_lst, isiD_tup, isiD2_non, isiD2_bl, isiD2_int, isiD2_str, isiD2_lst, isiD2_tup, kb_non_int, kb_bl_int, kb_int_int, kb_str_int, kb_lst_int, kb_tup_int, kb_non_bool, kb_bl_bool, kb_int_bool, kb_str_str, kb_int_str, kb2_non, kb2_bl, kb2_int, kb2_str, kb2_lst, kb2_tup, isi_row_int, isi_row_list, isi_row_tuple, isi_row_str, isi2_row,
    List.map_cons, List.map_nil, List.length_cons, List.length_nil, List.getElem?_cons_zero, List.getElem?_cons_succ, List.set_cons_zero, List.set_cons_succ, List.replicate_succ, List.replicate_zero, List.cons_append, List.nil_append, List.append_nil, Nat.zero_add, Nat.reduceAdd, Nat.reduceSub, List.tail_cons, wipeE, wiRng1, wiRng2, wiSeq, wiEnum, wiZip,
    exists_eq_left, exists_eq_left', exists_eq_right, exists_eq_right', Option.some.injEq, D.int.injEq, D.bl.injEq, D.str.injEq, D.lst.injEq, D.tup.injEq, D.row.injEq, D.own.injEq, D.adr.injEq, D.ty.injEq, reduceCtorEq, List.cons.injEq, true_and, and_true, false_and, and_false, or_false, false_or, exists_false, if_true, if_false, Bool.not_true, Bool.not_false, Bool.false_eq_true, and_self, true_or, or_true, exists_and_left, exists_and_right, ite_true, ite_false, exists_const, exists_eq, exists_eq', decide_true, decide_false, Bool.not_true, Bool.not_false, wBk]
    have h24 := h1.2
    have h02 := h1.1
    refine ⟨a.map D.int, by rw [List.length_map]; omega, rfl, ?_⟩
    rw [cut_ints, ← List.map_drop, ← List.map_reverse, ← List.map_append]
    rw [HT.sIx_none, show (some (1 : Int)) = some ((1 : Nat) : Int) from rfl, HT.sIx_nat, Nat.min_eq_left (by omega), List.drop_zero, Nat.sub_zero]
    have e : a.take 1 ++ (a.drop (bkN true)).reverse = tab a.length fun k => nt a (ng a.length k) := by
      show a.take 1 ++ (a.drop 1).reverse = _
      refine ext_nt (by simp; omega) fun k hk => ?_
      have hk : k < a.length := by simp at hk; omega
      rw [tab_nt hk]
      by_cases c : k = 0
      · subst c
        rw [show ng a.length 0 = 0 from by unfold ng; rw [Nat.sub_zero, Nat.mod_self]]
        refine nt_get ?_
        rw [List.getElem?_append_left (by simp; omega), List.getElem?_take, if_pos (by decide), nt_lt (by omega)]
      · rw [show ng a.length k = a.length - k from by unfold ng; rw [Nat.mod_eq_of_lt (by omega)]]
        refine nt_get ?_
        rw [List.getElem?_append_right (by simp; omega), List.getElem?_reverse (by simp; omega), List.getElem?_drop]
        simp only [List.length_take, List.length_drop]
        rw [show 1 + (a.length - 1 - 1 - (k - min 1 a.length)) = a.length - k by omega, nt_lt (by omega)]
    rw [e]
    simp only [wSeq, wNext, wRet, wRetN, wNever, wDrop, wIfS, wAsg, gwName, dv_gtup, dv_gunl, dv_gcons, dv_gnil, wPar, wPar3, wAug, wSetO, wAugO, wApp, wVar, wC, wOp, wUn, asBl, wAnd, wOr, wNot, wAndV, wOrV, wNotV, wIf, wNil, wCons, wTup, wLst, wLstO, wCB, wCall, wCallK1, wMeth, wRel, wMk, wPen0, wPen1, wPen2, wPenS1, wPenS2, wSMeth, dv_make, wRowF, wSl, woNo, woSome, wChain, wYes, wIsi2,
    dv_add_int, dv_add_lst, dv_add_tup, dv_mul_int, dv_mul_lst, dv_mul_tup, rdMulO, dv_i0, dv_i2, rdNeg, rdSl, dv_int_int, dv_int_bl, dv_abs, dv_ne0_lst0, dv_eq0_lst0, rdList, rdListO, rdIsi, dv_eq_row, dv_ne_row, dv_eq_tup, dv_ne_tup, dv_ne_tup0, dv_eq_lst, dv_ne_lst, dv_eq_int, dv_ne_int, dv_eq0_tup, dv_eq0_int, dv_ne0_int, dv_ne0_tup, dv_mk_lst, dv_mk_tup, dv_sum_lst, dv_sum_tup, dv_tuple_lst, dv_tuple_tup, dv_len_lst, dv_len_tup, dv_all, frzL_ints,  rdIs, rdIsNot, Dp.isNon, seqOf, seqI, frz, startD, kg, isiD_non, isiD_bl, isiD_int, isiD_str, isiD_lst, isiD_tup, isiD2_non, isiD2_bl, isiD2_int, isiD2_str, isiD2_lst, isiD2_tup, kb_non_int, kb_bl_int, kb_int_int, kb_str_int, kb_lst_int, kb_tup_int, kb_non_bool, kb_bl_bool, kb_int_bool, kb_str_str, kb_int_str, kb2_non, kb2_bl, kb2_int, kb2_str, kb2_lst, kb2_tup, isi_row_int, isi_row_list, isi_row_tuple, isi_row_str, isi2_row,
    List.map_cons, List.map_nil, List.length_cons, List.length_nil, List.getElem?_cons_zero, List.getElem?_cons_succ, List.set_cons_zero, List.set_cons_succ, List.replicate_succ, List.replicate_zero, List.cons_append, List.nil_append, List.append_nil, Nat.zero_add, Nat.reduceAdd, Nat.reduceSub, List.tail_cons, wipeE, wiRng1, wiRng2, wiSeq, wiEnum, wiZip,
    exists_eq_left, exists_eq_left', exists_eq_right, exists_eq_right', Option.some.injEq, D.int.injEq, D.bl.injEq, D.str.injEq, D.lst.injEq, D.tup.injEq, D.row.injEq, D.own.injEq, D.adr.injEq, D.ty.injEq, reduceCtorEq, List.cons.injEq, true_and, and_true, false_and, and_false, or_false, false_or, exists_false, if_true, if_false, Bool.not_true, Bool.not_false, Bool.false_eq_true, and_self, true_or, or_true, exists_and_left, exists_and_right, ite_true, ite_false, exists_const, exists_eq, exists_eq', decide_true, decide_false, Bool.not_true, Bool.not_false]
    have le : (a.take 1).length + ((a.drop (bkN true)).reverse).length = a.length := by rw [← List.length_append, e, tab_len]
    exact ⟨by simp only [List.length_map] at le ⊢; omega, by rw [tab_len]; exact h1.1, by rw [tab_len]; exact h1.2, q⟩
  · exact h.elim
def F_stretched : FD
  | [.row a, .int b], n, Q => ∃ k : Nat, b = k ∧ Rk a ∧ 1 ≤ k ∧ k < a.length ∧ Nat.gcd k a.length = 1 ∧ ∀ e : List Int, e.length = a.length → (∀ i, i < a.length → nt e (k * i % a.length) = nt a i) → Q (.row e) n
  | _, _, _ => False
theorem l_stretched : ∀ ds n Q, F_stretched ds n Q → ds.length = 2 := by intro ds n Q h; unfold F_stretched at h; split at h <;> first | rfl | exact h.elim
theorem ok_stretched (Fn : FunD c.K "stretched" "Row.stretched" (defArgs s_Row_stretched) (defBody s_Row_stretched) (defScope s_Row_stretched) [] [] f fd) (T : Tb c mg) (d_is_within : Dn P w c.K mg base "is_within" 3 ["value", "least", "most"] (spD c 3 F_is_within)) (n_Row : Nd P w c.K mg base c.R "Row" 5 ["self", "numbers"] (spInit c)) : FnOk P w c.K mg base CX0 7 f fd ["self", "by"] (spD c 2 F_stretched) := by
  refine fn_d Fn sc_Row_stretched (fun cdv A outer s H E hr => ⟨_, (pss_cons (ps_if (PW.pt (pw_or (pt_not (pt_val (pe_d d_is_within hr (by rfl) (pa_cons (pv 1) (pa_cons pe_int (pa_cons (pe_op opSub (fldK (K := c.K) (pv 0) (by rfl)) pe_int) pa_nil)))))) (pw_or1 (pt_cmpR (ne0K (K := c.K) hr) (pe_callBfun cr_gcd (by rfl) T.b_gcd (pa_cons (pv 1) (pa_cons (fldK (K := c.K) (pv 0) (by rfl)) pa_nil))) pe_int (nomark _))))) (pss_one ps_never) pss_nil)
 (pss_cons (ps_set (i := 2) sc_Row_stretched.nd rfl (by first | exact .inl rfl | exact .inr rfl) (pe_op (opMulK (K := c.K)) (pe_lst (pa_cons pe_int pa_nil)) (fldK (K := c.K) (pv 0) (by rfl))))
 (pss_cons (ps_for PassesOwn.never rfl (pi_enumA (by rfl) T.b_enumerate (pa_cons (fldK (K := c.K) (pv 0) (by rfl)) pa_nil)) (pg_tup rfl (pgs_cons (pg_name (i := 3) sc_Row_stretched.nd rfl (by first | exact .inl rfl | exact .inr rfl)) (pgs_cons (pg_name (i := 4) sc_Row_stretched.nd rfl (by first | exact .inl rfl | exact .inr rfl)) pgs_nil)))
 (pss_one (ps_asg (pv 4) (pg_sub (pv 2) (pe_op opMod (pe_op (opMulK (K := c.K)) (pv 3) (pv 1)) (fldK (K := c.K) (pv 0) (by rfl))) set_list))))
 (pss_one (ps_ret (pe_n n_Row hr (by rfl) (pa_cons (pv 2) pa_nil))))))), _, (sndS_seq (sndS_if (sndT_or (sndT_not (sndT_B (snd_call l_is_within (sndA_cons snd_var (sndA_cons snd_int (sndA_cons (snd_op sndR_sub (snd_many T.row snd_var) snd_int) sndA_nil)))))) (sndT_test (snd_op sndR_ne0 (snd_cb sndC_gcd (sndA_cons snd_var (sndA_cons (snd_many T.row snd_var) sndA_nil))) snd_int))) sndS_never sndS_next)
 (sndS_seq (sndS_asg (snd_op sndR_mulO (snd_lst (sndA_cons snd_int sndA_nil)) (snd_many T.row snd_var)) sndG_name)
 (sndS_seq (sndS_for (sndI_enum (sndA_cons (snd_numbers T.row snd_var) sndA_nil)) (sndG_tup (sndGs_cons sndG_name (sndGs_cons sndG_name sndGs_nil))) (sndS_setO snd_var snd_var (snd_op sndR_mod (snd_op sndR_mul snd_var snd_var) (snd_many T.row snd_var))))
 (sndS_ret (snd_make (sndA_cons (snd_rel snd_var) sndA_nil)))))), fun ds n Q h hl => ?_⟩)
  unfold F_stretched at h
  split at h
  · rename_i a b
    obtain ⟨k, rfl, h1, k1, k2, kg, q⟩ := h
    simp only [wSeq, wNext, wRet, wRetN, wNever, wDrop, wIfS, wAsg, gwName, dv_gtup, dv_gunl, dv_gcons, dv_gnil, wPar, wPar3, wAug, wSetO, wAugO, wApp, wVar, wC, wOp, wUn, asBl, wAnd, wOr, wNot, wAndV, wOrV, wNotV, wIf, wNil, wCons, wTup, wLst, wLstO, wCB, wCall, wCallK1, wMeth, wRel, wMk, wPen0, wPen1, wPen2, wPenS1, wPenS2, wSMeth, dv_make, wRowF, wSl, woNo, woSome, wChain, wYes, wIsi2,
    dv_add_int, dv_add_lst, dv_add_tup, dv_mul_int, dv_mul_lst, dv_mul_tup, rdMulO, dv_i0, dv_i2, rdNeg, rdSl, dv_int_int, dv_int_bl, dv_abs, dv_ne0_lst0, dv_eq0_lst0, rdList, rdListO, rdIsi, dv_eq_row, dv_ne_row, dv_eq_tup, dv_ne_tup, dv_ne_tup0, dv_eq_lst, dv_ne_lst, dv_eq_int, dv_ne_int, dv_eq0_tup, dv_eq0_int, dv_ne0_int, dv_ne0_tup, dv_mk_lst, dv_mk_tup, dv_sum_lst, dv_sum_tup, dv_tuple_lst, dv_tuple_tup, dv_len_lst, dv_len_tup, dv_all, frzL_ints,  rdIs, rdIsNot, Dp.isNon, seqOf, seqI, frz, startD, kg, isiD_non, isiD_bl, isiD_int, isiD_str, isiD_lst, isiD_tup, isiD2_non, isiD2_bl, isiD2_int, isiD2_str, isiD2_lst, isiD2_tup, kb_non_int, kb_bl_int, kb_int_int, kb_str_int, kb_lst_int, kb_tup_int, kb_non_bool, kb_bl_bool, kb_int_bool, kb_str_str, kb_int_str, kb2_non, kb2_bl, kb2_int, kb2_str, kb2_lst, kb2_tup, isi_row_int, isi_row_list, isi_row_tuple, isi_row_str, isi2_row,
    List.map_cons, List.map_nil, List.length_cons, List.length_nil, List.getElem?_cons_zero, List.getElem?_cons_succ, List.set_cons_zero, List.set_cons_succ, List.replicate_succ, List.replicate_zero, List.cons_append, List.nil_append, List.append_nil, Nat.zero_add, Nat.reduceAdd, Nat.reduceSub, List.tail_cons, wipeE, wiRng1, wiRng2, wiSeq, wiEnum, wiZip,
    exists_eq_left, exists_eq_left', exists_eq_right, exists_eq_right', Option.some.injEq, D.int.injEq, D.bl.injEq, D.str.injEq, D.lst.injEq, D.tup.injEq, D.row.injEq, D.own.injEq, D.adr.injEq, D.ty.injEq, reduceCtorEq, List.cons.injEq, true_and, and_true, false_and, and_false, or_false, false_or, exists_false, if_true, if_false, Bool.not_true, Bool.not_false, Bool.false_eq_true, and_self, true_or, or_true, exists_and_left, exists_and_right, ite_true, ite_false, exists_const, exists_eq, exists_eq', decide_true, decide_false, Bool.not_true, Bool.not_false, F_is_within, rdGcd]
    have h24 := h1.2
    have h02 := h1.1
    obtain ⟨inv1, inv2⟩ := inv_ok h24 k2 kg
    rw [if_neg (by rw [decide_eq_true (by omega), decide_eq_true (by omega)]; decide), if_neg (by rw [Int.natAbs_natCast, Int.natAbs_natCast, kg]; decide)]
    refine ⟨by decide, by omega, by omega, by decide, fun p hp => ?_⟩
    rw [rep_one, show ((a.length : Int)).toNat = a.length by omega, show List.replicate a.length (D.int 0) = (List.replicate a.length (0 : Int)).map D.int by rw [List.map_replicate]]
    refine for_j (items := enumD (a.map D.int)) (μ1 := [(p, (List.replicate a.length (0 : Int)).map D.int)]) (n1 := n) (fun i ds μ n' => n' = n ∧ ∃ e : List Int, μ = [(p, e.map D.int)] ∧ e.length = a.length ∧ (∀ i', i' < i → nt e (k * i' % a.length) = nt a i') ∧ ∃ u v, ds = [some (.row a), some (.int k), some (.own p), u, v]) (fun k q => ?_) ⟨rfl, _, rfl, by simp, fun i' h => absurd h (Nat.not_lt_zero _), _, _, rfl⟩ ?_ ?_
    · simp only [wSeq, wNext, wRet, wRetN, wNever, wDrop, wIfS, wAsg, gwName, dv_gtup, dv_gunl, dv_gcons, dv_gnil, wPar, wPar3, wAug, wSetO, wAugO, wApp, wVar, wC, wOp, wUn, asBl, wAnd, wOr, wNot, wAndV, wOrV, wNotV, wIf, wNil, wCons, wTup, wLst, wLstO, wCB, wCall, wCallK1, wMeth, wRel, wMk, wPen0, wPen1, wPen2, wPenS1, wPenS2, wSMeth, dv_make, wRowF, wSl, woNo, woSome, wChain, wYes, wIsi2,
    dv_add_int, dv_add_lst, dv_add_tup, dv_mul_int, dv_mul_lst, dv_mul_tup, rdMulO, dv_i0, dv_i2, rdNeg, rdSl, dv_int_int, dv_int_bl, dv_abs, dv_ne0_lst0, dv_eq0_lst0, rdList, rdListO, rdIsi, dv_eq_row, dv_ne_row, dv_eq_tup, dv_ne_tup, dv_ne_tup0, dv_eq_lst, dv_ne_lst, dv_eq_int, dv_ne_int, dv_eq0_tup, dv_eq0_int, dv_ne0_int, dv_ne0_tup, dv_mk_lst, dv_mk_tup, dv_sum_lst, dv_sum_tup, dv_tuple_lst, dv_tuple_tup, dv_len_lst, dv_len_tup, dv_all, frzL_ints,  rdIs, rdIsNot, Dp.isNon, seqOf, seqI, frz, startD, kg, isiD_non, isiD_bl, isiD_int, isiD_str, isiD_lst, isiD_tup, isiD2_non, isiD2_bl, isiD2_int, isiD2_str, isiD2_lst, isiD2_tup, kb_non_int, kb_bl_int, kb_int_int, kb_str_int, kb_lst_int, kb_tup_int, kb_non_bool, kb_bl_bool, kb_int_bool, kb_str_str, kb_int_str, kb2_non, kb2_bl, kb2_int, kb2_str, kb2_lst, kb2_tup, isi_row_int, isi_row_list, isi_row_tuple, isi_row_str, isi2_row,
    List.map_cons, List.map_nil, List.length_cons, List.length_nil, List.getElem?_cons_zero, List.getElem?_cons_succ, List.set_cons_zero, List.set_cons_succ, List.replicate_succ, List.replicate_zero, List.cons_append, List.nil_append, List.append_nil, Nat.zero_add, Nat.reduceAdd, Nat.reduceSub, List.tail_cons, wipeE, wiRng1, wiRng2, wiSeq, wiEnum, wiZip,
    exists_eq_left, exists_eq_left', exists_eq_right, exists_eq_right', Option.some.injEq, D.int.injEq, D.bl.injEq, D.str.injEq, D.lst.injEq, D.tup.injEq, D.row.injEq, D.own.injEq, D.adr.injEq, D.ty.injEq, reduceCtorEq, List.cons.injEq, true_and, and_true, false_and, and_false, or_false, false_or, exists_false, if_true, if_false, Bool.not_true, Bool.not_false, Bool.false_eq_true, and_self, true_or, or_true, exists_and_left, exists_and_right, ite_true, ite_false, exists_const, exists_eq, exists_eq', decide_true, decide_false, Bool.not_true, Bool.not_false]; exact q
    · rintro i d ds μ n' J hd hi ⟨rfl, e, rfl, elen, eat, u, v, rfl⟩ hJ
      rw [enumD_len, List.length_map] at hi
      rw [enum_ints] at hd
      obtain ⟨i', hi', rfl⟩ := map_get hd
      rw [List.getElem?_range hi] at hi'
      cases hi'
      rw [show a.getD i 0 = nt a i from rfl]
      have hm : k * i % a.length < a.length := Nat.mod_lt _ (by omega)
      simp only [wSeq, wNext, wRet, wRetN, wNever, wDrop, wIfS, wAsg, gwName, dv_gtup, dv_gunl, dv_gcons, dv_gnil, wPar, wPar3, wAug, wSetO, wAugO, wApp, wVar, wC, wOp, wUn, asBl, wAnd, wOr, wNot, wAndV, wOrV, wNotV, wIf, wNil, wCons, wTup, wLst, wLstO, wCB, wCall, wCallK1, wMeth, wRel, wMk, wPen0, wPen1, wPen2, wPenS1, wPenS2, wSMeth, dv_make, wRowF, wSl, woNo, woSome, wChain, wYes, wIsi2,
    dv_add_int, dv_add_lst, dv_add_tup, dv_mul_int, dv_mul_lst, dv_mul_tup, rdMulO, dv_i0, dv_i2, rdNeg, rdSl, dv_int_int, dv_int_bl, dv_abs, dv_ne0_lst0, dv_eq0_lst0, rdList, rdListO, rdIsi, dv_eq_row, dv_ne_row, dv_eq_tup, dv_ne_tup, dv_ne_tup0, dv_eq_lst, dv_ne_lst, dv_eq_int, dv_ne_int, dv_eq0_tup, dv_eq0_int, dv_ne0_int, dv_ne0_tup, dv_mk_lst, dv_mk_tup, dv_sum_lst, dv_sum_tup, dv_tuple_lst, dv_tuple_tup, dv_len_lst, dv_len_tup, dv_all, frzL_ints,  rdIs, rdIsNot, Dp.isNon, seqOf, seqI, frz, startD, kg, isiD_non, isiD_bl, isiD_int, isiD_str, isiD_lst, isiD_tup, isiD2_non, isiD2_bl, isiD2_int, isiD2_str, isiD2_lst, isiD2_tup, kb_non_int, kb_bl_int, kb_int_int, kb_str_int, kb_lst_int, kb_tup_int, kb_non_bool, kb_bl_bool, kb_int_bool, kb_str_str, kb_int_str, kb2_non, kb2_bl, kb2_int, kb2_str, kb2_lst, kb2_tup, isi_row_int, isi_row_list, isi_row_tuple, isi_row_str, isi2_row,
    List.map_cons, List.map_nil, List.length_cons, List.length_nil, List.getElem?_cons_zero, List.getElem?_cons_succ, List.set_cons_zero, List.set_cons_succ, List.replicate_succ, List.replicate_zero, List.cons_append, List.nil_append, List.append_nil, Nat.zero_add, Nat.reduceAdd, Nat.reduceSub, List.tail_cons, wipeE, wiRng1, wiRng2, wiSeq, wiEnum, wiZip,
    exists_eq_left, exists_eq_left', exists_eq_right, exists_eq_right', Option.some.injEq, D.int.injEq, D.bl.injEq, D.str.injEq, D.lst.injEq, D.tup.injEq, D.row.injEq, D.own.injEq, D.adr.injEq, D.ty.injEq, reduceCtorEq, List.cons.injEq, true_and, and_true, false_and, and_false, or_false, false_or, exists_false, if_true, if_false, Bool.not_true, Bool.not_false, Bool.false_eq_true, and_self, true_or, or_true, exists_and_left, exists_and_right, ite_true, ite_false, exists_const, exists_eq, exists_eq', decide_true, decide_false, Bool.not_true, Bool.not_false, map_lookup]
      have em : ((i : Int) * (k : Int)) % (a.length : Int) = ((k * i % a.length : Nat) : Int) := by rw [Nat.mul_comm k i]; rfl
      refine ⟨rfl, cmulR (by omega) (by omega), by omega, _, ixN_nat em (by rw [List.length_map, elen]; exact hm), hJ _ _ _ ⟨rfl, e.set (k * i % a.length) (nt a i), by rw [muSet_one, List.map_set], by rw [List.length_set, elen], fun i' hi' => ?_, _, _, rfl⟩⟩
      by_cases c : i' = i
      · subst c
        exact nt_get (by rw [List.getElem?_set_self (by rw [elen]; exact hm)])
      · have ne : k * i % a.length ≠ k * i' % a.length := fun z => c (by
          have := (str_uniq inv1 (show i' < a.length by omega) hm).1 z.symm
          rw [this, mul_back inv1, Nat.mod_eq_of_lt hi])
        unfold nt
        rw [List.getD_eq_getElem?_getD, List.getElem?_set_ne ne, ← List.getD_eq_getElem?_getD]
        exact eat i' (by omega)
    · rintro ds μ n' ⟨rfl, e, rfl, elen, eat, u, v, rfl⟩
      rw [enumD_len, List.length_map] at eat
      simp only [wSeq, wNext, wRet, wRetN, wNever, wDrop, wIfS, wAsg, gwName, dv_gtup, dv_gunl, dv_gcons, dv_gnil, wPar, wPar3, wAug, wSetO, wAugO, wApp, wVar, wC, wOp, wUn, asBl, wAnd, wOr, wNot, wAndV, wOrV, wNotV, wIf, wNil, wCons, wTup, wLst, wLstO, wCB, wCall, wCallK1, wMeth, wRel, wMk, wPen0, wPen1, wPen2, wPenS1, wPenS2, wSMeth, dv_make, wRowF, wSl, woNo, woSome, wChain, wYes, wIsi2,
    dv_add_int, dv_add_lst, dv_add_tup, dv_mul_int, dv_mul_lst, dv_mul_tup, rdMulO, dv_i0, dv_i2, rdNeg, rdSl, dv_int_int, dv_int_bl, dv_abs, dv_ne0_lst0, dv_eq0_lst0, rdList, rdListO, rdIsi, dv_eq_row, dv_ne_row, dv_eq_tup, dv_ne_tup, dv_ne_tup0, dv_eq_lst, dv_ne_lst, dv_eq_int, dv_ne_int, dv_eq0_tup, dv_eq0_int, dv_ne0_int, dv_ne0_tup, dv_mk_lst, dv_mk_tup, dv_sum_lst, dv_sum_tup, dv_tuple_lst, dv_tuple_tup, dv_len_lst, dv_len_tup, dv_all, frzL_ints,  rdIs, rdIsNot, Dp.isNon, seqOf, seqI, frz, startD, kg, isiD_non, isiD_bl, isiD_int, isiD_str, isiD_lst, isiD_tup, isiD2_non, isiD2_bl, isiD2_int, isiD2_str, isiD2_lst, isiD2_tup, kb_non_int, kb_bl_int, kb_int_int, kb_str_int, kb_lst_int, kb_tup_int, kb_non_bool, kb_bl_bool, kb_int_bool, kb_str_str, kb_int_str, kb2_non, kb2_bl, kb2_int, kb2_str, kb2_lst, kb2_tup, isi_row_int, isi_row_list, isi_row_tuple, isi_row_str, isi2_row,
    List.map_cons, List.map_nil, List.length_cons, List.length_nil, List.getElem?_cons_zero, List.getElem?_cons_succ, List.set_cons_zero, List.set_cons_succ, List.replicate_succ, List.replicate_zero, List.cons_append, List.nil_append, List.append_nil, Nat.zero_add, Nat.reduceAdd, Nat.reduceSub, List.tail_cons, wipeE, wiRng1, wiRng2, wiSeq, wiEnum, wiZip,
    exists_eq_left, exists_eq_left', exists_eq_right, exists_eq_right', Option.some.injEq, D.int.injEq, D.bl.injEq, D.str.injEq, D.lst.injEq, D.tup.injEq, D.row.injEq, D.own.injEq, D.adr.injEq, D.ty.injEq, reduceCtorEq, List.cons.injEq, true_and, and_true, false_and, and_false, or_false, false_or, exists_false, if_true, if_false, Bool.not_true, Bool.not_false, Bool.false_eq_true, and_self, true_or, or_true, exists_and_left, exists_and_right, ite_true, ite_false, exists_const, exists_eq, exists_eq', decide_true, decide_false, Bool.not_true, Bool.not_false, map_lookup]
      refine ⟨_, _, ⟨rfl, rfl⟩, fun e he => (by cases he), ?_⟩
      simp only [wSeq, wNext, wRet, wRetN, wNever, wDrop, wIfS, wAsg, gwName, dv_gtup, dv_gunl, dv_gcons, dv_gnil, wPar, wPar3, wAug, wSetO, wAugO, wApp, wVar, wC, wOp, wUn, asBl, wAnd, wOr, wNot, wAndV, wOrV, wNotV, wIf, wNil, wCons, wTup, wLst, wLstO, wCB, wCall, wCallK1, wMeth, wRel, wMk, wPen0, wPen1, wPen2, wPenS1, wPenS2, wSMeth, dv_make, wRowF, wSl, woNo, woSome, wChain, wYes, wIsi2,
    dv_add_int, dv_add_lst, dv_add_tup, dv_mul_int, dv_mul_lst, dv_mul_tup, rdMulO, dv_i0, dv_i2, rdNeg, rdSl, dv_int_int, dv_int_bl, dv_abs, dv_ne0_lst0, dv_eq0_lst0, rdList, rdListO, rdIsi, dv_eq_row, dv_ne_row, dv_eq_tup, dv_ne_tup, dv_ne_tup0, dv_eq_lst, dv_ne_lst, dv_eq_int, dv_ne_int, dv_eq0_tup, dv_eq0_int, dv_ne0_int, dv_ne0_tup, dv_mk_lst, dv_mk_tup, dv_sum_lst, dv_sum_tup, dv_tuple_lst, dv_tuple_tup, dv_len_lst, dv_len_tup, dv_all, frzL_ints,  rdIs, rdIsNot, Dp.isNon, seqOf, seqI, frz, startD, kg, isiD_non, isiD_bl, isiD_int, isiD_str, isiD_lst, isiD_tup, isiD2_non, isiD2_bl, isiD2_int, isiD2_str, isiD2_lst, isiD2_tup, kb_non_int, kb_bl_int, kb_int_int, kb_str_int, kb_lst_int, kb_tup_int, kb_non_bool, kb_bl_bool, kb_int_bool, kb_str_str, kb_int_str, kb2_non, kb2_bl, kb2_int, kb2_str, kb2_lst, kb2_tup, isi_row_int, isi_row_list, isi_row_tuple, isi_row_str, isi2_row,
    List.map_cons, List.map_nil, List.length_cons, List.length_nil, List.getElem?_cons_zero, List.getElem?_cons_succ, List.set_cons_zero, List.set_cons_succ, List.replicate_succ, List.replicate_zero, List.cons_append, List.nil_append, List.append_nil, Nat.zero_add, Nat.reduceAdd, Nat.reduceSub, List.tail_cons, wipeE, wiRng1, wiRng2, wiSeq, wiEnum, wiZip,
    exists_eq_left, exists_eq_left', exists_eq_right, exists_eq_right', Option.some.injEq, D.int.injEq, D.bl.injEq, D.str.injEq, D.lst.injEq, D.tup.injEq, D.row.injEq, D.own.injEq, D.adr.injEq, D.ty.injEq, reduceCtorEq, List.cons.injEq, true_and, and_true, false_and, and_false, or_false, false_or, exists_false, if_true, if_false, Bool.not_true, Bool.not_false, Bool.false_eq_true, and_self, true_or, or_true, exists_and_left, exists_and_right, ite_true, ite_false, exists_const, exists_eq, exists_eq', decide_true, decide_false, Bool.not_true, Bool.not_false]
      exact ⟨by omega, by omega, q e elen eat⟩
  · exact h.elim
def F_need_rows : FD
  | [.row a, .row b], n, Q => a.length = b.length ∧ Q .non n
  | _, _, _ => False
theorem l_need_rows : ∀ ds n Q, F_need_rows ds n Q → ds.length = 2 := by intro ds n Q h; unfold F_need_rows at h; split at h <;> first | rfl | exact h.elim
theorem ok_need_rows (Fn : FunD c.K "need_rows" "need_rows" (defArgs s_need_rows) (defBody s_need_rows) (defScope s_need_rows) [] [] f fd) (T : Tb c mg) (d_need_row : Dn P w c.K mg base "need_row" 2 ["value", "part"] (spD c 2 F_need_row)) (d_need_same_beats : Dn P w c.K mg base "need_same_beats" 2 ["one", "other"] (spD c 2 F_need_same_beats)) : FnOk P w c.K mg base CX0 3 f fd ["one", "other"] (spD c 2 F_need_rows) := by
  refine fn_d Fn sc_need_rows (fun cdv A outer s H E hr => ⟨_, (pss_cons (ps_expr (pe_d d_need_row hr (by rfl) (pa_cons (pv 0) (pa_cons pe_str pa_nil))))
 (pss_cons (ps_expr (pe_d d_need_row hr (by rfl) (pa_cons (pv 1) (pa_cons pe_str pa_nil))))
 (pss_one (ps_expr (pe_d d_need_same_beats hr (by rfl) (pa_cons (pv 0) (pa_cons (pv 1) pa_nil))))))), _, (sndS_seq (sndS_drop (snd_call l_need_row (sndA_cons snd_var (sndA_cons snd_str sndA_nil))))
 (sndS_seq (sndS_drop (snd_call l_need_row (sndA_cons snd_var (sndA_cons snd_str sndA_nil))))
 (sndS_drop (snd_call l_need_same_beats (sndA_cons snd_var (sndA_cons snd_var sndA_nil)))))), fun ds n Q h hl => ?_⟩)
  unfold F_need_rows at h
  split at h
  · rename_i a b
    simp only [wSeq, wNext, wRet, wRetN, wNever, wDrop, wIfS, wAsg, gwName, dv_gtup, dv_gunl, dv_gcons, dv_gnil, wPar, wPar3, wAug, wSetO, wAugO, wApp, wVar, wC, wOp, wUn, asBl, wAnd, wOr, wNot, wAndV, wOrV, wNotV, wIf, wNil, wCons, wTup, wLst, wLstO, wCB, wCall, wCallK1, wMeth, wRel, wMk, wPen0, wPen1, wPen2, wPenS1, wPenS2, wSMeth, dv_make, wRowF, wSl, woNo, woSome, wChain, wYes, wIsi2,
    dv_add_int, dv_add_lst, dv_add_tup, dv_mul_int, dv_mul_lst, dv_mul_tup, rdMulO, dv_i0, dv_i2, rdNeg, rdSl, dv_int_int, dv_int_bl, dv_abs, dv_ne0_lst0, dv_eq0_lst0, rdList, rdListO, rdIsi, dv_eq_row, dv_ne_row, dv_eq_tup, dv_ne_tup, dv_ne_tup0, dv_eq_lst, dv_ne_lst, dv_eq_int, dv_ne_int, dv_eq0_tup, dv_eq0_int, dv_ne0_int, dv_ne0_tup, dv_mk_lst, dv_mk_tup, dv_sum_lst, dv_sum_tup, dv_tuple_lst, dv_tuple_tup, dv_len_lst, dv_len_tup, dv_all, frzL_ints,  rdIs, rdIsNot, Dp.isNon, seqOf, seqI, frz, startD, kg, isiD_non, isiD_bl, isiD_int, isiD_str, isiD_lst, isiD_tup, isiD2_non, isiD2_bl, isiD2_int, isiD2_str, isiD2_lst, isiD2_tup, kb_non_int, kb_bl_int, kb_int_int, kb_str_int, kb_lst_int, kb_tup_int, kb_non_bool, kb_bl_bool, kb_int_bool, kb_str_str, kb_int_str, kb2_non, kb2_bl, kb2_int, kb2_str, kb2_lst, kb2_tup, isi_row_int, isi_row_list, isi_row_tuple, isi_row_str, isi2_row,
    List.map_cons, List.map_nil, List.length_cons, List.length_nil, List.getElem?_cons_zero, List.getElem?_cons_succ, List.set_cons_zero, List.set_cons_succ, List.replicate_succ, List.replicate_zero, List.cons_append, List.nil_append, List.append_nil, Nat.zero_add, Nat.reduceAdd, Nat.reduceSub, List.tail_cons, wipeE, wiRng1, wiRng2, wiSeq, wiEnum, wiZip,
    exists_eq_left, exists_eq_left', exists_eq_right, exists_eq_right', Option.some.injEq, D.int.injEq, D.bl.injEq, D.str.injEq, D.lst.injEq, D.tup.injEq, D.row.injEq, D.own.injEq, D.adr.injEq, D.ty.injEq, reduceCtorEq, List.cons.injEq, true_and, and_true, false_and, and_false, or_false, false_or, exists_false, if_true, if_false, Bool.not_true, Bool.not_false, Bool.false_eq_true, and_self, true_or, or_true, exists_and_left, exists_and_right, ite_true, ite_false, exists_const, exists_eq, exists_eq', decide_true, decide_false, Bool.not_true, Bool.not_false, F_need_row, F_need_same_beats]
    exact h
  · exact h.elim
theorem rp_xsp {a b : List Int} : rp (tab a.length fun k => nt a (ng a.length k)) b = spn a b := by
  unfold rp spn
  rw [tab_len]
  exact tab_congr fun k hk => Eq.trans (cv_congr (f' := fun i => nt a (ng a.length i)) (g' := nt b) (fun i hi => tab_nt hi) (fun _ _ => rfl)) (cv_mirror hk)
def Sw (a : List Int) : Prop := ∀ x ∈ a, -(2 ^ 64) < x ∧ x < 2 ^ 64
def F_cross_spans : FD
  | [.row a, .row b], n, Q => Rk a ∧ a.length = b.length ∧ Sw b ∧ Q (.tup ((spn a b).map D.int)) n
  | _, _, _ => False
theorem l_cross_spans : ∀ ds n Q, F_cross_spans ds n Q → ds.length = 2 := by intro ds n Q h; unfold F_cross_spans at h; split at h <;> first | rfl | exact h.elim
theorem ok_cross_spans (Fn : FunD c.K "cross_spans" "cross_spans" (defArgs s_cross_spans) (defBody s_cross_spans) (defScope s_cross_spans) [] [] f fd) (T : Tb c mg) (d_need_rows : Dn P w c.K mg base "need_rows" 3 ["one", "other"] (spD c 2 F_need_rows)) (d_ring_product : Dn P w c.K mg base "ring_product" 2 ["one", "other"] (spD c 2 F_ring_product)) (m_mirrored : Md P w c.K mg base c.R "mirrored" 7 ["self"] (spD c 1 F_mirrored)) : FnOk P w c.K mg base CX0 8 f fd ["one", "other"] (spD c 2 F_cross_spans) := by
  refine fn_d Fn sc_cross_spans (fun cdv A outer s H E hr => ⟨_, (pss_cons (ps_expr (pe_d d_need_rows hr (by rfl) (pa_cons (pv 0) (pa_cons (pv 1) pa_nil))))
 (pss_one (ps_ret (pe_callTy (tupleK (K := c.K)) (by rfl) T.b_tuple (by decide +kernel) (pa_cons (pe_d d_ring_product hr (by rfl) (pa_cons (fldK (K := c.K) (pe_m0 m_mirrored T.row.cl hr (pv 0)) (by rfl)) (pa_cons (fldK (K := c.K) (pv 1) (by rfl)) pa_nil))) pa_nil))))), _, (sndS_seq (sndS_drop (snd_call l_need_rows (sndA_cons snd_var (sndA_cons snd_var sndA_nil))))
 (sndS_ret (snd_cb sndC_tuple (sndA_cons (snd_call l_ring_product (sndA_cons (snd_numbers T.row (snd_meth (by decide +kernel) l_mirrored snd_var sndA_nil)) (sndA_cons (snd_numbers T.row snd_var) sndA_nil))) sndA_nil)))), fun ds n Q h hl => ?_⟩)
  unfold F_cross_spans at h
  split at h
  · rename_i a b
    obtain ⟨h1, h2, h3, q⟩ := h
    simp only [wSeq, wNext, wRet, wRetN, wNever, wDrop, wIfS, wAsg, gwName, dv_gtup, dv_gunl, dv_gcons, dv_gnil, wPar, wPar3, wAug, wSetO, wAugO, wApp, wVar, wC, wOp, wUn, asBl, wAnd, wOr, wNot, wAndV, wOrV, wNotV, wIf, wNil, wCons, wTup, wLst, wLstO, wCB, wCall, wCallK1, wMeth, wRel, wMk, wPen0, wPen1, wPen2, wPenS1, wPenS2, wSMeth, dv_make, wRowF, wSl, woNo, woSome, wChain, wYes, wIsi2,
    dv_add_int, dv_add_lst, dv_add_tup, dv_mul_int, dv_mul_lst, dv_mul_tup, rdMulO, dv_i0, dv_i2, rdNeg, rdSl, dv_int_int, dv_int_bl, dv_abs, dv_ne0_lst0, dv_eq0_lst0, rdList, rdListO, rdIsi, dv_eq_row, dv_ne_row, dv_eq_tup, dv_ne_tup, dv_ne_tup0, dv_eq_lst, dv_ne_lst, dv_eq_int, dv_ne_int, dv_eq0_tup, dv_eq0_int, dv_ne0_int, dv_ne0_tup, dv_mk_lst, dv_mk_tup, dv_sum_lst, dv_sum_tup, dv_tuple_lst, dv_tuple_tup, dv_len_lst, dv_len_tup, dv_all, frzL_ints,  rdIs, rdIsNot, Dp.isNon, seqOf, seqI, frz, startD, kg, isiD_non, isiD_bl, isiD_int, isiD_str, isiD_lst, isiD_tup, isiD2_non, isiD2_bl, isiD2_int, isiD2_str, isiD2_lst, isiD2_tup, kb_non_int, kb_bl_int, kb_int_int, kb_str_int, kb_lst_int, kb_tup_int, kb_non_bool, kb_bl_bool, kb_int_bool, kb_str_str, kb_int_str, kb2_non, kb2_bl, kb2_int, kb2_str, kb2_lst, kb2_tup, isi_row_int, isi_row_list, isi_row_tuple, isi_row_str, isi2_row,
    List.map_cons, List.map_nil, List.length_cons, List.length_nil, List.getElem?_cons_zero, List.getElem?_cons_succ, List.set_cons_zero, List.set_cons_succ, List.replicate_succ, List.replicate_zero, List.cons_append, List.nil_append, List.append_nil, Nat.zero_add, Nat.reduceAdd, Nat.reduceSub, List.tail_cons, wipeE, wiRng1, wiRng2, wiSeq, wiEnum, wiZip,
    exists_eq_left, exists_eq_left', exists_eq_right, exists_eq_right', Option.some.injEq, D.int.injEq, D.bl.injEq, D.str.injEq, D.lst.injEq, D.tup.injEq, D.row.injEq, D.own.injEq, D.adr.injEq, D.ty.injEq, reduceCtorEq, List.cons.injEq, true_and, and_true, false_and, and_false, or_false, false_or, exists_false, if_true, if_false, Bool.not_true, Bool.not_false, Bool.false_eq_true, and_self, true_or, or_true, exists_and_left, exists_and_right, ite_true, ite_false, exists_const, exists_eq, exists_eq', decide_true, decide_false, Bool.not_true, Bool.not_false, F_need_rows, F_mirrored, lv_ring, rp_xsp, tab_len]
    exact ⟨h2, h1, by unfold Rk; rw [tab_len]; exact h1, h2, .inr h3, q⟩
  · exact h.elim
def F_spans : FD
  | [.row a], n, Q => Rk a ∧ Sw a ∧ Q (.tup ((spn a a).map D.int)) n
  | _, _, _ => False
theorem l_spans : ∀ ds n Q, F_spans ds n Q → ds.length = 1 := by intro ds n Q h; unfold F_spans at h; split at h <;> first | rfl | exact h.elim
theorem ok_spans (Fn : FunD c.K "spans" "spans" (defArgs s_spans) (defBody s_spans) (defScope s_spans) [] [] f fd) (T : Tb c mg) (d_need_row : Dn P w c.K mg base "need_row" 2 ["value", "part"] (spD c 2 F_need_row)) (d_cross_spans : Dn P w c.K mg base "cross_spans" 8 ["one", "other"] (spD c 2 F_cross_spans)) : FnOk P w c.K mg base CX0 9 f fd ["row"] (spD c 1 F_spans) := by
  refine fn_d Fn sc_spans (fun cdv A outer s H E hr => ⟨_, (pss_cons (ps_expr (pe_d d_need_row hr (by rfl) (pa_cons (pv 0) (pa_cons pe_str pa_nil))))
 (pss_one (ps_ret (pe_d d_cross_spans hr (by rfl) (pa_cons (pv 0) (pa_cons (pv 0) pa_nil)))))), _, (sndS_seq (sndS_drop (snd_call l_need_row (sndA_cons snd_var (sndA_cons snd_str sndA_nil))))
 (sndS_ret (snd_call l_cross_spans (sndA_cons snd_var (sndA_cons snd_var sndA_nil))))), fun ds n Q h hl => ?_⟩)
  unfold F_spans at h
  split at h
  · rename_i a
    obtain ⟨h1, h2, q⟩ := h
    simp only [wSeq, wNext, wRet, wRetN, wNever, wDrop, wIfS, wAsg, gwName, dv_gtup, dv_gunl, dv_gcons, dv_gnil, wPar, wPar3, wAug, wSetO, wAugO, wApp, wVar, wC, wOp, wUn, asBl, wAnd, wOr, wNot, wAndV, wOrV, wNotV, wIf, wNil, wCons, wTup, wLst, wLstO, wCB, wCall, wCallK1, wMeth, wRel, wMk, wPen0, wPen1, wPen2, wPenS1, wPenS2, wSMeth, dv_make, wRowF, wSl, woNo, woSome, wChain, wYes, wIsi2,
    dv_add_int, dv_add_lst, dv_add_tup, dv_mul_int, dv_mul_lst, dv_mul_tup, rdMulO, dv_i0, dv_i2, rdNeg, rdSl, dv_int_int, dv_int_bl, dv_abs, dv_ne0_lst0, dv_eq0_lst0, rdList, rdListO, rdIsi, dv_eq_row, dv_ne_row, dv_eq_tup, dv_ne_tup, dv_ne_tup0, dv_eq_lst, dv_ne_lst, dv_eq_int, dv_ne_int, dv_eq0_tup, dv_eq0_int, dv_ne0_int, dv_ne0_tup, dv_mk_lst, dv_mk_tup, dv_sum_lst, dv_sum_tup, dv_tuple_lst, dv_tuple_tup, dv_len_lst, dv_len_tup, dv_all, frzL_ints,  rdIs, rdIsNot, Dp.isNon, seqOf, seqI, frz, startD, kg, isiD_non, isiD_bl, isiD_int, isiD_str, isiD_lst, isiD_tup, isiD2_non, isiD2_bl, isiD2_int, isiD2_str, isiD2_lst, isiD2_tup, kb_non_int, kb_bl_int, kb_int_int, kb_str_int, kb_lst_int, kb_tup_int, kb_non_bool, kb_bl_bool, kb_int_bool, kb_str_str, kb_int_str, kb2_non, kb2_bl, kb2_int, kb2_str, kb2_lst, kb2_tup, isi_row_int, isi_row_list, isi_row_tuple, isi_row_str, isi2_row,
    List.map_cons, List.map_nil, List.length_cons, List.length_nil, List.getElem?_cons_zero, List.getElem?_cons_succ, List.set_cons_zero, List.set_cons_succ, List.replicate_succ, List.replicate_zero, List.cons_append, List.nil_append, List.append_nil, Nat.zero_add, Nat.reduceAdd, Nat.reduceSub, List.tail_cons, wipeE, wiRng1, wiRng2, wiSeq, wiEnum, wiZip,
    exists_eq_left, exists_eq_left', exists_eq_right, exists_eq_right', Option.some.injEq, D.int.injEq, D.bl.injEq, D.str.injEq, D.lst.injEq, D.tup.injEq, D.row.injEq, D.own.injEq, D.adr.injEq, D.ty.injEq, reduceCtorEq, List.cons.injEq, true_and, and_true, false_and, and_false, or_false, false_or, exists_false, if_true, if_false, Bool.not_true, Bool.not_false, Bool.false_eq_true, and_self, true_or, or_true, exists_and_left, exists_and_right, ite_true, ite_false, exists_const, exists_eq, exists_eq', decide_true, decide_false, Bool.not_true, Bool.not_false, F_need_row, F_cross_spans]
    exact ⟨h1, h2, q⟩
  · exact h.elim

end
end K14

set_option Elab.async false
set_option linter.all false
set_option maxRecDepth 100000
set_option maxHeartbeats 4000001

namespace K14
open PySem PySem.Spec PyProof.Rows L2 Dp
section
variable {P : Program} {w : World} {mg : Str → Option Value} {base : Heap} {c : Cb} {f : Addr} {fd : FuncData}
theorem ok_init (Fn : FunD c.K "__init__" "Row.__init__" (defArgs s_Row___init__) (defBody s_Row___init__) (defScope s_Row___init__) [] [] f fd) (T : Tb c mg) (d_are_integers : Dn P w c.K mg base "are_integers" 3 ["value"] (spD c 1 F_are_integers)) : FnOk P w c.K mg base CX0 5 f fd ["self", "numbers"] (spInit c) := by
  refine fn_raw Fn sc_Row___init__ (fun vs H Q E h => by obtain ⟨x, dx, v, _, _, _, _, _, _, rfl, _⟩ := h; rfl) fun cdv A outer s H E hr => ⟨_, (pss_cons (ps_if (PW.pt (pw_or (pt_not (pt_val (pe_d d_are_integers hr (by rfl) (pa_cons (pv 1) pa_nil)))) (pw_or1 (pt_not (pt_chain opLe opLe pe_int (pe_callB (lenK (K := c.K)) (by rfl) T.b_len (by decide +kernel) (pa_cons (pv 1) pa_nil)) pe_int))))) (pss_one ps_never) pss_nil)
 (pss_cons (ps_fld (pv 0) (pe_callTy (tupleK (K := c.K)) (by rfl) T.b_tuple (by decide +kernel) (pa_cons (pv 1) pa_nil)) (by rfl))
 (pss_cons (ps_fld (pv 0) (pe_callB (lenK (K := c.K)) (by rfl) T.b_len (by decide +kernel) (pa_cons (fldK (K := c.K) (pv 0) (by rfl)) pa_nil)) (by rfl))
 (pss_cons (ps_fld (pv 0) (pe_callB (sumK (K := c.K)) (by rfl) T.b_sum (by decide +kernel) (pa_cons (fldK (K := c.K) (pv 0) (by rfl)) pa_nil)) (by rfl))
 (pss_cons (ps_fld (pv 0) (pe_callTy (tupleK (K := c.K)) (by rfl) T.b_tuple (by decide +kernel) (pa_cons (pe_lc (own := [("beat", 2), ("number", 3)]) (g := gTup _ 2 (gCons (gName 2) (gCons (gName 3) gNil))) (by rfl) sc_Row___init__.nd (pi_enumA (by rfl) T.b_enumerate (pa_cons (fldK (K := c.K) (pv 0) (by rfl)) pa_nil)) (blkOk_by (N := ["self", "numbers", "beat", "number"]) (sc := defScope s_Row___init__) (by decide +kernel)) (fun _ _ _ _ _ => (pg_tup rfl (pgs_cons (pg_name (i := 2) sc_Row___init__.nd rfl (by first | exact .inl rfl | exact .inr rfl)) (pgs_cons (pg_name (i := 3) sc_Row___init__.nd rfl (by first | exact .inl rfl | exact .inr rfl)) pgs_nil)))) (fun _ _ _ _ _ => (pts_one (pt_cmpR (ne0K (K := c.K) hr) (pv 3) pe_int (nomark _)))) (fun _ _ _ _ _ => (pv 2))) pa_nil)) (by rfl))
 (pss_one (ps_fld (pv 0) (pe_callB (allK (K := c.K)) (by rfl) T.b_all (by decide +kernel) (pa_cons (pe_lc (own := [("beat", 2)]) (g := gName 2) (by rfl) sc_Row___init__.nd (pi_seq (fldK (K := c.K) (pv 0) (by rfl))) (blkOk_by (N := ["self", "numbers", "beat", "number"]) (sc := defScope s_Row___init__) (by decide +kernel)) (fun _ _ _ _ _ => (pg_name (i := 2) sc_Row___init__.nd rfl (by first | exact .inl rfl | exact .inr rfl))) (fun _ _ _ _ _ => pts_nil) (fun _ _ _ _ _ => (pe_cmpR (eq0K (K := c.K) hr) (pe_ix (ixK (K := c.K)) (fldK (K := c.K) (pv 0) (by rfl)) (pv 2) (fun _ _ => rfl)) pe_int (nomark _)))) pa_nil)) (by rfl)))))))), fun vs Q h => ?_⟩
  obtain ⟨x, dx, v, t, H1, G, n, d, ns, rfl, rfl, nx, ndx, ne, gh, gt, pen, rd, sq, l1, l2, q⟩ := h
  have I0 := Ini.start (c := c) (C := c.R) gh gt pen nx ndx ne
  have hd : d = .lst (ns.map D.int) ∨ d = .tup (ns.map D.int) := by
    cases d <;> simp only [seqI] at sq <;> first | (cases sq; first | exact .inl rfl | exact .inr rfl) | cases sq
  have r0 : RpS c t (upd G x (.ins c.R dx [])) (L2.start ["self", "numbers", "beat", "number"] [.ref x, v]) [some (.adr x), some d, none, none] := rpS_start (ds := [.adr x, d]) (RpL.cons (by simp only [Rp]) (RpL.one (Rp.mono (same_new I0.gx) _ _ rd)))
  refine (sndS_if (sndT_or (sndT_not (sndT_B (snd_call l_are_integers (sndA_cons snd_var sndA_nil)))) (sndT_not (sndT_test (snd_chain sndR_le sndR_le snd_int (snd_cb sndC_len (sndA_cons snd_var sndA_nil)) snd_int)))) sndS_never sndS_next) t _ _ _ _ _ _ [] n ⟨fun ds μ n' => ds = [some (.adr x), some d, none, none] ∧ μ = [] ∧ n' = n, fun _ _ => False, fun _ _ _ => False, fun _ _ _ => False⟩ _ r0 I0.s ?_ (fun _ _ _ _ _ _ _ h => h.elim) (fun _ _ _ _ _ _ _ _ h => h.elim) (fun _ _ _ _ _ _ _ _ h => h.elim) ?_
  · rintro σ1 H2 G2 ds2 μ2 n2 r2 s2 ⟨rfl, rfl, rfl⟩
    have I2 := I0.go s2
    refine init_fld (a := .tup ns) (snd_cb sndC_tuple (sndA_cons snd_var sndA_nil)) T.row.cl T.row.nN (by simp) (by decide) I2 r2 ?_ fun H3 G3 I3 r3 => ?_
    · rcases hd with rfl | rfl <;> simp only [wSeq, wNext, wRet, wRetN, wNever, wDrop, wIfS, wAsg, gwName, dv_gtup, dv_gunl, dv_gcons, dv_gnil, wPar, wPar3, wAug, wSetO, wAugO, wApp, wVar, wC, wOp, wUn, asBl, wAnd, wOr, wNot, wAndV, wOrV, wNotV, wIf, wNil, wCons, wTup, wLst, wLstO, wCB, wCall, wCallK1, wMeth, wRel, wMk, wPen0, wPen1, wPen2, wPenS1, wPenS2, wSMeth, dv_make, wRowF, wSl, woNo, woSome, wChain, wYes, wIsi2,
    dv_add_int, dv_add_lst, dv_add_tup, dv_mul_int, dv_mul_lst, dv_mul_tup, rdMulO, dv_i0, dv_i2, rdNeg, rdSl, dv_int_int, dv_int_bl, dv_abs, dv_ne0_lst0, dv_eq0_lst0, rdList, rdListO, rdIsi, dv_eq_row, dv_ne_row, dv_eq_tup, dv_ne_tup, dv_ne_tup0, dv_eq_lst, dv_ne_lst, dv_eq_int, dv_ne_int, dv_eq0_tup, dv_eq0_int, dv_ne0_int, dv_ne0_tup, dv_mk_lst, dv_mk_tup, dv_sum_lst, dv_sum_tup, dv_tuple_lst, dv_tuple_tup, dv_len_lst, dv_len_tup, dv_all, frzL_ints,  rdIs, rdIsNot, Dp.isNon, seqOf, seqI, frz, startD, kg, isiD_non, isiD_bl, isiD_int, isiD_str, isiD_lst, isiD_tup, isiD2_non, isiD2_bl, isiD2_int, isiD2_str, isiD2_lst, isiD2_tup, kb_non_int, kb_bl_int, kb_int_int, kb_str_int, kb_lst_int, kb_tup_int, kb_non_bool, kb_bl_bool, kb_int_bool, kb_str_str, kb_int_str, kb2_non, kb2_bl, kb2_int, kb2_str, kb2_lst, kb2_tup, isi_row_int, isi_row_list, isi_row_tuple, isi_row_str, isi2_row,
    List.map_cons, List.map_nil, List.length_cons, List.length_nil, List.getElem?_cons_zero, List.getElem?_cons_succ, List.set_cons_zero, List.set_cons_succ, List.replicate_succ, List.replicate_zero, List.cons_append, List.nil_append, List.append_nil, Nat.zero_add, Nat.reduceAdd, Nat.reduceSub, List.tail_cons, wipeE, wiRng1, wiRng2, wiSeq, wiEnum, wiZip,
    exists_eq_left, exists_eq_left', exists_eq_right, exists_eq_right', Option.some.injEq, D.int.injEq, D.bl.injEq, D.str.injEq, D.lst.injEq, D.tup.injEq, D.row.injEq, D.own.injEq, D.adr.injEq, D.ty.injEq, reduceCtorEq, List.cons.injEq, true_and, and_true, false_and, and_false, or_false, false_or, exists_false, if_true, if_false, Bool.not_true, Bool.not_false, Bool.false_eq_true, and_self, true_or, or_true, exists_and_left, exists_and_right, ite_true, ite_false, exists_const, exists_eq, exists_eq', decide_true, decide_false, Bool.not_true, Bool.not_false, fvD]
    refine init_fld (a := .int ns.length) (snd_cb sndC_len (sndA_cons (snd_of T.row.cl T.row.nN snd_var) sndA_nil)) T.row.cl T.row.nM (by show ("many" : Str) ∉ (["numbers"] : List Str); decide +kernel) (by show (1 : Nat) < 1000; decide) I3 r3 ?_ fun H4 G4 I4 r4 => ?_
    · simp only [wSeq, wNext, wRet, wRetN, wNever, wDrop, wIfS, wAsg, gwName, dv_gtup, dv_gunl, dv_gcons, dv_gnil, wPar, wPar3, wAug, wSetO, wAugO, wApp, wVar, wC, wOp, wUn, asBl, wAnd, wOr, wNot, wAndV, wOrV, wNotV, wIf, wNil, wCons, wTup, wLst, wLstO, wCB, wCall, wCallK1, wMeth, wRel, wMk, wPen0, wPen1, wPen2, wPenS1, wPenS2, wSMeth, dv_make, wRowF, wSl, woNo, woSome, wChain, wYes, wIsi2,
    dv_add_int, dv_add_lst, dv_add_tup, dv_mul_int, dv_mul_lst, dv_mul_tup, rdMulO, dv_i0, dv_i2, rdNeg, rdSl, dv_int_int, dv_int_bl, dv_abs, dv_ne0_lst0, dv_eq0_lst0, rdList, rdListO, rdIsi, dv_eq_row, dv_ne_row, dv_eq_tup, dv_ne_tup, dv_ne_tup0, dv_eq_lst, dv_ne_lst, dv_eq_int, dv_ne_int, dv_eq0_tup, dv_eq0_int, dv_ne0_int, dv_ne0_tup, dv_mk_lst, dv_mk_tup, dv_sum_lst, dv_sum_tup, dv_tuple_lst, dv_tuple_tup, dv_len_lst, dv_len_tup, dv_all, frzL_ints,  rdIs, rdIsNot, Dp.isNon, seqOf, seqI, frz, startD, kg, isiD_non, isiD_bl, isiD_int, isiD_str, isiD_lst, isiD_tup, isiD2_non, isiD2_bl, isiD2_int, isiD2_str, isiD2_lst, isiD2_tup, kb_non_int, kb_bl_int, kb_int_int, kb_str_int, kb_lst_int, kb_tup_int, kb_non_bool, kb_bl_bool, kb_int_bool, kb_str_str, kb_int_str, kb2_non, kb2_bl, kb2_int, kb2_str, kb2_lst, kb2_tup, isi_row_int, isi_row_list, isi_row_tuple, isi_row_str, isi2_row,
    List.map_cons, List.map_nil, List.length_cons, List.length_nil, List.getElem?_cons_zero, List.getElem?_cons_succ, List.set_cons_zero, List.set_cons_succ, List.replicate_succ, List.replicate_zero, List.cons_append, List.nil_append, List.append_nil, Nat.zero_add, Nat.reduceAdd, Nat.reduceSub, List.tail_cons, wipeE, wiRng1, wiRng2, wiSeq, wiEnum, wiZip,
    exists_eq_left, exists_eq_left', exists_eq_right, exists_eq_right', Option.some.injEq, D.int.injEq, D.bl.injEq, D.str.injEq, D.lst.injEq, D.tup.injEq, D.row.injEq, D.own.injEq, D.adr.injEq, D.ty.injEq, reduceCtorEq, List.cons.injEq, true_and, and_true, false_and, and_false, or_false, false_or, exists_false, if_true, if_false, Bool.not_true, Bool.not_false, Bool.false_eq_true, and_self, true_or, or_true, exists_and_left, exists_and_right, ite_true, ite_false, exists_const, exists_eq, exists_eq', decide_true, decide_false, Bool.not_true, Bool.not_false, wOF]
      exact ⟨_, rfl, _, lkn, by simp only [wSeq, wNext, wRet, wRetN, wNever, wDrop, wIfS, wAsg, gwName, dv_gtup, dv_gunl, dv_gcons, dv_gnil, wPar, wPar3, wAug, wSetO, wAugO, wApp, wVar, wC, wOp, wUn, asBl, wAnd, wOr, wNot, wAndV, wOrV, wNotV, wIf, wNil, wCons, wTup, wLst, wLstO, wCB, wCall, wCallK1, wMeth, wRel, wMk, wPen0, wPen1, wPen2, wPenS1, wPenS2, wSMeth, dv_make, wRowF, wSl, woNo, woSome, wChain, wYes, wIsi2,
    dv_add_int, dv_add_lst, dv_add_tup, dv_mul_int, dv_mul_lst, dv_mul_tup, rdMulO, dv_i0, dv_i2, rdNeg, rdSl, dv_int_int, dv_int_bl, dv_abs, dv_ne0_lst0, dv_eq0_lst0, rdList, rdListO, rdIsi, dv_eq_row, dv_ne_row, dv_eq_tup, dv_ne_tup, dv_ne_tup0, dv_eq_lst, dv_ne_lst, dv_eq_int, dv_ne_int, dv_eq0_tup, dv_eq0_int, dv_ne0_int, dv_ne0_tup, dv_mk_lst, dv_mk_tup, dv_sum_lst, dv_sum_tup, dv_tuple_lst, dv_tuple_tup, dv_len_lst, dv_len_tup, dv_all, frzL_ints,  rdIs, rdIsNot, Dp.isNon, seqOf, seqI, frz, startD, kg, isiD_non, isiD_bl, isiD_int, isiD_str, isiD_lst, isiD_tup, isiD2_non, isiD2_bl, isiD2_int, isiD2_str, isiD2_lst, isiD2_tup, kb_non_int, kb_bl_int, kb_int_int, kb_str_int, kb_lst_int, kb_tup_int, kb_non_bool, kb_bl_bool, kb_int_bool, kb_str_str, kb_int_str, kb2_non, kb2_bl, kb2_int, kb2_str, kb2_lst, kb2_tup, isi_row_int, isi_row_list, isi_row_tuple, isi_row_str, isi2_row,
    List.map_cons, List.map_nil, List.length_cons, List.length_nil, List.getElem?_cons_zero, List.getElem?_cons_succ, List.set_cons_zero, List.set_cons_succ, List.replicate_succ, List.replicate_zero, List.cons_append, List.nil_append, List.append_nil, Nat.zero_add, Nat.reduceAdd, Nat.reduceSub, List.tail_cons, wipeE, wiRng1, wiRng2, wiSeq, wiEnum, wiZip,
    exists_eq_left, exists_eq_left', exists_eq_right, exists_eq_right', Option.some.injEq, D.int.injEq, D.bl.injEq, D.str.injEq, D.lst.injEq, D.tup.injEq, D.row.injEq, D.own.injEq, D.adr.injEq, D.ty.injEq, reduceCtorEq, List.cons.injEq, true_and, and_true, false_and, and_false, or_false, false_or, exists_false, if_true, if_false, Bool.not_true, Bool.not_false, Bool.false_eq_true, and_self, true_or, or_true, exists_and_left, exists_and_right, ite_true, ite_false, exists_const, exists_eq, exists_eq', decide_true, decide_false, Bool.not_true, Bool.not_false, fvD, List.length_map]⟩
    refine init_fld (a := .int ns.sum) (snd_cb sndC_sum (sndA_cons (snd_of T.row.cl T.row.nN snd_var) sndA_nil)) T.row.cl T.row.nT (by show ("total" : Str) ∉ (["numbers", "many"] : List Str); decide +kernel) (by show (2 : Nat) < 1000; decide) I4 r4 ?_ fun H5 G5 I5 r5 => ?_
    · simp only [wSeq, wNext, wRet, wRetN, wNever, wDrop, wIfS, wAsg, gwName, dv_gtup, dv_gunl, dv_gcons, dv_gnil, wPar, wPar3, wAug, wSetO, wAugO, wApp, wVar, wC, wOp, wUn, asBl, wAnd, wOr, wNot, wAndV, wOrV, wNotV, wIf, wNil, wCons, wTup, wLst, wLstO, wCB, wCall, wCallK1, wMeth, wRel, wMk, wPen0, wPen1, wPen2, wPenS1, wPenS2, wSMeth, dv_make, wRowF, wSl, woNo, woSome, wChain, wYes, wIsi2,
    dv_add_int, dv_add_lst, dv_add_tup, dv_mul_int, dv_mul_lst, dv_mul_tup, rdMulO, dv_i0, dv_i2, rdNeg, rdSl, dv_int_int, dv_int_bl, dv_abs, dv_ne0_lst0, dv_eq0_lst0, rdList, rdListO, rdIsi, dv_eq_row, dv_ne_row, dv_eq_tup, dv_ne_tup, dv_ne_tup0, dv_eq_lst, dv_ne_lst, dv_eq_int, dv_ne_int, dv_eq0_tup, dv_eq0_int, dv_ne0_int, dv_ne0_tup, dv_mk_lst, dv_mk_tup, dv_sum_lst, dv_sum_tup, dv_tuple_lst, dv_tuple_tup, dv_len_lst, dv_len_tup, dv_all, frzL_ints,  rdIs, rdIsNot, Dp.isNon, seqOf, seqI, frz, startD, kg, isiD_non, isiD_bl, isiD_int, isiD_str, isiD_lst, isiD_tup, isiD2_non, isiD2_bl, isiD2_int, isiD2_str, isiD2_lst, isiD2_tup, kb_non_int, kb_bl_int, kb_int_int, kb_str_int, kb_lst_int, kb_tup_int, kb_non_bool, kb_bl_bool, kb_int_bool, kb_str_str, kb_int_str, kb2_non, kb2_bl, kb2_int, kb2_str, kb2_lst, kb2_tup, isi_row_int, isi_row_list, isi_row_tuple, isi_row_str, isi2_row,
    List.map_cons, List.map_nil, List.length_cons, List.length_nil, List.getElem?_cons_zero, List.getElem?_cons_succ, List.set_cons_zero, List.set_cons_succ, List.replicate_succ, List.replicate_zero, List.cons_append, List.nil_append, List.append_nil, Nat.zero_add, Nat.reduceAdd, Nat.reduceSub, List.tail_cons, wipeE, wiRng1, wiRng2, wiSeq, wiEnum, wiZip,
    exists_eq_left, exists_eq_left', exists_eq_right, exists_eq_right', Option.some.injEq, D.int.injEq, D.bl.injEq, D.str.injEq, D.lst.injEq, D.tup.injEq, D.row.injEq, D.own.injEq, D.adr.injEq, D.ty.injEq, reduceCtorEq, List.cons.injEq, true_and, and_true, false_and, and_false, or_false, false_or, exists_false, if_true, if_false, Bool.not_true, Bool.not_false, Bool.false_eq_true, and_self, true_or, or_true, exists_and_left, exists_and_right, ite_true, ite_false, exists_const, exists_eq, exists_eq', decide_true, decide_false, Bool.not_true, Bool.not_false, wOF]
      exact ⟨_, rfl, _, lkn, by simp only [wSeq, wNext, wRet, wRetN, wNever, wDrop, wIfS, wAsg, gwName, dv_gtup, dv_gunl, dv_gcons, dv_gnil, wPar, wPar3, wAug, wSetO, wAugO, wApp, wVar, wC, wOp, wUn, asBl, wAnd, wOr, wNot, wAndV, wOrV, wNotV, wIf, wNil, wCons, wTup, wLst, wLstO, wCB, wCall, wCallK1, wMeth, wRel, wMk, wPen0, wPen1, wPen2, wPenS1, wPenS2, wSMeth, dv_make, wRowF, wSl, woNo, woSome, wChain, wYes, wIsi2,
    dv_add_int, dv_add_lst, dv_add_tup, dv_mul_int, dv_mul_lst, dv_mul_tup, rdMulO, dv_i0, dv_i2, rdNeg, rdSl, dv_int_int, dv_int_bl, dv_abs, dv_ne0_lst0, dv_eq0_lst0, rdList, rdListO, rdIsi, dv_eq_row, dv_ne_row, dv_eq_tup, dv_ne_tup, dv_ne_tup0, dv_eq_lst, dv_ne_lst, dv_eq_int, dv_ne_int, dv_eq0_tup, dv_eq0_int, dv_ne0_int, dv_ne0_tup, dv_mk_lst, dv_mk_tup, dv_sum_lst, dv_sum_tup, dv_tuple_lst, dv_tuple_tup, dv_len_lst, dv_len_tup, dv_all, frzL_ints,  rdIs, rdIsNot, Dp.isNon, seqOf, seqI, frz, startD, kg, isiD_non, isiD_bl, isiD_int, isiD_str, isiD_lst, isiD_tup, isiD2_non, isiD2_bl, isiD2_int, isiD2_str, isiD2_lst, isiD2_tup, kb_non_int, kb_bl_int, kb_int_int, kb_str_int, kb_lst_int, kb_tup_int, kb_non_bool, kb_bl_bool, kb_int_bool, kb_str_str, kb_int_str, kb2_non, kb2_bl, kb2_int, kb2_str, kb2_lst, kb2_tup, isi_row_int, isi_row_list, isi_row_tuple, isi_row_str, isi2_row,
    List.map_cons, List.map_nil, List.length_cons, List.length_nil, List.getElem?_cons_zero, List.getElem?_cons_succ, List.set_cons_zero, List.set_cons_succ, List.replicate_succ, List.replicate_zero, List.cons_append, List.nil_append, List.append_nil, Nat.zero_add, Nat.reduceAdd, Nat.reduceSub, List.tail_cons, wipeE, wiRng1, wiRng2, wiSeq, wiEnum, wiZip,
    exists_eq_left, exists_eq_left', exists_eq_right, exists_eq_right', Option.some.injEq, D.int.injEq, D.bl.injEq, D.str.injEq, D.lst.injEq, D.tup.injEq, D.row.injEq, D.own.injEq, D.adr.injEq, D.ty.injEq, reduceCtorEq, List.cons.injEq, true_and, and_true, false_and, and_false, or_false, false_or, exists_false, if_true, if_false, Bool.not_true, Bool.not_false, Bool.false_eq_true, and_self, true_or, or_true, exists_and_left, exists_and_right, ite_true, ite_false, exists_const, exists_eq, exists_eq', decide_true, decide_false, Bool.not_true, Bool.not_false, fvD]⟩
    refine init_fld (a := .tup (marksOf ns)) (snd_cb sndC_tuple (sndA_cons (snd_lc (sndI_enum (sndA_cons (snd_of T.row.cl T.row.nN snd_var) sndA_nil)) (sndG_tup (sndGs_cons sndG_name (sndGs_cons sndG_name sndGs_nil))) (okT_pair (by decide) (by decide)) (sndT_test (snd_op sndR_ne0 snd_var snd_int)) snd_var) sndA_nil)) T.row.cl T.row.nK (by show ("marks" : Str) ∉ (["numbers", "many", "total"] : List Str); decide +kernel) (by show (3 : Nat) < 1000; decide) I5 r5 ?_ fun H6 G6 I6 r6 => ?_
    · simp only [wSeq, wNext, wRet, wRetN, wNever, wDrop, wIfS, wAsg, gwName, dv_gtup, dv_gunl, dv_gcons, dv_gnil, wPar, wPar3, wAug, wSetO, wAugO, wApp, wVar, wC, wOp, wUn, asBl, wAnd, wOr, wNot, wAndV, wOrV, wNotV, wIf, wNil, wCons, wTup, wLst, wLstO, wCB, wCall, wCallK1, wMeth, wRel, wMk, wPen0, wPen1, wPen2, wPenS1, wPenS2, wSMeth, dv_make, wRowF, wSl, woNo, woSome, wChain, wYes, wIsi2,
    dv_add_int, dv_add_lst, dv_add_tup, dv_mul_int, dv_mul_lst, dv_mul_tup, rdMulO, dv_i0, dv_i2, rdNeg, rdSl, dv_int_int, dv_int_bl, dv_abs, dv_ne0_lst0, dv_eq0_lst0, rdList, rdListO, rdIsi, dv_eq_row, dv_ne_row, dv_eq_tup, dv_ne_tup, dv_ne_tup0, dv_eq_lst, dv_ne_lst, dv_eq_int, dv_ne_int, dv_eq0_tup, dv_eq0_int, dv_ne0_int, dv_ne0_tup, dv_mk_lst, dv_mk_tup, dv_sum_lst, dv_sum_tup, dv_tuple_lst, dv_tuple_tup, dv_len_lst, dv_len_tup, dv_all, frzL_ints,  rdIs, rdIsNot, Dp.isNon, seqOf, seqI, frz, startD, kg, isiD_non, isiD_bl, isiD_int, isiD_str, isiD_lst, isiD_tup, isiD2_non, isiD2_bl, isiD2_int, isiD2_str, isiD2_lst, isiD2_tup, kb_non_int, kb_bl_int, kb_int_int, kb_str_int, kb_lst_int, kb_tup_int, kb_non_bool, kb_bl_bool, kb_int_bool, kb_str_str, kb_int_str, kb2_non, kb2_bl, kb2_int, kb2_str, kb2_lst, kb2_tup, isi_row_int, isi_row_list, isi_row_tuple, isi_row_str, isi2_row,
    List.map_cons, List.map_nil, List.length_cons, List.length_nil, List.getElem?_cons_zero, List.getElem?_cons_succ, List.set_cons_zero, List.set_cons_succ, List.replicate_succ, List.replicate_zero, List.cons_append, List.nil_append, List.append_nil, Nat.zero_add, Nat.reduceAdd, Nat.reduceSub, List.tail_cons, wipeE, wiRng1, wiRng2, wiSeq, wiEnum, wiZip,
    exists_eq_left, exists_eq_left', exists_eq_right, exists_eq_right', Option.some.injEq, D.int.injEq, D.bl.injEq, D.str.injEq, D.lst.injEq, D.tup.injEq, D.row.injEq, D.own.injEq, D.adr.injEq, D.ty.injEq, reduceCtorEq, List.cons.injEq, true_and, and_true, false_and, and_false, or_false, false_or, exists_false, if_true, if_false, Bool.not_true, Bool.not_false, Bool.false_eq_true, and_self, true_or, or_true, exists_and_left, exists_and_right, ite_true, ite_false, exists_const, exists_eq, exists_eq', decide_true, decide_false, Bool.not_true, Bool.not_false]
      refine lc_j (items := enumD (ns.map D.int)) (μ1 := []) (n1 := n2) (fun i acc n' => acc = (marksFrom 0 (ns.take i)).map D.int ∧ n' = n2) (fun k q => ?_) (by rw [enumD_len, List.length_map]; omega) ⟨rfl, rfl⟩ ?_ ?_
      · simp only [wSeq, wNext, wRet, wRetN, wNever, wDrop, wIfS, wAsg, gwName, dv_gtup, dv_gunl, dv_gcons, dv_gnil, wPar, wPar3, wAug, wSetO, wAugO, wApp, wVar, wC, wOp, wUn, asBl, wAnd, wOr, wNot, wAndV, wOrV, wNotV, wIf, wNil, wCons, wTup, wLst, wLstO, wCB, wCall, wCallK1, wMeth, wRel, wMk, wPen0, wPen1, wPen2, wPenS1, wPenS2, wSMeth, dv_make, wRowF, wSl, woNo, woSome, wChain, wYes, wIsi2,
    dv_add_int, dv_add_lst, dv_add_tup, dv_mul_int, dv_mul_lst, dv_mul_tup, rdMulO, dv_i0, dv_i2, rdNeg, rdSl, dv_int_int, dv_int_bl, dv_abs, dv_ne0_lst0, dv_eq0_lst0, rdList, rdListO, rdIsi, dv_eq_row, dv_ne_row, dv_eq_tup, dv_ne_tup, dv_ne_tup0, dv_eq_lst, dv_ne_lst, dv_eq_int, dv_ne_int, dv_eq0_tup, dv_eq0_int, dv_ne0_int, dv_ne0_tup, dv_mk_lst, dv_mk_tup, dv_sum_lst, dv_sum_tup, dv_tuple_lst, dv_tuple_tup, dv_len_lst, dv_len_tup, dv_all, frzL_ints,  rdIs, rdIsNot, Dp.isNon, seqOf, seqI, frz, startD, kg, isiD_non, isiD_bl, isiD_int, isiD_str, isiD_lst, isiD_tup, isiD2_non, isiD2_bl, isiD2_int, isiD2_str, isiD2_lst, isiD2_tup, kb_non_int, kb_bl_int, kb_int_int, kb_str_int, kb_lst_int, kb_tup_int, kb_non_bool, kb_bl_bool, kb_int_bool, kb_str_str, kb_int_str, kb2_non, kb2_bl, kb2_int, kb2_str, kb2_lst, kb2_tup, isi_row_int, isi_row_list, isi_row_tuple, isi_row_str, isi2_row,
    List.map_cons, List.map_nil, List.length_cons, List.length_nil, List.getElem?_cons_zero, List.getElem?_cons_succ, List.set_cons_zero, List.set_cons_succ, List.replicate_succ, List.replicate_zero, List.cons_append, List.nil_append, List.append_nil, Nat.zero_add, Nat.reduceAdd, Nat.reduceSub, List.tail_cons, wipeE, wiRng1, wiRng2, wiSeq, wiEnum, wiZip,
    exists_eq_left, exists_eq_left', exists_eq_right, exists_eq_right', Option.some.injEq, D.int.injEq, D.bl.injEq, D.str.injEq, D.lst.injEq, D.tup.injEq, D.row.injEq, D.own.injEq, D.adr.injEq, D.ty.injEq, reduceCtorEq, List.cons.injEq, true_and, and_true, false_and, and_false, or_false, false_or, exists_false, if_true, if_false, Bool.not_true, Bool.not_false, Bool.false_eq_true, and_self, true_or, or_true, exists_and_left, exists_and_right, ite_true, ite_false, exists_const, exists_eq, exists_eq', decide_true, decide_false, Bool.not_true, Bool.not_false, wOF]
        exact ⟨_, rfl, _, lkn, _, rfl, q⟩
      · rintro i d p acc n' J hd hi hp ⟨rfl, rfl⟩ hJ
        rw [enumD_len, List.length_map] at hi
        rw [enum_ints] at hd
        obtain ⟨i', hi', rfl⟩ := map_get hd
        rw [List.getElem?_range hi] at hi'
        cases hi'
        have e := marksFrom_push 0 (nt ns i) (ns.take i)
        rw [take_push (nt_lt hi), List.length_take, Nat.min_eq_left (by omega), Nat.zero_add] at e
        rw [show ns.getD i 0 = nt ns i from rfl]
        simp only [wSeq, wNext, wRet, wRetN, wNever, wDrop, wIfS, wAsg, gwName, dv_gtup, dv_gunl, dv_gcons, dv_gnil, wPar, wPar3, wAug, wSetO, wAugO, wApp, wVar, wC, wOp, wUn, asBl, wAnd, wOr, wNot, wAndV, wOrV, wNotV, wIf, wNil, wCons, wTup, wLst, wLstO, wCB, wCall, wCallK1, wMeth, wRel, wMk, wPen0, wPen1, wPen2, wPenS1, wPenS2, wSMeth, dv_make, wRowF, wSl, woNo, woSome, wChain, wYes, wIsi2,
    dv_add_int, dv_add_lst, dv_add_tup, dv_mul_int, dv_mul_lst, dv_mul_tup, rdMulO, dv_i0, dv_i2, rdNeg, rdSl, dv_int_int, dv_int_bl, dv_abs, dv_ne0_lst0, dv_eq0_lst0, rdList, rdListO, rdIsi, dv_eq_row, dv_ne_row, dv_eq_tup, dv_ne_tup, dv_ne_tup0, dv_eq_lst, dv_ne_lst, dv_eq_int, dv_ne_int, dv_eq0_tup, dv_eq0_int, dv_ne0_int, dv_ne0_tup, dv_mk_lst, dv_mk_tup, dv_sum_lst, dv_sum_tup, dv_tuple_lst, dv_tuple_tup, dv_len_lst, dv_len_tup, dv_all, frzL_ints,  rdIs, rdIsNot, Dp.isNon, seqOf, seqI, frz, startD, kg, isiD_non, isiD_bl, isiD_int, isiD_str, isiD_lst, isiD_tup, isiD2_non, isiD2_bl, isiD2_int, isiD2_str, isiD2_lst, isiD2_tup, kb_non_int, kb_bl_int, kb_int_int, kb_str_int, kb_lst_int, kb_tup_int, kb_non_bool, kb_bl_bool, kb_int_bool, kb_str_str, kb_int_str, kb2_non, kb2_bl, kb2_int, kb2_str, kb2_lst, kb2_tup, isi_row_int, isi_row_list, isi_row_tuple, isi_row_str, isi2_row,
    List.map_cons, List.map_nil, List.length_cons, List.length_nil, List.getElem?_cons_zero, List.getElem?_cons_succ, List.set_cons_zero, List.set_cons_succ, List.replicate_succ, List.replicate_zero, List.cons_append, List.nil_append, List.append_nil, Nat.zero_add, Nat.reduceAdd, Nat.reduceSub, List.tail_cons, wipeE, wiRng1, wiRng2, wiSeq, wiEnum, wiZip,
    exists_eq_left, exists_eq_left', exists_eq_right, exists_eq_right', Option.some.injEq, D.int.injEq, D.bl.injEq, D.str.injEq, D.lst.injEq, D.tup.injEq, D.row.injEq, D.own.injEq, D.adr.injEq, D.ty.injEq, reduceCtorEq, List.cons.injEq, true_and, and_true, false_and, and_false, or_false, false_or, exists_false, if_true, if_false, Bool.not_true, Bool.not_false, Bool.false_eq_true, and_self, true_or, or_true, exists_and_left, exists_and_right, ite_true, ite_false, exists_const, exists_eq, exists_eq', decide_true, decide_false, Bool.not_true, Bool.not_false]
        by_cases h0 : nt ns i = 0
        · rw [if_neg (by simpa using h0)]
          exact hJ _ _ ⟨by rw [e, if_pos h0, List.append_nil], rfl⟩
        · rw [if_pos (by simpa using h0)]
          exact hJ _ _ ⟨by rw [e, if_neg h0, List.map_append]; rfl, rfl⟩
      · rintro acc n' ⟨rfl, rfl⟩
        rw [enumD_len, List.length_map, List.take_length]
        simp only [wSeq, wNext, wRet, wRetN, wNever, wDrop, wIfS, wAsg, gwName, dv_gtup, dv_gunl, dv_gcons, dv_gnil, wPar, wPar3, wAug, wSetO, wAugO, wApp, wVar, wC, wOp, wUn, asBl, wAnd, wOr, wNot, wAndV, wOrV, wNotV, wIf, wNil, wCons, wTup, wLst, wLstO, wCB, wCall, wCallK1, wMeth, wRel, wMk, wPen0, wPen1, wPen2, wPenS1, wPenS2, wSMeth, dv_make, wRowF, wSl, woNo, woSome, wChain, wYes, wIsi2,
    dv_add_int, dv_add_lst, dv_add_tup, dv_mul_int, dv_mul_lst, dv_mul_tup, rdMulO, dv_i0, dv_i2, rdNeg, rdSl, dv_int_int, dv_int_bl, dv_abs, dv_ne0_lst0, dv_eq0_lst0, rdList, rdListO, rdIsi, dv_eq_row, dv_ne_row, dv_eq_tup, dv_ne_tup, dv_ne_tup0, dv_eq_lst, dv_ne_lst, dv_eq_int, dv_ne_int, dv_eq0_tup, dv_eq0_int, dv_ne0_int, dv_ne0_tup, dv_mk_lst, dv_mk_tup, dv_sum_lst, dv_sum_tup, dv_tuple_lst, dv_tuple_tup, dv_len_lst, dv_len_tup, dv_all, frzL_ints,  rdIs, rdIsNot, Dp.isNon, seqOf, seqI, frz, startD, kg, isiD_non, isiD_bl, isiD_int, isiD_str, isiD_lst, isiD_tup, isiD2_non, isiD2_bl, isiD2_int, isiD2_str, isiD2_lst, isiD2_tup, kb_non_int, kb_bl_int, kb_int_int, kb_str_int, kb_lst_int, kb_tup_int, kb_non_bool, kb_bl_bool, kb_int_bool, kb_str_str, kb_int_str, kb2_non, kb2_bl, kb2_int, kb2_str, kb2_lst, kb2_tup, isi_row_int, isi_row_list, isi_row_tuple, isi_row_str, isi2_row,
    List.map_cons, List.map_nil, List.length_cons, List.length_nil, List.getElem?_cons_zero, List.getElem?_cons_succ, List.set_cons_zero, List.set_cons_succ, List.replicate_succ, List.replicate_zero, List.cons_append, List.nil_append, List.append_nil, Nat.zero_add, Nat.reduceAdd, Nat.reduceSub, List.tail_cons, wipeE, wiRng1, wiRng2, wiSeq, wiEnum, wiZip,
    exists_eq_left, exists_eq_left', exists_eq_right, exists_eq_right', Option.some.injEq, D.int.injEq, D.bl.injEq, D.str.injEq, D.lst.injEq, D.tup.injEq, D.row.injEq, D.own.injEq, D.adr.injEq, D.ty.injEq, reduceCtorEq, List.cons.injEq, true_and, and_true, false_and, and_false, or_false, false_or, exists_false, if_true, if_false, Bool.not_true, Bool.not_false, Bool.false_eq_true, and_self, true_or, or_true, exists_and_left, exists_and_right, ite_true, ite_false, exists_const, exists_eq, exists_eq', decide_true, decide_false, Bool.not_true, Bool.not_false, fvD]
        rfl
    refine init_fld (a := .bl (isLot ns)) (snd_cb sndC_all (sndA_cons (snd_lc (sndI_seq (snd_of T.row.cl T.row.nK snd_var)) sndG_name (okT_name (by decide)) sndT_yes (snd_op sndR_eq0 (snd_op sndR_ix (snd_of T.row.cl T.row.nN snd_var) snd_var) snd_int)) sndA_nil)) T.row.cl T.row.nL (by show ("is_lot" : Str) ∉ (["numbers", "many", "total", "marks"] : List Str); decide +kernel) (by show (4 : Nat) < 1000; decide) I6 r6 ?_ fun H7 G7 I7 r7 => ?_
    · simp only [wSeq, wNext, wRet, wRetN, wNever, wDrop, wIfS, wAsg, gwName, dv_gtup, dv_gunl, dv_gcons, dv_gnil, wPar, wPar3, wAug, wSetO, wAugO, wApp, wVar, wC, wOp, wUn, asBl, wAnd, wOr, wNot, wAndV, wOrV, wNotV, wIf, wNil, wCons, wTup, wLst, wLstO, wCB, wCall, wCallK1, wMeth, wRel, wMk, wPen0, wPen1, wPen2, wPenS1, wPenS2, wSMeth, dv_make, wRowF, wSl, woNo, woSome, wChain, wYes, wIsi2,
    dv_add_int, dv_add_lst, dv_add_tup, dv_mul_int, dv_mul_lst, dv_mul_tup, rdMulO, dv_i0, dv_i2, rdNeg, rdSl, dv_int_int, dv_int_bl, dv_abs, dv_ne0_lst0, dv_eq0_lst0, rdList, rdListO, rdIsi, dv_eq_row, dv_ne_row, dv_eq_tup, dv_ne_tup, dv_ne_tup0, dv_eq_lst, dv_ne_lst, dv_eq_int, dv_ne_int, dv_eq0_tup, dv_eq0_int, dv_ne0_int, dv_ne0_tup, dv_mk_lst, dv_mk_tup, dv_sum_lst, dv_sum_tup, dv_tuple_lst, dv_tuple_tup, dv_len_lst, dv_len_tup, dv_all, frzL_ints,  rdIs, rdIsNot, Dp.isNon, seqOf, seqI, frz, startD, kg, isiD_non, isiD_bl, isiD_int, isiD_str, isiD_lst, isiD_tup, isiD2_non, isiD2_bl, isiD2_int, isiD2_str, isiD2_lst, isiD2_tup, kb_non_int, kb_bl_int, kb_int_int, kb_str_int, kb_lst_int, kb_tup_int, kb_non_bool, kb_bl_bool, kb_int_bool, kb_str_str, kb_int_str, kb2_non, kb2_bl, kb2_int, kb2_str, kb2_lst, kb2_tup, isi_row_int, isi_row_list, isi_row_tuple, isi_row_str, isi2_row,
    List.map_cons, List.map_nil, List.length_cons, List.length_nil, List.getElem?_cons_zero, List.getElem?_cons_succ, List.set_cons_zero, List.set_cons_succ, List.replicate_succ, List.replicate_zero, List.cons_append, List.nil_append, List.append_nil, Nat.zero_add, Nat.reduceAdd, Nat.reduceSub, List.tail_cons, wipeE, wiRng1, wiRng2, wiSeq, wiEnum, wiZip,
    exists_eq_left, exists_eq_left', exists_eq_right, exists_eq_right', Option.some.injEq, D.int.injEq, D.bl.injEq, D.str.injEq, D.lst.injEq, D.tup.injEq, D.row.injEq, D.own.injEq, D.adr.injEq, D.ty.injEq, reduceCtorEq, List.cons.injEq, true_and, and_true, false_and, and_false, or_false, false_or, exists_false, if_true, if_false, Bool.not_true, Bool.not_false, Bool.false_eq_true, and_self, true_or, or_true, exists_and_left, exists_and_right, ite_true, ite_false, exists_const, exists_eq, exists_eq', decide_true, decide_false, Bool.not_true, Bool.not_false]
      have hlen : (marksOf ns).length < 100000 := Nat.lt_of_le_of_lt (marksFrom_len ns 0) (by omega)
      refine lc_map (μ1 := []) (n1 := n2) (marksOf ns) (fun b => .int b) (fun b => .bl (decide (nt ns b.toNat = 1))) (fun k q => ?_) hlen (fun b p acc J hb _ hJ => ?_) ?_
      · simp only [wSeq, wNext, wRet, wRetN, wNever, wDrop, wIfS, wAsg, gwName, dv_gtup, dv_gunl, dv_gcons, dv_gnil, wPar, wPar3, wAug, wSetO, wAugO, wApp, wVar, wC, wOp, wUn, asBl, wAnd, wOr, wNot, wAndV, wOrV, wNotV, wIf, wNil, wCons, wTup, wLst, wLstO, wCB, wCall, wCallK1, wMeth, wRel, wMk, wPen0, wPen1, wPen2, wPenS1, wPenS2, wSMeth, dv_make, wRowF, wSl, woNo, woSome, wChain, wYes, wIsi2,
    dv_add_int, dv_add_lst, dv_add_tup, dv_mul_int, dv_mul_lst, dv_mul_tup, rdMulO, dv_i0, dv_i2, rdNeg, rdSl, dv_int_int, dv_int_bl, dv_abs, dv_ne0_lst0, dv_eq0_lst0, rdList, rdListO, rdIsi, dv_eq_row, dv_ne_row, dv_eq_tup, dv_ne_tup, dv_ne_tup0, dv_eq_lst, dv_ne_lst, dv_eq_int, dv_ne_int, dv_eq0_tup, dv_eq0_int, dv_ne0_int, dv_ne0_tup, dv_mk_lst, dv_mk_tup, dv_sum_lst, dv_sum_tup, dv_tuple_lst, dv_tuple_tup, dv_len_lst, dv_len_tup, dv_all, frzL_ints,  rdIs, rdIsNot, Dp.isNon, seqOf, seqI, frz, startD, kg, isiD_non, isiD_bl, isiD_int, isiD_str, isiD_lst, isiD_tup, isiD2_non, isiD2_bl, isiD2_int, isiD2_str, isiD2_lst, isiD2_tup, kb_non_int, kb_bl_int, kb_int_int, kb_str_int, kb_lst_int, kb_tup_int, kb_non_bool, kb_bl_bool, kb_int_bool, kb_str_str, kb_int_str, kb2_non, kb2_bl, kb2_int, kb2_str, kb2_lst, kb2_tup, isi_row_int, isi_row_list, isi_row_tuple, isi_row_str, isi2_row,
    List.map_cons, List.map_nil, List.length_cons, List.length_nil, List.getElem?_cons_zero, List.getElem?_cons_succ, List.set_cons_zero, List.set_cons_succ, List.replicate_succ, List.replicate_zero, List.cons_append, List.nil_append, List.append_nil, Nat.zero_add, Nat.reduceAdd, Nat.reduceSub, List.tail_cons, wipeE, wiRng1, wiRng2, wiSeq, wiEnum, wiZip,
    exists_eq_left, exists_eq_left', exists_eq_right, exists_eq_right', Option.some.injEq, D.int.injEq, D.bl.injEq, D.str.injEq, D.lst.injEq, D.tup.injEq, D.row.injEq, D.own.injEq, D.adr.injEq, D.ty.injEq, reduceCtorEq, List.cons.injEq, true_and, and_true, false_and, and_false, or_false, false_or, exists_false, if_true, if_false, Bool.not_true, Bool.not_false, Bool.false_eq_true, and_self, true_or, or_true, exists_and_left, exists_and_right, ite_true, ite_false, exists_const, exists_eq, exists_eq', decide_true, decide_false, Bool.not_true, Bool.not_false, wOF, wiSeq]
        exact ⟨_, rfl, _, lkm, _, rfl, q⟩
      · obtain ⟨i, h1, h2, h3⟩ := marksFrom_mem ns 0 hb
        rw [Nat.zero_add] at h2
        subst h2
        simp only [wSeq, wNext, wRet, wRetN, wNever, wDrop, wIfS, wAsg, gwName, dv_gtup, dv_gunl, dv_gcons, dv_gnil, wPar, wPar3, wAug, wSetO, wAugO, wApp, wVar, wC, wOp, wUn, asBl, wAnd, wOr, wNot, wAndV, wOrV, wNotV, wIf, wNil, wCons, wTup, wLst, wLstO, wCB, wCall, wCallK1, wMeth, wRel, wMk, wPen0, wPen1, wPen2, wPenS1, wPenS2, wSMeth, dv_make, wRowF, wSl, woNo, woSome, wChain, wYes, wIsi2,
    dv_add_int, dv_add_lst, dv_add_tup, dv_mul_int, dv_mul_lst, dv_mul_tup, rdMulO, dv_i0, dv_i2, rdNeg, rdSl, dv_int_int, dv_int_bl, dv_abs, dv_ne0_lst0, dv_eq0_lst0, rdList, rdListO, rdIsi, dv_eq_row, dv_ne_row, dv_eq_tup, dv_ne_tup, dv_ne_tup0, dv_eq_lst, dv_ne_lst, dv_eq_int, dv_ne_int, dv_eq0_tup, dv_eq0_int, dv_ne0_int, dv_ne0_tup, dv_mk_lst, dv_mk_tup, dv_sum_lst, dv_sum_tup, dv_tuple_lst, dv_tuple_tup, dv_len_lst, dv_len_tup, dv_all, frzL_ints,  rdIs, rdIsNot, Dp.isNon, seqOf, seqI, frz, startD, kg, isiD_non, isiD_bl, isiD_int, isiD_str, isiD_lst, isiD_tup, isiD2_non, isiD2_bl, isiD2_int, isiD2_str, isiD2_lst, isiD2_tup, kb_non_int, kb_bl_int, kb_int_int, kb_str_int, kb_lst_int, kb_tup_int, kb_non_bool, kb_bl_bool, kb_int_bool, kb_str_str, kb_int_str, kb2_non, kb2_bl, kb2_int, kb2_str, kb2_lst, kb2_tup, isi_row_int, isi_row_list, isi_row_tuple, isi_row_str, isi2_row,
    List.map_cons, List.map_nil, List.length_cons, List.length_nil, List.getElem?_cons_zero, List.getElem?_cons_succ, List.set_cons_zero, List.set_cons_succ, List.replicate_succ, List.replicate_zero, List.cons_append, List.nil_append, List.append_nil, Nat.zero_add, Nat.reduceAdd, Nat.reduceSub, List.tail_cons, wipeE, wiRng1, wiRng2, wiSeq, wiEnum, wiZip,
    exists_eq_left, exists_eq_left', exists_eq_right, exists_eq_right', Option.some.injEq, D.int.injEq, D.bl.injEq, D.str.injEq, D.lst.injEq, D.tup.injEq, D.row.injEq, D.own.injEq, D.adr.injEq, D.ty.injEq, reduceCtorEq, List.cons.injEq, true_and, and_true, false_and, and_false, or_false, false_or, exists_false, if_true, if_false, Bool.not_true, Bool.not_false, Bool.false_eq_true, and_self, true_or, or_true, exists_and_left, exists_and_right, ite_true, ite_false, exists_const, exists_eq, exists_eq', decide_true, decide_false, Bool.not_true, Bool.not_false, wOF]
        refine ⟨_, rfl, _, lkn, dv_ixI (ns := ns) rfl (atI_nat rfl (nt_lt h1)) ?_ (fun _ z => by cases z)⟩
        simp only [wSeq, wNext, wRet, wRetN, wNever, wDrop, wIfS, wAsg, gwName, dv_gtup, dv_gunl, dv_gcons, dv_gnil, wPar, wPar3, wAug, wSetO, wAugO, wApp, wVar, wC, wOp, wUn, asBl, wAnd, wOr, wNot, wAndV, wOrV, wNotV, wIf, wNil, wCons, wTup, wLst, wLstO, wCB, wCall, wCallK1, wMeth, wRel, wMk, wPen0, wPen1, wPen2, wPenS1, wPenS2, wSMeth, dv_make, wRowF, wSl, woNo, woSome, wChain, wYes, wIsi2,
    dv_add_int, dv_add_lst, dv_add_tup, dv_mul_int, dv_mul_lst, dv_mul_tup, rdMulO, dv_i0, dv_i2, rdNeg, rdSl, dv_int_int, dv_int_bl, dv_abs, dv_ne0_lst0, dv_eq0_lst0, rdList, rdListO, rdIsi, dv_eq_row, dv_ne_row, dv_eq_tup, dv_ne_tup, dv_ne_tup0, dv_eq_lst, dv_ne_lst, dv_eq_int, dv_ne_int, dv_eq0_tup, dv_eq0_int, dv_ne0_int, dv_ne0_tup, dv_mk_lst, dv_mk_tup, dv_sum_lst, dv_sum_tup, dv_tuple_lst, dv_tuple_tup, dv_len_lst, dv_len_tup, dv_all, frzL_ints,  rdIs, rdIsNot, Dp.isNon, seqOf, seqI, frz, startD, kg, isiD_non, isiD_bl, isiD_int, isiD_str, isiD_lst, isiD_tup, isiD2_non, isiD2_bl, isiD2_int, isiD2_str, isiD2_lst, isiD2_tup, kb_non_int, kb_bl_int, kb_int_int, kb_str_int, kb_lst_int, kb_tup_int, kb_non_bool, kb_bl_bool, kb_int_bool, kb_str_str, kb_int_str, kb2_non, kb2_bl, kb2_int, kb2_str, kb2_lst, kb2_tup, isi_row_int, isi_row_list, isi_row_tuple, isi_row_str, isi2_row,
    List.map_cons, List.map_nil, List.length_cons, List.length_nil, List.getElem?_cons_zero, List.getElem?_cons_succ, List.set_cons_zero, List.set_cons_succ, List.replicate_succ, List.replicate_zero, List.cons_append, List.nil_append, List.append_nil, Nat.zero_add, Nat.reduceAdd, Nat.reduceSub, List.tail_cons, wipeE, wiRng1, wiRng2, wiSeq, wiEnum, wiZip,
    exists_eq_left, exists_eq_left', exists_eq_right, exists_eq_right', Option.some.injEq, D.int.injEq, D.bl.injEq, D.str.injEq, D.lst.injEq, D.tup.injEq, D.row.injEq, D.own.injEq, D.adr.injEq, D.ty.injEq, reduceCtorEq, List.cons.injEq, true_and, and_true, false_and, and_false, or_false, false_or, exists_false, if_true, if_false, Bool.not_true, Bool.not_false, Bool.false_eq_true, and_self, true_or, or_true, exists_and_left, exists_and_right, ite_true, ite_false, exists_const, exists_eq, exists_eq', decide_true, decide_false, Bool.not_true, Bool.not_false]
        first | exact hJ | exact ⟨rfl, hJ⟩
      · rw [show (marksOf ns).map (fun b => D.bl (decide (nt ns b.toNat = 1))) = ((marksOf ns).map fun b => decide (nt ns b.toNat = 1)).map D.bl by rw [List.map_map]; rfl]
        simp only [wSeq, wNext, wRet, wRetN, wNever, wDrop, wIfS, wAsg, gwName, dv_gtup, dv_gunl, dv_gcons, dv_gnil, wPar, wPar3, wAug, wSetO, wAugO, wApp, wVar, wC, wOp, wUn, asBl, wAnd, wOr, wNot, wAndV, wOrV, wNotV, wIf, wNil, wCons, wTup, wLst, wLstO, wCB, wCall, wCallK1, wMeth, wRel, wMk, wPen0, wPen1, wPen2, wPenS1, wPenS2, wSMeth, dv_make, wRowF, wSl, woNo, woSome, wChain, wYes, wIsi2,
    dv_add_int, dv_add_lst, dv_add_tup, dv_mul_int, dv_mul_lst, dv_mul_tup, rdMulO, dv_i0, dv_i2, rdNeg, rdSl, dv_int_int, dv_int_bl, dv_abs, dv_ne0_lst0, dv_eq0_lst0, rdList, rdListO, rdIsi, dv_eq_row, dv_ne_row, dv_eq_tup, dv_ne_tup, dv_ne_tup0, dv_eq_lst, dv_ne_lst, dv_eq_int, dv_ne_int, dv_eq0_tup, dv_eq0_int, dv_ne0_int, dv_ne0_tup, dv_mk_lst, dv_mk_tup, dv_sum_lst, dv_sum_tup, dv_tuple_lst, dv_tuple_tup, dv_len_lst, dv_len_tup, dv_all, frzL_ints,  rdIs, rdIsNot, Dp.isNon, seqOf, seqI, frz, startD, kg, isiD_non, isiD_bl, isiD_int, isiD_str, isiD_lst, isiD_tup, isiD2_non, isiD2_bl, isiD2_int, isiD2_str, isiD2_lst, isiD2_tup, kb_non_int, kb_bl_int, kb_int_int, kb_str_int, kb_lst_int, kb_tup_int, kb_non_bool, kb_bl_bool, kb_int_bool, kb_str_str, kb_int_str, kb2_non, kb2_bl, kb2_int, kb2_str, kb2_lst, kb2_tup, isi_row_int, isi_row_list, isi_row_tuple, isi_row_str, isi2_row,
    List.map_cons, List.map_nil, List.length_cons, List.length_nil, List.getElem?_cons_zero, List.getElem?_cons_succ, List.set_cons_zero, List.set_cons_succ, List.replicate_succ, List.replicate_zero, List.cons_append, List.nil_append, List.append_nil, Nat.zero_add, Nat.reduceAdd, Nat.reduceSub, List.tail_cons, wipeE, wiRng1, wiRng2, wiSeq, wiEnum, wiZip,
    exists_eq_left, exists_eq_left', exists_eq_right, exists_eq_right', Option.some.injEq, D.int.injEq, D.bl.injEq, D.str.injEq, D.lst.injEq, D.tup.injEq, D.row.injEq, D.own.injEq, D.adr.injEq, D.ty.injEq, reduceCtorEq, List.cons.injEq, true_and, and_true, false_and, and_false, or_false, false_or, exists_false, if_true, if_false, Bool.not_true, Bool.not_false, Bool.false_eq_true, and_self, true_or, or_true, exists_and_left, exists_and_right, ite_true, ite_false, exists_const, exists_eq, exists_eq', decide_true, decide_false, Bool.not_true, Bool.not_false, fvD]
        rw [List.all_map]
        have := marks_lot ns 0
        simp only [Int.ofNat_zero, Int.sub_zero, Int.natCast_zero] at this
        exact this
    exact q _ _ I7.stp I7.row
  · rcases hd with rfl | rfl <;> simp only [wSeq, wNext, wRet, wRetN, wNever, wDrop, wIfS, wAsg, gwName, dv_gtup, dv_gunl, dv_gcons, dv_gnil, wPar, wPar3, wAug, wSetO, wAugO, wApp, wVar, wC, wOp, wUn, asBl, wAnd, wOr, wNot, wAndV, wOrV, wNotV, wIf, wNil, wCons, wTup, wLst, wLstO, wCB, wCall, wCallK1, wMeth, wRel, wMk, wPen0, wPen1, wPen2, wPenS1, wPenS2, wSMeth, dv_make, wRowF, wSl, woNo, woSome, wChain, wYes, wIsi2,
    dv_add_int, dv_add_lst, dv_add_tup, dv_mul_int, dv_mul_lst, dv_mul_tup, rdMulO, dv_i0, dv_i2, rdNeg, rdSl, dv_int_int, dv_int_bl, dv_abs, dv_ne0_lst0, dv_eq0_lst0, rdList, rdListO, rdIsi, dv_eq_row, dv_ne_row, dv_eq_tup, dv_ne_tup, dv_ne_tup0, dv_eq_lst, dv_ne_lst, dv_eq_int, dv_ne_int, dv_eq0_tup, dv_eq0_int, dv_ne0_int, dv_ne0_tup, dv_mk_lst, dv_mk_tup, dv_sum_lst, dv_sum_tup, dv_tuple_lst, dv_tuple_tup, dv_len_lst, dv_len_tup, dv_all, frzL_ints,  rdIs, rdIsNot, Dp.isNon, seqOf, seqI, frz, startD, kg, isiD_non, isiD_bl, isiD_int, isiD_str, isiD_lst, isiD_tup, isiD2_non, isiD2_bl, isiD2_int, isiD2_str, isiD2_lst, isiD2_tup, kb_non_int, kb_bl_int, kb_int_int, kb_str_int, kb_lst_int, kb_tup_int, kb_non_bool, kb_bl_bool, kb_int_bool, kb_str_str, kb_int_str, kb2_non, kb2_bl, kb2_int, kb2_str, kb2_lst, kb2_tup, isi_row_int, isi_row_list, isi_row_tuple, isi_row_str, isi2_row,
    List.map_cons, List.map_nil, List.length_cons, List.length_nil, List.getElem?_cons_zero, List.getElem?_cons_succ, List.set_cons_zero, List.set_cons_succ, List.replicate_succ, List.replicate_zero, List.cons_append, List.nil_append, List.append_nil, Nat.zero_add, Nat.reduceAdd, Nat.reduceSub, List.tail_cons, wipeE, wiRng1, wiRng2, wiSeq, wiEnum, wiZip,
    exists_eq_left, exists_eq_left', exists_eq_right, exists_eq_right', Option.some.injEq, D.int.injEq, D.bl.injEq, D.str.injEq, D.lst.injEq, D.tup.injEq, D.row.injEq, D.own.injEq, D.adr.injEq, D.ty.injEq, reduceCtorEq, List.cons.injEq, true_and, and_true, false_and, and_false, or_false, false_or, exists_false, if_true, if_false, Bool.not_true, Bool.not_false, Bool.false_eq_true, and_self, true_or, or_true, exists_and_left, exists_and_right, ite_true, ite_false, exists_const, exists_eq, exists_eq', decide_true, decide_false, Bool.not_true, Bool.not_false, F_are_integers]
    all_goals exact ⟨ns, rfl, by omega, by rw [List.length_map, decide_eq_true (by omega), decide_eq_true (by omega)]; simp⟩
end
end K14

set_option Elab.async false
set_option linter.all false
set_option maxRecDepth 100000
set_option maxHeartbeats 4000001

namespace K14
open PySem PySem.Spec PyProof.Rows L2 Dp
abbrev s_shown : Stmt := top 3
theorem sc_shown : FnScope ["value"] ["value"] (defScope s_shown) := ⟨rfl, rfl, rfl, by decide +kernel, rfl, by decide +kernel, by decide +kernel⟩
abbrev s_BeatError___init__ : Stmt := inClass (top 4) 0
theorem sc_BeatError___init__ : FnScope ["self", "wording"] ["self", "wording"] (defScope s_BeatError___init__) := ⟨rfl, rfl, rfl, by decide +kernel, rfl, by decide +kernel, by decide +kernel⟩
abbrev s_BadRow___init__ : Stmt := inClass (top 5) 0
theorem sc_BadRow___init__ : FnScope ["self", "part"] ["self", "part"] (defScope s_BadRow___init__) := ⟨rfl, rfl, rfl, by decide +kernel, rfl, by decide +kernel, by decide +kernel⟩
abbrev s_Misfit___init__ : Stmt := inClass (top 7) 0
theorem sc_Misfit___init__ : FnScope ["self", "part"] ["self", "part"] (defScope s_Misfit___init__) := ⟨rfl, rfl, rfl, by decide +kernel, rfl, by decide +kernel, by decide +kernel⟩
section
variable {P : Program} {w : World} {mg : Str → Option Value} {base : Heap} {c : Cb} {f : Addr} {fd : FuncData}
theorem str_app {x y : PySem.Str} : (x ++ y).length = x.length + y.length := by first | exact List.length_append | exact Array.size_append
theorem ite_go {p : Prop} [Decidable p] {A B : Prop} (h : p) (a : A) : if p then A else B := by rw [if_pos h]; exact a
/-- a short text is shown as it is -/
def spShown : Sp := fun vs H Q _ => ∃ y : PySem.Str, vs = [.str y] ∧ y.length ≤ 60 ∧ Q (.str y) H
theorem ok_shown (Fn : FunD c.K "shown" "shown" (defArgs s_shown) (defBody s_shown) (defScope s_shown) [] [] f fd) (T : Tb c mg) : FnOk P w c.K mg base CX0 2 f fd ["value"] spShown := by
  refine fn_raw Fn sc_shown (fun vs H Q E h => by obtain ⟨y, rfl, _⟩ := h; rfl) fun cdv A outer s H E hr => ⟨_, pss_cons (ps_if (PW.pt (pw_and (pt_cmpR op_isTyB (pe_typeOf (by rfl) T.b_type (pv 0)) (pe_bltn (v := .ty "str") (u := .type "str") (by rfl) T.b_str (by decide +kernel) rfl) (nomark _)) (pw_and1 (pt_cmpR opLe (pe_callB (lenK (K := c.K)) (by rfl) T.b_len (by decide +kernel) (pa_cons (pv 0) pa_nil)) pe_int (nomark _))))) (pss_one (ps_ret (pv 0))) pss_nil) (pss_cons ps_never (pss_one ps_never)), fun vs Q h => ?_⟩
  obtain ⟨y, rfl, hy, q⟩ := h
  refine ⟨.str y, rfl, "str", rfl, _, _, rfl, rfl, _, rfl, ?_⟩
  refine ite_go (by decide) ?_
  refine ⟨.str y, rfl, .inr ⟨y, rfl, by rw [sizeLine_eq]; omega, _, _, rfl, rfl, _, rfl, ?_⟩⟩
  refine ite_go (decide_eq_true (by omega)) ?_
  exact ⟨_, rfl, q⟩
/-- BeatError.__init__(self, wording) -/
def spBeat (K : PySem.W.Frag) : Sp := fun vs H Q _ => ∃ (a C : Addr) (v : V), vs = [.ref a, v] ∧ OexC K C ∧ H a = some (exo a C none) ∧ Q .non H
theorem ok_beat {dvs : List V} (Fn : FunD c.K "__init__" "BeatError.__init__" (defArgs s_BeatError___init__) (defBody s_BeatError___init__) (defScope s_BeatError___init__) dvs [] f fd) (T : Tb c mg) (vV : PySem.W.findCls c.K (.type "ValueError") (.type "type") "__init__" = some (.val (.builtin "ValueError.__init__"))) : FnOk P w c.K mg base CX0 2 f fd ["self", "wording"] (spBeat c.K) := by
  refine Fn.ok sc_BeatError___init__ (fun vs H Q E h => by obtain ⟨a, C, v, rfl, _⟩ := h; rfl) fun cdv A outer s H vs Q E hr h => ?_
  refine ⟨_, pss_one (ps_expr (pe_veinit (by rfl) T.b_ValueError vV (pa_cons (pv 0) (pa_cons (pv 1) pa_nil)))), ?_⟩
  obtain ⟨a, C, v, rfl, o, ha, q⟩ := h
  exact ⟨.ref a, rfl, v, rfl, a, C, [v], rfl, by simp, o, ha, q⟩
theorem ok_badrow {CB fs fb : Addr} {fds fdb : FuncData} {mc : Value} (Fn : FunD c.K "__init__" "BadRow.__init__" (defArgs s_BadRow___init__) (defBody s_BadRow___init__) (defScope s_BadRow___init__) [] [] f fd) (T : Tb c mg)
    (gB : mg "BeatError" = some (.ref CB)) (rB : ClX.CRead c.K CB mc) (cB : CFn c.K CB mc "__init__" fb) (Fb : FnOk P w c.K mg base CX0 2 fb fdb ["self", "wording"] (spBeat c.K)) (bb : Binds c.K fdb ["self", "wording"] [])
    (d_shown : Dn P w c.K mg base "shown" 2 ["value"] spShown) : FnOk P w c.K mg base CX0 4 f fd ["self", "part"] (spPart c.K "part") := by
  refine fn_raw Fn sc_BadRow___init__ (fun vs H Q E h => by obtain ⟨a, C, y, rfl, _⟩ := h; rfl) fun cdv A outer s H E hr => ⟨_, pss_cons (ps_expr (pe_cfn (pe_glob (by rfl) gB (show RelV (V.ref CB) (Value.ref CB) from rfl)) rB cB Fb (hr.mono (by decide)) bb pass0 (pa_cons (pv 0) (pa_cons (pe_joined (.cons pe_str (.cons (pe_fmt (pe_d d_shown hr (by rfl) (pa_cons (pv 1) pa_nil))) .nil))) pa_nil)))) (pss_one (ps_ost (pv 0) (pv 1))), fun vs Q h => ?_⟩
  obtain ⟨a, C, y, rfl, hy, o, no, ha, q⟩ := h
  refine ⟨rfl, .ref a, rfl, _, rfl, ?_, .str y, rfl, y, rfl, hy, .inl ⟨y, rfl, by rw [sizeLine_eq]; omega, y, rfl, ?_, a, C, _, rfl, o, ha, .str y, rfl, .ref a, rfl, a, C, rfl, o, no, .inl ⟨ha, q⟩⟩⟩
  · rw [sizeLine_eq]; decide +kernel
  · rw [str_app]; rw [sizeLine_eq]; have : (Str.empty ++ Str.ofString "no such row or lot: ").length ≤ 100 := by decide +kernel
    omega
theorem ok_misfit {CB fs fb : Addr} {fds fdb : FuncData} {mc : Value} (Fn : FunD c.K "__init__" "Misfit.__init__" (defArgs s_Misfit___init__) (defBody s_Misfit___init__) (defScope s_Misfit___init__) [] [] f fd) (T : Tb c mg)
    (gB : mg "BeatError" = some (.ref CB)) (rB : ClX.CRead c.K CB mc) (cB : CFn c.K CB mc "__init__" fb) (Fb : FnOk P w c.K mg base CX0 2 fb fdb ["self", "wording"] (spBeat c.K)) (bb : Binds c.K fdb ["self", "wording"] [])
    (d_shown : Dn P w c.K mg base "shown" 2 ["value"] spShown) : FnOk P w c.K mg base CX0 4 f fd ["self", "part"] (spPart c.K "part") := by
  refine fn_raw Fn sc_Misfit___init__ (fun vs H Q E h => by obtain ⟨a, C, y, rfl, _⟩ := h; rfl) fun cdv A outer s H E hr => ⟨_, pss_cons (ps_expr (pe_cfn (pe_glob (by rfl) gB (show RelV (V.ref CB) (Value.ref CB) from rfl)) rB cB Fb (hr.mono (by decide)) bb pass0 (pa_cons (pv 0) (pa_cons (pe_joined (.cons pe_str (.cons (pe_fmt (pe_d d_shown hr (by rfl) (pa_cons (pv 1) pa_nil))) .nil))) pa_nil)))) (pss_one (ps_ost (pv 0) (pv 1))), fun vs Q h => ?_⟩
  obtain ⟨a, C, y, rfl, hy, o, no, ha, q⟩ := h
  refine ⟨rfl, .ref a, rfl, _, rfl, ?_, .str y, rfl, y, rfl, hy, .inl ⟨y, rfl, by rw [sizeLine_eq]; omega, y, rfl, ?_, a, C, _, rfl, o, ha, .str y, rfl, .ref a, rfl, a, C, rfl, o, no, .inl ⟨ha, q⟩⟩⟩
  · rw [sizeLine_eq]; decide +kernel
  · rw [str_app]; rw [sizeLine_eq]; have : (Str.empty ++ Str.ofString "these do not fit together: ").length ≤ 100 := by decide +kernel
    omega
/-- need_row, whatever it is asked of -/
def X_need_row (c : Cb) : FX := fun ds n Q Qx => ∃ (x : D) (y : PySem.Str) (b : Bool), ds = [x, .str y] ∧ y.length ≤ 60 ∧ erOk c.K x ∧ isiA c.K c.R x c.R = some b ∧ if b = true then Q .non n else Qx (He.ga c.K "BadRow") ["part"] [.str y] n
theorem xl_need_row : ∀ ds n Q Qx, X_need_row c ds n Q Qx → ds.length = 2 := by rintro ds n Q Qx ⟨x, y, b, rfl, _⟩; rfl
theorem okx_need_row (Fn : FunD c.K "need_row" "need_row" (defArgs s_need_row) (defBody s_need_row) (defScope s_need_row) [] [] f fd) (T : Tb c mg) (Xf : Ex c mg) (n_Row : Nd P w c.K mg base c.R "Row" 5 ["self", "numbers"] (spInit c)) (e_BadRow : ErD P w c.K mg base "BadRow" (He.ga c.K "BadRow") 4 (spPart c.K "part")) : FnOk P w c.K mg base (L2.CX P w) 6 f fd ["value", "part"] (spX c 2 (X_need_row c)) := by
  refine fn_x Fn sc_need_row (fun cdv A outer s H E hr => ⟨_, (pss_one (ps_if (pt_not (pt_val (pe_callB (isi3K (K := c.K)) (by rfl) T.b_isinstance (by decide +kernel) (pa_cons (pv 0) (pa_cons (pe_cn n_Row (by rfl)) pa_nil))))) (pss_one (ps_raiseD e_BadRow hr (by rfl) (takes_of rfl rfl rfl rfl) (pa_cons (pv 1) pa_nil))) pss_nil)), fun Qx => ⟨_, (sndS_if (sndT_not (sndT_B (snd_cb (sndC_isi3 T.row) (sndA_cons snd_var (sndA_cons snd_adr sndA_nil))))) (sndS_raise rfl Xf.er_BadRow.o Xf.no_BadRow (sndA_cons snd_var sndA_nil)) sndS_next), fun ds n Q h hl => ?_⟩⟩)
  obtain ⟨x, y, b, rfl, hy, he, hb, h⟩ := h
  simp only [wSeq, wNext, wRet, wRetN, wNever, wDrop, wIfS, wAsg, gwName, dv_gtup, dv_gunl, dv_gcons, dv_gnil, wPar, wPar3, wAug, wSetO, wAugO, wApp, wVar, wC, wOp, wUn, asBl, wAnd, wOr, wNot, wAndV, wOrV, wNotV, wIf, wNil, wCons, wTup, wLst, wLstO, wCB, wCall, wCallK1, wMeth, wRel, wMk, wPen0, wPen1, wPen2, wPenS1, wPenS2, wSMeth, dv_make, wRowF, wSl, woNo, woSome, wChain, wYes, wIsi2,
    dv_add_int, dv_add_lst, dv_add_tup, dv_mul_int, dv_mul_lst, dv_mul_tup, rdMulO, dv_i0, dv_i2, rdNeg, rdSl, dv_int_int, dv_int_bl, dv_abs, dv_ne0_lst0, dv_eq0_lst0, rdList, rdListO, rdIsi, dv_eq_row, dv_ne_row, dv_eq_tup, dv_ne_tup, dv_ne_tup0, dv_eq_lst, dv_ne_lst, dv_eq_int, dv_ne_int, dv_eq0_tup, dv_eq0_int, dv_ne0_int, dv_ne0_tup, dv_mk_lst, dv_mk_tup, dv_sum_lst, dv_sum_tup, dv_tuple_lst, dv_tuple_tup, dv_len_lst, dv_len_tup, dv_all, frzL_ints,  rdIs, rdIsNot, Dp.isNon, seqOf, seqI, frz, startD, kg, isiD_non, isiD_bl, isiD_int, isiD_str, isiD_lst, isiD_tup, isiD2_non, isiD2_bl, isiD2_int, isiD2_str, isiD2_lst, isiD2_tup, kb_non_int, kb_bl_int, kb_int_int, kb_str_int, kb_lst_int, kb_tup_int, kb_non_bool, kb_bl_bool, kb_int_bool, kb_str_str, kb_int_str, kb2_non, kb2_bl, kb2_int, kb2_str, kb2_lst, kb2_tup, isi_row_int, isi_row_list, isi_row_tuple, isi_row_str, isi2_row,
    List.map_cons, List.map_nil, List.length_cons, List.length_nil, List.getElem?_cons_zero, List.getElem?_cons_succ, List.set_cons_zero, List.set_cons_succ, List.replicate_succ, List.replicate_zero, List.cons_append, List.nil_append, List.append_nil, Nat.zero_add, Nat.reduceAdd, Nat.reduceSub, List.tail_cons, wipeE, wiRng1, wiRng2, wiSeq, wiEnum, wiZip,
    exists_eq_left, exists_eq_left', exists_eq_right, exists_eq_right', Option.some.injEq, D.int.injEq, D.bl.injEq, D.str.injEq, D.lst.injEq, D.tup.injEq, D.row.injEq, D.own.injEq, D.adr.injEq, D.ty.injEq, reduceCtorEq, List.cons.injEq, true_and, and_true, false_and, and_false, or_false, false_or, exists_false, if_true, if_false, Bool.not_true, Bool.not_false, Bool.false_eq_true, and_self, true_or, or_true, exists_and_left, exists_and_right, ite_true, ite_false, exists_const, exists_eq, exists_eq', decide_true, decide_false, Bool.not_true, Bool.not_false, rdIsi3, wRaise]
  refine ⟨he, b, hb, ?_⟩
  cases b with
  | true => exact h
  | false => exact ⟨hy, h⟩
def X_need_same_beats (c : Cb) : FX := fun ds n Q Qx => ∃ a b : List Int, ds = [.row a, .row b] ∧ if a.length = b.length then Q .non n else Qx (He.ga c.K "Misfit") ["part"] [.str "beats"] n
theorem xl_need_same_beats : ∀ ds n Q Qx, X_need_same_beats c ds n Q Qx → ds.length = 2 := by rintro ds n Q Qx ⟨x, y, rfl, _⟩; rfl
theorem okx_need_same_beats (Fn : FunD c.K "need_same_beats" "need_same_beats" (defArgs s_need_same_beats) (defBody s_need_same_beats) (defScope s_need_same_beats) [] [] f fd) (T : Tb c mg) (Xf : Ex c mg) (e_Misfit : ErD P w c.K mg base "Misfit" (He.ga c.K "Misfit") 4 (spPart c.K "part")) : FnOk P w c.K mg base (L2.CX P w) 6 f fd ["one", "other"] (spX c 2 (X_need_same_beats c)) := by
  refine fn_x Fn sc_need_same_beats (fun cdv A outer s H E hr => ⟨_, (pss_one (ps_if (pt_cmpR (ne0K (K := c.K) hr) (fldK (K := c.K) (pv 0) (by rfl)) (fldK (K := c.K) (pv 1) (by rfl)) (nomark _)) (pss_one (ps_raiseD e_Misfit hr (by rfl) (takes_of rfl rfl rfl rfl) (pa_cons pe_str pa_nil))) pss_nil)), fun Qx => ⟨_, (sndS_if (sndT_test (snd_op sndR_ne0 (snd_many T.row snd_var) (snd_many T.row snd_var))) (sndS_raise rfl Xf.er_Misfit.o Xf.no_Misfit (sndA_cons snd_str sndA_nil)) sndS_next), fun ds n Q h hl => ?_⟩⟩)
  obtain ⟨a, b, rfl, h⟩ := h
  simp only [wSeq, wNext, wRet, wRetN, wNever, wDrop, wIfS, wAsg, gwName, dv_gtup, dv_gunl, dv_gcons, dv_gnil, wPar, wPar3, wAug, wSetO, wAugO, wApp, wVar, wC, wOp, wUn, asBl, wAnd, wOr, wNot, wAndV, wOrV, wNotV, wIf, wNil, wCons, wTup, wLst, wLstO, wCB, wCall, wCallK1, wMeth, wRel, wMk, wPen0, wPen1, wPen2, wPenS1, wPenS2, wSMeth, dv_make, wRowF, wSl, woNo, woSome, wChain, wYes, wIsi2,
    dv_add_int, dv_add_lst, dv_add_tup, dv_mul_int, dv_mul_lst, dv_mul_tup, rdMulO, dv_i0, dv_i2, rdNeg, rdSl, dv_int_int, dv_int_bl, dv_abs, dv_ne0_lst0, dv_eq0_lst0, rdList, rdListO, rdIsi, dv_eq_row, dv_ne_row, dv_eq_tup, dv_ne_tup, dv_ne_tup0, dv_eq_lst, dv_ne_lst, dv_eq_int, dv_ne_int, dv_eq0_tup, dv_eq0_int, dv_ne0_int, dv_ne0_tup, dv_mk_lst, dv_mk_tup, dv_sum_lst, dv_sum_tup, dv_tuple_lst, dv_tuple_tup, dv_len_lst, dv_len_tup, dv_all, frzL_ints,  rdIs, rdIsNot, Dp.isNon, seqOf, seqI, frz, startD, kg, isiD_non, isiD_bl, isiD_int, isiD_str, isiD_lst, isiD_tup, isiD2_non, isiD2_bl, isiD2_int, isiD2_str, isiD2_lst, isiD2_tup, kb_non_int, kb_bl_int, kb_int_int, kb_str_int, kb_lst_int, kb_tup_int, kb_non_bool, kb_bl_bool, kb_int_bool, kb_str_str, kb_int_str, kb2_non, kb2_bl, kb2_int, kb2_str, kb2_lst, kb2_tup, isi_row_int, isi_row_list, isi_row_tuple, isi_row_str, isi2_row,
    List.map_cons, List.map_nil, List.length_cons, List.length_nil, List.getElem?_cons_zero, List.getElem?_cons_succ, List.set_cons_zero, List.set_cons_succ, List.replicate_succ, List.replicate_zero, List.cons_append, List.nil_append, List.append_nil, Nat.zero_add, Nat.reduceAdd, Nat.reduceSub, List.tail_cons, wipeE, wiRng1, wiRng2, wiSeq, wiEnum, wiZip,
    exists_eq_left, exists_eq_left', exists_eq_right, exists_eq_right', Option.some.injEq, D.int.injEq, D.bl.injEq, D.str.injEq, D.lst.injEq, D.tup.injEq, D.row.injEq, D.own.injEq, D.adr.injEq, D.ty.injEq, reduceCtorEq, List.cons.injEq, true_and, and_true, false_and, and_false, or_false, false_or, exists_false, if_true, if_false, Bool.not_true, Bool.not_false, Bool.false_eq_true, and_self, true_or, or_true, exists_and_left, exists_and_right, ite_true, ite_false, exists_const, exists_eq, exists_eq', decide_true, decide_false, Bool.not_true, Bool.not_false, wRaise]
  by_cases g : a.length = b.length
  · rw [if_pos g] at h
    rw [if_neg (by simp [g])]
    exact h
  · rw [if_neg g] at h
    rw [if_pos (by simp; omega)]
    exact ⟨by decide, h⟩
def X_need_rows (c : Cb) : FX := fun ds n Q Qx => ∃ x y : D, ds = [x, y] ∧ X_need_row c [x, .str "one"] n (fun _ n1 => X_need_row c [y, .str "other"] n1 (fun _ n2 => X_need_same_beats c [x, y] n2 (fun _ n3 => Q .non n3) Qx) Qx) Qx
theorem xl_need_rows : ∀ ds n Q Qx, X_need_rows c ds n Q Qx → ds.length = 2 := by rintro ds n Q Qx ⟨x, y, rfl, _⟩; rfl
theorem okx_need_rows (Fn : FunD c.K "need_rows" "need_rows" (defArgs s_need_rows) (defBody s_need_rows) (defScope s_need_rows) [] [] f fd) (T : Tb c mg) (x_need_row : DnX P w c.K mg base "need_row" 6 ["value", "part"] (spX c 2 (X_need_row c))) (x_need_same_beats : DnX P w c.K mg base "need_same_beats" 6 ["one", "other"] (spX c 2 (X_need_same_beats c))) :
    FnOk P w c.K mg base (L2.CX P w) 7 f fd ["one", "other"] (spX c 2 (X_need_rows c)) := by
  refine fn_x Fn sc_need_rows (fun cdv A outer s H E hr => ⟨_, (pss_cons (ps_expr (pe_dx x_need_row hr (by rfl) (takes_of rfl rfl rfl rfl) (pa_cons (pv 0) (pa_cons pe_str pa_nil))))
 (pss_cons (ps_expr (pe_dx x_need_row hr (by rfl) (takes_of rfl rfl rfl rfl) (pa_cons (pv 1) (pa_cons pe_str pa_nil))))
 (pss_one (ps_expr (pe_dx x_need_same_beats hr (by rfl) (takes_of rfl rfl rfl rfl) (pa_cons (pv 0) (pa_cons (pv 1) pa_nil))))))), fun Qx => ⟨_, (sndS_seq (sndS_drop (snd_callE xl_need_row (sndA_cons snd_var (sndA_cons snd_str sndA_nil))))
 (sndS_seq (sndS_drop (snd_callE xl_need_row (sndA_cons snd_var (sndA_cons snd_str sndA_nil))))
 (sndS_drop (snd_callE xl_need_same_beats (sndA_cons snd_var (sndA_cons snd_var sndA_nil)))))), fun ds n Q h hl => ?_⟩⟩)
  obtain ⟨x, y, rfl, h⟩ := h
  simp only [wSeq, wNext, wRet, wRetN, wNever, wDrop, wIfS, wAsg, gwName, dv_gtup, dv_gunl, dv_gcons, dv_gnil, wPar, wPar3, wAug, wSetO, wAugO, wApp, wVar, wC, wOp, wUn, asBl, wAnd, wOr, wNot, wAndV, wOrV, wNotV, wIf, wNil, wCons, wTup, wLst, wLstO, wCB, wCall, wCallK1, wMeth, wRel, wMk, wPen0, wPen1, wPen2, wPenS1, wPenS2, wSMeth, dv_make, wRowF, wSl, woNo, woSome, wChain, wYes, wIsi2,
    dv_add_int, dv_add_lst, dv_add_tup, dv_mul_int, dv_mul_lst, dv_mul_tup, rdMulO, dv_i0, dv_i2, rdNeg, rdSl, dv_int_int, dv_int_bl, dv_abs, dv_ne0_lst0, dv_eq0_lst0, rdList, rdListO, rdIsi, dv_eq_row, dv_ne_row, dv_eq_tup, dv_ne_tup, dv_ne_tup0, dv_eq_lst, dv_ne_lst, dv_eq_int, dv_ne_int, dv_eq0_tup, dv_eq0_int, dv_ne0_int, dv_ne0_tup, dv_mk_lst, dv_mk_tup, dv_sum_lst, dv_sum_tup, dv_tuple_lst, dv_tuple_tup, dv_len_lst, dv_len_tup, dv_all, frzL_ints,  rdIs, rdIsNot, Dp.isNon, seqOf, seqI, frz, startD, kg, isiD_non, isiD_bl, isiD_int, isiD_str, isiD_lst, isiD_tup, isiD2_non, isiD2_bl, isiD2_int, isiD2_str, isiD2_lst, isiD2_tup, kb_non_int, kb_bl_int, kb_int_int, kb_str_int, kb_lst_int, kb_tup_int, kb_non_bool, kb_bl_bool, kb_int_bool, kb_str_str, kb_int_str, kb2_non, kb2_bl, kb2_int, kb2_str, kb2_lst, kb2_tup, isi_row_int, isi_row_list, isi_row_tuple, isi_row_str, isi2_row,
    List.map_cons, List.map_nil, List.length_cons, List.length_nil, List.getElem?_cons_zero, List.getElem?_cons_succ, List.set_cons_zero, List.set_cons_succ, List.replicate_succ, List.replicate_zero, List.cons_append, List.nil_append, List.append_nil, Nat.zero_add, Nat.reduceAdd, Nat.reduceSub, List.tail_cons, wipeE, wiRng1, wiRng2, wiSeq, wiEnum, wiZip,
    exists_eq_left, exists_eq_left', exists_eq_right, exists_eq_right', Option.some.injEq, D.int.injEq, D.bl.injEq, D.str.injEq, D.lst.injEq, D.tup.injEq, D.row.injEq, D.own.injEq, D.adr.injEq, D.ty.injEq, reduceCtorEq, List.cons.injEq, true_and, and_true, false_and, and_false, or_false, false_or, exists_false, if_true, if_false, Bool.not_true, Bool.not_false, Bool.false_eq_true, and_self, true_or, or_true, exists_and_left, exists_and_right, ite_true, ite_false, exists_const, exists_eq, exists_eq', decide_true, decide_false, Bool.not_true, Bool.not_false, wCallX]
  exact h
def X_cross_spans (c : Cb) : FX := fun ds n _ Qx => ∃ x y : D, ds = [x, y] ∧ X_need_rows c [x, y] n (fun _ _ => False) Qx
theorem xl_cross_spans : ∀ ds n Q Qx, X_cross_spans c ds n Q Qx → ds.length = 2 := by rintro ds n Q Qx ⟨x, y, rfl, _⟩; rfl
theorem okx_cross_spans (Fn : FunD c.K "cross_spans" "cross_spans" (defArgs s_cross_spans) (defBody s_cross_spans) (defScope s_cross_spans) [] [] f fd) (T : Tb c mg) (x_need_rows : DnX P w c.K mg base "need_rows" 7 ["one", "other"] (spX c 2 (X_need_rows c))) : FnOk P w c.K mg base (L2.CX P w) 8 f fd ["one", "other"] (spX c 2 (X_cross_spans c)) := by
  refine fn_x Fn sc_cross_spans (fun cdv A outer s H E hr => ⟨_, (pss_cons (ps_expr (pe_dx x_need_rows hr (by rfl) (takes_of rfl rfl rfl rfl) (pa_cons (pv 0) (pa_cons (pv 1) pa_nil))))
 (pss_one ps_never)), fun Qx => ⟨_, (sndS_seq (sndS_drop (snd_callE xl_need_rows (sndA_cons snd_var (sndA_cons snd_var sndA_nil))))
 sndS_never), fun ds n Q h hl => ?_⟩⟩)
  obtain ⟨x, y, rfl, h⟩ := h
  simp only [wSeq, wNext, wRet, wRetN, wNever, wDrop, wIfS, wAsg, gwName, dv_gtup, dv_gunl, dv_gcons, dv_gnil, wPar, wPar3, wAug, wSetO, wAugO, wApp, wVar, wC, wOp, wUn, asBl, wAnd, wOr, wNot, wAndV, wOrV, wNotV, wIf, wNil, wCons, wTup, wLst, wLstO, wCB, wCall, wCallK1, wMeth, wRel, wMk, wPen0, wPen1, wPen2, wPenS1, wPenS2, wSMeth, dv_make, wRowF, wSl, woNo, woSome, wChain, wYes, wIsi2,
    dv_add_int, dv_add_lst, dv_add_tup, dv_mul_int, dv_mul_lst, dv_mul_tup, rdMulO, dv_i0, dv_i2, rdNeg, rdSl, dv_int_int, dv_int_bl, dv_abs, dv_ne0_lst0, dv_eq0_lst0, rdList, rdListO, rdIsi, dv_eq_row, dv_ne_row, dv_eq_tup, dv_ne_tup, dv_ne_tup0, dv_eq_lst, dv_ne_lst, dv_eq_int, dv_ne_int, dv_eq0_tup, dv_eq0_int, dv_ne0_int, dv_ne0_tup, dv_mk_lst, dv_mk_tup, dv_sum_lst, dv_sum_tup, dv_tuple_lst, dv_tuple_tup, dv_len_lst, dv_len_tup, dv_all, frzL_ints,  rdIs, rdIsNot, Dp.isNon, seqOf, seqI, frz, startD, kg, isiD_non, isiD_bl, isiD_int, isiD_str, isiD_lst, isiD_tup, isiD2_non, isiD2_bl, isiD2_int, isiD2_str, isiD2_lst, isiD2_tup, kb_non_int, kb_bl_int, kb_int_int, kb_str_int, kb_lst_int, kb_tup_int, kb_non_bool, kb_bl_bool, kb_int_bool, kb_str_str, kb_int_str, kb2_non, kb2_bl, kb2_int, kb2_str, kb2_lst, kb2_tup, isi_row_int, isi_row_list, isi_row_tuple, isi_row_str, isi2_row,
    List.map_cons, List.map_nil, List.length_cons, List.length_nil, List.getElem?_cons_zero, List.getElem?_cons_succ, List.set_cons_zero, List.set_cons_succ, List.replicate_succ, List.replicate_zero, List.cons_append, List.nil_append, List.append_nil, Nat.zero_add, Nat.reduceAdd, Nat.reduceSub, List.tail_cons, wipeE, wiRng1, wiRng2, wiSeq, wiEnum, wiZip,
    exists_eq_left, exists_eq_left', exists_eq_right, exists_eq_right', Option.some.injEq, D.int.injEq, D.bl.injEq, D.str.injEq, D.lst.injEq, D.tup.injEq, D.row.injEq, D.own.injEq, D.adr.injEq, D.ty.injEq, reduceCtorEq, List.cons.injEq, true_and, and_true, false_and, and_false, or_false, false_or, exists_false, if_true, if_false, Bool.not_true, Bool.not_false, Bool.false_eq_true, and_self, true_or, or_true, exists_and_left, exists_and_right, ite_true, ite_false, exists_const, exists_eq, exists_eq', decide_true, decide_false, Bool.not_true, Bool.not_false, wCallX]
  exact h
end
end K14

set_option Elab.async false
set_option linter.all false
set_option maxRecDepth 100000
set_option maxHeartbeats 4000001

namespace K14
open PySem PySem.Spec PyProof.Rows L2 Dp
abbrev s__law_take : Stmt := top 38
theorem sc__law_take : FnScope ["_law_hand_here", "_law_many", "_law_at", "_law_cell", "_law_mixed", "_law_left"] ["_law_hand_here", "_law_many"] (defScope s__law_take) := ⟨rfl, rfl, rfl, by decide +kernel, rfl, by decide +kernel, by decide +kernel⟩
abbrev s__law_pick : Stmt := top 39
theorem sc__law_pick : FnScope ["_law_hand_here", "_law_some"] ["_law_hand_here", "_law_some"] (defScope s__law_pick) := ⟨rfl, rfl, rfl, by decide +kernel, rfl, by decide +kernel, by decide +kernel⟩
abbrev s__law_row : Stmt := top 41
theorem sc__law_row : FnScope ["_law_hand_here", "_law_many", "_law_way", "_law_some", "_law_beat"] ["_law_hand_here", "_law_many"] (defScope s__law_row) := ⟨rfl, rfl, rfl, by decide +kernel, rfl, by decide +kernel, by decide +kernel⟩
abbrev s__law_spans : Stmt := top 40
theorem sc__law_spans : FnScope ["_law_one", "_law_other", "_law_beat", "_law_many", "_law_found", "_law_at"] ["_law_one", "_law_other"] (defScope s__law_spans) := ⟨rfl, rfl, rfl, by decide +kernel, rfl, by decide +kernel, by decide +kernel⟩
abbrev s__law_divides : Stmt := top 43
theorem sc__law_divides : FnScope ["_law_one", "_law_other", "_law_number"] ["_law_one", "_law_other"] (defScope s__law_divides) := ⟨rfl, rfl, rfl, by decide +kernel, rfl, by decide +kernel, by decide +kernel⟩
abbrev s__law_turned : Stmt := top 44
theorem sc__law_turned : FnScope ["_law_numbers", "_law_by", "_law_many", "_law_beat"] ["_law_numbers", "_law_by"] (defScope s__law_turned) := ⟨rfl, rfl, rfl, by decide +kernel, rfl, by decide +kernel, by decide +kernel⟩
abbrev s__law_heard : Stmt := top 42
theorem sc__law_heard : FnScope ["_law_ask", "_law_caught", "error", "_law_kinds"] ["_law_ask"] (defScope s__law_heard) := ⟨rfl, rfl, rfl, by decide +kernel, rfl, by decide +kernel, by decide +kernel⟩
section
variable {P : Program} {w : World} {mg : Str → Option Value} {base : Heap} {c : Cb} {f : Addr} {fd : FuncData}
def F__law_take : FD
  | [.pen, .int m], n, Q => 1 ≤ m ∧ m < 1000000 ∧ 1 ≤ n ∧ ∀ (d : Int) (n' : Nat), 0 ≤ d → d < m → n ≤ n' + 1 → Q (.int d) n'
  | _, _, _ => False
theorem l__law_take : ∀ ds n Q, F__law_take ds n Q → ds.length = 2 := by intro ds n Q h; unfold F__law_take at h; split at h <;> first | rfl | exact h.elim
theorem ok_take (Fn : FunD c.K "_law_take" "_law_take" (defArgs s__law_take) (defBody s__law_take) (defScope s__law_take) [] [] f fd) (T : Tb c mg) : FnOk P w c.K mg base CX0 2 f fd ["_law_hand_here", "_law_many"] (spD c 2 F__law_take) := by
  refine fn_d Fn sc__law_take (fun cdv A outer s H E hr => ⟨_, (pss_cons (ps_if (pt_cmpR opGt (pe_ix (ixK (K := c.K)) (pv 0) pe_int (fun _ _ => rfl)) pe_int (nomark _)) (pss_cons (ps_set (i := 5) sc__law_take.nd rfl (by first | exact .inl rfl | exact .inr rfl) (pe_ix (ixK (K := c.K)) (pv 0) pe_int (fun _ _ => rfl)))
 (pss_cons (ps_asg (pe_op opDiv (pe_callTy callInt (by rfl) T.b_int (by decide +kernel) (pa_cons (pv 5) pa_nil)) (pv 1)) (pg_sub (pv 0) pe_int set_list))
 (pss_one (ps_ret (pe_op opMod (pe_callTy callInt (by rfl) T.b_int (by decide +kernel) (pa_cons (pv 5) pa_nil)) (pv 1)))))) pss_nil)
 (pss_cons (ps_set (i := 2) sc__law_take.nd rfl (by first | exact .inl rfl | exact .inr rfl) (pe_ix (ixK (K := c.K)) (pv 0) pe_int (fun _ _ => rfl)))
 (pss_cons (ps_asg (pe_op (opAddK (K := c.K)) (pv 2) pe_int) (pg_sub (pv 0) pe_int set_list))
 (pss_cons (ps_set (i := 3) sc__law_take.nd rfl (by first | exact .inl rfl | exact .inr rfl) (pe_op (opAddK (K := c.K)) (pe_op (opMulK (K := c.K)) pe_int (pv 2)) pe_int))
 (pss_cons (ps_if (pt_cmpR (ne0K (K := c.K) hr) (pe_ix (ixK (K := c.K)) (pv 0) pe_int (fun _ _ => rfl)) (pe_lst pa_nil) (nomark _)) (pss_one (ps_set (i := 3) sc__law_take.nd rfl (by first | exact .inl rfl | exact .inr rfl) (pe_ix (ixK (K := c.K)) (pe_ix (ixK (K := c.K)) (pv 0) pe_int (fun _ _ => rfl)) (pe_op opMod (pe_callTy callInt (by rfl) T.b_int (by decide +kernel) (pa_cons (pv 2) pa_nil)) (pe_callB (lenK (K := c.K)) (by rfl) T.b_len (by decide +kernel) (pa_cons (pe_ix (ixK (K := c.K)) (pv 0) pe_int (fun _ _ => rfl)) pa_nil))) (fun _ _ => rfl)))) pss_nil)
 (pss_cons (ps_if (PW.pt (pw_and (pt_cmpR opLt (pv 2) (pe_callB (lenK (K := c.K)) (by rfl) T.b_len (by decide +kernel) (pa_cons (pe_ix (ixK (K := c.K)) (pv 0) pe_int (fun _ _ => rfl)) pa_nil)) (nomark _)) (pw_and1 (pt_cmpR opGe (pe_callB callAbs (by rfl) T.b_abs (by decide +kernel) (pa_cons (pv 3) pa_nil)) (pe_op opPow pe_int pe_int) (nomark _))))) (pss_cons (ps_set (i := 5) sc__law_take.nd rfl (by first | exact .inl rfl | exact .inr rfl) (pe_op (opAddK (K := c.K)) (pe_op (opMulK (K := c.K)) pe_int (pe_op opSub (pe_callB callAbs (by rfl) T.b_abs (by decide +kernel) (pa_cons (pv 3) pa_nil)) (pe_op opPow pe_int pe_int))) (pe_callTy callInt (by rfl) T.b_int (by decide +kernel) (pa_cons (pe_cmpR opLt (pv 3) pe_int (nomark _)) pa_nil))))
 (pss_cons (ps_asg (pe_op opDiv (pe_callTy callInt (by rfl) T.b_int (by decide +kernel) (pa_cons (pv 5) pa_nil)) (pv 1)) (pg_sub (pv 0) pe_int set_list))
 (pss_one (ps_ret (pe_op opMod (pe_callTy callInt (by rfl) T.b_int (by decide +kernel) (pa_cons (pv 5) pa_nil)) (pv 1)))))) pss_nil)
 (pss_cons (ps_set (i := 4) sc__law_take.nd rfl (by first | exact .inl rfl | exact .inr rfl) (pe_op opMod (pe_callTy callInt (by rfl) T.b_int (by decide +kernel) (pa_cons (pe_op opPow (pe_op (opAddK (K := c.K)) (pe_op (opAddK (K := c.K)) (pe_op opMod (pe_callTy callInt (by rfl) T.b_int (by decide +kernel) (pa_cons (pv 3) pa_nil)) pe_int) (pe_op (opMulK (K := c.K)) pe_int (pv 2))) pe_int) pe_int) pa_nil)) pe_int))
 (pss_cons (ps_set (i := 4) sc__law_take.nd rfl (by first | exact .inl rfl | exact .inr rfl) (pe_op opMod (pe_callTy callInt (by rfl) T.b_int (by decide +kernel) (pa_cons (pe_op opPow (pe_op (opAddK (K := c.K)) (pe_op (opAddK (K := c.K)) (pe_op (opMulK (K := c.K)) (pv 4) (pe_op (opAddK (K := c.K)) (pe_op (opMulK (K := c.K)) pe_int (pv 2)) pe_int)) (pe_op (opMulK (K := c.K)) (pe_op (opMulK (K := c.K)) pe_int (pv 2)) (pv 2))) pe_int) pe_int) pa_nil)) pe_int))
 (pss_one (ps_ret (pe_op opMod (pe_callTy callInt (by rfl) T.b_int (by decide +kernel) (pa_cons (pe_op opDiv (pv 4) pe_int) pa_nil)) (pv 1)))))))))))), _, (sndS_seq (sndS_if (sndT_test (snd_op sndR_gt (snd_pen2 snd_var) snd_int)) (sndS_seq (sndS_asg (snd_pen2 snd_var) sndG_name)
 (sndS_seq (sndS_pen2 (snd_op sndR_div (snd_cb sndC_int (sndA_cons snd_var sndA_nil)) snd_var) snd_var)
 (sndS_ret (snd_op sndR_mod (snd_cb sndC_int (sndA_cons snd_var sndA_nil)) snd_var)))) sndS_next)
 (sndS_seq (sndS_asg (snd_pen1 snd_var) sndG_name)
 (sndS_seq (sndS_pen1 (snd_op sndR_add snd_var snd_int) snd_var)
 (sndS_seq (sndS_asg (snd_op sndR_add (snd_op sndR_mul snd_int snd_var) snd_int) sndG_name)
 (sndS_seq (sndS_if (sndT_test (snd_op sndR_ne0 (snd_pen0 snd_var) (snd_lst sndA_nil))) (sndS_asg (snd_op sndR_ix (snd_pen0 snd_var) (snd_op sndR_mod (snd_cb sndC_int (sndA_cons snd_var sndA_nil)) (snd_cb sndC_len (sndA_cons (snd_pen0 snd_var) sndA_nil)))) sndG_name) sndS_next)
 (sndS_seq (sndS_if (sndT_and (sndT_test (snd_op sndR_lt snd_var (snd_cb sndC_len (sndA_cons (snd_pen0 snd_var) sndA_nil)))) (sndT_test (snd_op sndR_ge (snd_cb sndC_abs (sndA_cons snd_var sndA_nil)) (snd_op sndR_pow snd_int snd_int)))) (sndS_seq (sndS_asg (snd_op sndR_add (snd_op sndR_mul snd_int (snd_op sndR_sub (snd_cb sndC_abs (sndA_cons snd_var sndA_nil)) (snd_op sndR_pow snd_int snd_int))) (snd_cb sndC_int (sndA_cons (snd_op sndR_lt snd_var snd_int) sndA_nil))) sndG_name)
 (sndS_seq (sndS_pen2 (snd_op sndR_div (snd_cb sndC_int (sndA_cons snd_var sndA_nil)) snd_var) snd_var)
 (sndS_ret (snd_op sndR_mod (snd_cb sndC_int (sndA_cons snd_var sndA_nil)) snd_var)))) sndS_next)
 (sndS_seq (sndS_asg (snd_op sndR_mod (snd_cb sndC_int (sndA_cons (snd_op sndR_pow (snd_op sndR_add (snd_op sndR_add (snd_op sndR_mod (snd_cb sndC_int (sndA_cons snd_var sndA_nil)) snd_int) (snd_op sndR_mul snd_int snd_var)) snd_int) snd_int) sndA_nil)) snd_int) sndG_name)
 (sndS_seq (sndS_asg (snd_op sndR_mod (snd_cb sndC_int (sndA_cons (snd_op sndR_pow (snd_op sndR_add (snd_op sndR_add (snd_op sndR_mul snd_var (snd_op sndR_add (snd_op sndR_mul snd_int snd_var) snd_int)) (snd_op sndR_mul (snd_op sndR_mul snd_int snd_var) snd_var)) snd_int) snd_int) sndA_nil)) snd_int) sndG_name)
 (sndS_ret (snd_op sndR_mod (snd_cb sndC_int (sndA_cons (snd_op sndR_div snd_var snd_int) sndA_nil)) snd_var)))))))))), fun ds n Q h hl => ?_⟩)
  unfold F__law_take at h
  split at h
  · rename_i m
    obtain ⟨h1, h2, h3, q⟩ := h
    simp only [wSeq, wNext, wRet, wRetN, wNever, wDrop, wIfS, wAsg, gwName, dv_gtup, dv_gunl, dv_gcons, dv_gnil, wPar, wPar3, wAug, wSetO, wAugO, wApp, wVar, wC, wOp, wUn, asBl, wAnd, wOr, wNot, wAndV, wOrV, wNotV, wIf, wNil, wCons, wTup, wLst, wLstO, wCB, wCall, wCallK1, wMeth, wRel, wMk, wPen0, wPen1, wPen2, wPenS1, wPenS2, wSMeth, dv_make, wRowF, wSl, woNo, woSome, wChain, wYes, wIsi2,
    dv_add_int, dv_add_lst, dv_add_tup, dv_mul_int, dv_mul_lst, dv_mul_tup, rdMulO, dv_i0, dv_i2, rdNeg, rdSl, dv_int_int, dv_int_bl, dv_abs, dv_ne0_lst0, dv_eq0_lst0, rdList, rdListO, rdIsi, dv_eq_row, dv_ne_row, dv_eq_tup, dv_ne_tup, dv_ne_tup0, dv_eq_lst, dv_ne_lst, dv_eq_int, dv_ne_int, dv_eq0_tup, dv_eq0_int, dv_ne0_int, dv_ne0_tup, dv_mk_lst, dv_mk_tup, dv_sum_lst, dv_sum_tup, dv_tuple_lst, dv_tuple_tup, dv_len_lst, dv_len_tup, dv_all, frzL_ints,  rdIs, rdIsNot, Dp.isNon, seqOf, seqI, frz, startD, kg, isiD_non, isiD_bl, isiD_int, isiD_str, isiD_lst, isiD_tup, isiD2_non, isiD2_bl, isiD2_int, isiD2_str, isiD2_lst, isiD2_tup, kb_non_int, kb_bl_int, kb_int_int, kb_str_int, kb_lst_int, kb_tup_int, kb_non_bool, kb_bl_bool, kb_int_bool, kb_str_str, kb_int_str, kb2_non, kb2_bl, kb2_int, kb2_str, kb2_lst, kb2_tup, isi_row_int, isi_row_list, isi_row_tuple, isi_row_str, isi2_row,
    List.map_cons, List.map_nil, List.length_cons, List.length_nil, List.getElem?_cons_zero, List.getElem?_cons_succ, List.set_cons_zero, List.set_cons_succ, List.replicate_succ, List.replicate_zero, List.cons_append, List.nil_append, List.append_nil, Nat.zero_add, Nat.reduceAdd, Nat.reduceSub, List.tail_cons, wipeE, wiRng1, wiRng2, wiSeq, wiEnum, wiZip,
    exists_eq_left, exists_eq_left', exists_eq_right, exists_eq_right', Option.some.injEq, D.int.injEq, D.bl.injEq, D.str.injEq, D.lst.injEq, D.tup.injEq, D.row.injEq, D.own.injEq, D.adr.injEq, D.ty.injEq, reduceCtorEq, List.cons.injEq, true_and, and_true, false_and, and_false, or_false, false_or, exists_false, if_true, if_false, Bool.not_true, Bool.not_false, Bool.false_eq_true, and_self, true_or, or_true, exists_and_left, exists_and_right, ite_true, ite_false, exists_const, exists_eq, exists_eq', decide_true, decide_false, Bool.not_true, Bool.not_false]
    intro r hr0
    by_cases hr1 : 0 < r
    · rw [if_pos (decide_eq_true hr1)]
      exact fun r2 hr2 => ⟨cdv_of h1 h2, Int.ediv_nonneg hr2 (by omega), by omega, q _ n (Int.emod_nonneg _ (by omega)) (Int.emod_lt_of_pos _ (by omega)) (by omega)⟩
    · rw [if_neg (by simpa using hr1)]
      intro s h0 hs
      refine ⟨by omega, n - 1, by omega, .inl (.inl (by omega)), by decide, ?_⟩
      by_cases hc : c.cells = []
      · rw [if_neg (by simpa using hc)]
        exact ite_two (drawG_great (Q := fun d => Q (.int d) (n - 1)) h1 h2 (fun d g1 g2 => q d _ g1 g2 (by omega)) (drawG_tail (Q := fun d => Q (.int d) (n - 1)) (by constructor <;> decide) h0 (by omega) h1 (fun d g1 g2 => q d _ g1 g2 (by omega)))) (drawG_tail (Q := fun d => Q (.int d) (n - 1)) (by constructor <;> decide) h0 (by omega) h1 (fun d g1 g2 => q d _ g1 g2 (by omega)))
      · rw [if_pos (by simpa using hc)]
        have hp : 0 < c.cells.length := List.length_pos_iff.mpr hc
        rw [List.length_map]
        have g1 := Int.emod_nonneg s (show (c.cells.length : Int) ≠ 0 by omega)
        have g2 := Int.emod_lt_of_pos s (show (0 : Int) < (c.cells.length : Int) by omega)
        refine ⟨by omega, dv_ixI (ns := c.cells) rfl (atI_nat (j := (s % (c.cells.length : Int)).toNat) (by omega) (nt_lt (by omega))) ?_ (fun _ z => by cases z)⟩
        simp only [wSeq, wNext, wRet, wRetN, wNever, wDrop, wIfS, wAsg, gwName, dv_gtup, dv_gunl, dv_gcons, dv_gnil, wPar, wPar3, wAug, wSetO, wAugO, wApp, wVar, wC, wOp, wUn, asBl, wAnd, wOr, wNot, wAndV, wOrV, wNotV, wIf, wNil, wCons, wTup, wLst, wLstO, wCB, wCall, wCallK1, wMeth, wRel, wMk, wPen0, wPen1, wPen2, wPenS1, wPenS2, wSMeth, dv_make, wRowF, wSl, woNo, woSome, wChain, wYes, wIsi2,
    dv_add_int, dv_add_lst, dv_add_tup, dv_mul_int, dv_mul_lst, dv_mul_tup, rdMulO, dv_i0, dv_i2, rdNeg, rdSl, dv_int_int, dv_int_bl, dv_abs, dv_ne0_lst0, dv_eq0_lst0, rdList, rdListO, rdIsi, dv_eq_row, dv_ne_row, dv_eq_tup, dv_ne_tup, dv_ne_tup0, dv_eq_lst, dv_ne_lst, dv_eq_int, dv_ne_int, dv_eq0_tup, dv_eq0_int, dv_ne0_int, dv_ne0_tup, dv_mk_lst, dv_mk_tup, dv_sum_lst, dv_sum_tup, dv_tuple_lst, dv_tuple_tup, dv_len_lst, dv_len_tup, dv_all, frzL_ints,  rdIs, rdIsNot, Dp.isNon, seqOf, seqI, frz, startD, kg, isiD_non, isiD_bl, isiD_int, isiD_str, isiD_lst, isiD_tup, isiD2_non, isiD2_bl, isiD2_int, isiD2_str, isiD2_lst, isiD2_tup, kb_non_int, kb_bl_int, kb_int_int, kb_str_int, kb_lst_int, kb_tup_int, kb_non_bool, kb_bl_bool, kb_int_bool, kb_str_str, kb_int_str, kb2_non, kb2_bl, kb2_int, kb2_str, kb2_lst, kb2_tup, isi_row_int, isi_row_list, isi_row_tuple, isi_row_str, isi2_row,
    List.map_cons, List.map_nil, List.length_cons, List.length_nil, List.getElem?_cons_zero, List.getElem?_cons_succ, List.set_cons_zero, List.set_cons_succ, List.replicate_succ, List.replicate_zero, List.cons_append, List.nil_append, List.append_nil, Nat.zero_add, Nat.reduceAdd, Nat.reduceSub, List.tail_cons, wipeE, wiRng1, wiRng2, wiSeq, wiEnum, wiZip,
    exists_eq_left, exists_eq_left', exists_eq_right, exists_eq_right', Option.some.injEq, D.int.injEq, D.bl.injEq, D.str.injEq, D.lst.injEq, D.tup.injEq, D.row.injEq, D.own.injEq, D.adr.injEq, D.ty.injEq, reduceCtorEq, List.cons.injEq, true_and, and_true, false_and, and_false, or_false, false_or, exists_false, if_true, if_false, Bool.not_true, Bool.not_false, Bool.false_eq_true, and_self, true_or, or_true, exists_and_left, exists_and_right, ite_true, ite_false, exists_const, exists_eq, exists_eq', decide_true, decide_false, Bool.not_true, Bool.not_false]
        exact ite_two (drawG_great (Q := fun d => Q (.int d) (n - 1)) h1 h2 (fun d g1 g2 => q d _ g1 g2 (by omega)) (drawG_tail (Q := fun d => Q (.int d) (n - 1)) (by constructor <;> decide) h0 (by omega) h1 (fun d g1 g2 => q d _ g1 g2 (by omega)))) (drawG_tail (Q := fun d => Q (.int d) (n - 1)) (by constructor <;> decide) h0 (by omega) h1 (fun d g1 g2 => q d _ g1 g2 (by omega)))
  · exact h.elim
def F__law_pick : FD
  | [.pen, .lst xs], n, Q => 1 ≤ xs.length ∧ xs.length < 1000 ∧ 1 ≤ n ∧ ∀ (x : D) (n' : Nat), x ∈ xs → n ≤ n' + 1 → Q x n'
  | _, _, _ => False
theorem l__law_pick : ∀ ds n Q, F__law_pick ds n Q → ds.length = 2 := by intro ds n Q h; unfold F__law_pick at h; split at h <;> first | rfl | exact h.elim
theorem ok_pick (Fn : FunD c.K "_law_pick" "_law_pick" (defArgs s__law_pick) (defBody s__law_pick) (defScope s__law_pick) [] [] f fd) (T : Tb c mg) (d__law_take : Dn P w c.K mg base "_law_take" 2 ["_law_hand_here", "_law_many"] (spD c 2 F__law_take)) : FnOk P w c.K mg base CX0 3 f fd ["_law_hand_here", "_law_some"] (spD c 2 F__law_pick) := by
  refine fn_d Fn sc__law_pick (fun cdv A outer s H E hr => ⟨_, (pss_one (ps_ret (pe_ix (ixK (K := c.K)) (pv 1) (pe_d d__law_take hr (by rfl) (pa_cons (pv 0) (pa_cons (pe_callB (lenK (K := c.K)) (by rfl) T.b_len (by decide +kernel) (pa_cons (pv 1) pa_nil)) pa_nil))) (fun _ _ => rfl)))), _, (sndS_ret (snd_op sndR_ix snd_var (snd_call l__law_take (sndA_cons snd_var (sndA_cons (snd_cb sndC_len (sndA_cons snd_var sndA_nil)) sndA_nil))))), fun ds n Q h hl => ?_⟩)
  unfold F__law_pick at h
  split at h
  · rename_i xs
    obtain ⟨h1, h2, h3, q⟩ := h
    simp only [wSeq, wNext, wRet, wRetN, wNever, wDrop, wIfS, wAsg, gwName, dv_gtup, dv_gunl, dv_gcons, dv_gnil, wPar, wPar3, wAug, wSetO, wAugO, wApp, wVar, wC, wOp, wUn, asBl, wAnd, wOr, wNot, wAndV, wOrV, wNotV, wIf, wNil, wCons, wTup, wLst, wLstO, wCB, wCall, wCallK1, wMeth, wRel, wMk, wPen0, wPen1, wPen2, wPenS1, wPenS2, wSMeth, dv_make, wRowF, wSl, woNo, woSome, wChain, wYes, wIsi2,
    dv_add_int, dv_add_lst, dv_add_tup, dv_mul_int, dv_mul_lst, dv_mul_tup, rdMulO, dv_i0, dv_i2, rdNeg, rdSl, dv_int_int, dv_int_bl, dv_abs, dv_ne0_lst0, dv_eq0_lst0, rdList, rdListO, rdIsi, dv_eq_row, dv_ne_row, dv_eq_tup, dv_ne_tup, dv_ne_tup0, dv_eq_lst, dv_ne_lst, dv_eq_int, dv_ne_int, dv_eq0_tup, dv_eq0_int, dv_ne0_int, dv_ne0_tup, dv_mk_lst, dv_mk_tup, dv_sum_lst, dv_sum_tup, dv_tuple_lst, dv_tuple_tup, dv_len_lst, dv_len_tup, dv_all, frzL_ints,  rdIs, rdIsNot, Dp.isNon, seqOf, seqI, frz, startD, kg, isiD_non, isiD_bl, isiD_int, isiD_str, isiD_lst, isiD_tup, isiD2_non, isiD2_bl, isiD2_int, isiD2_str, isiD2_lst, isiD2_tup, kb_non_int, kb_bl_int, kb_int_int, kb_str_int, kb_lst_int, kb_tup_int, kb_non_bool, kb_bl_bool, kb_int_bool, kb_str_str, kb_int_str, kb2_non, kb2_bl, kb2_int, kb2_str, kb2_lst, kb2_tup, isi_row_int, isi_row_list, isi_row_tuple, isi_row_str, isi2_row,
    List.map_cons, List.map_nil, List.length_cons, List.length_nil, List.getElem?_cons_zero, List.getElem?_cons_succ, List.set_cons_zero, List.set_cons_succ, List.replicate_succ, List.replicate_zero, List.cons_append, List.nil_append, List.append_nil, Nat.zero_add, Nat.reduceAdd, Nat.reduceSub, List.tail_cons, wipeE, wiRng1, wiRng2, wiSeq, wiEnum, wiZip,
    exists_eq_left, exists_eq_left', exists_eq_right, exists_eq_right', Option.some.injEq, D.int.injEq, D.bl.injEq, D.str.injEq, D.lst.injEq, D.tup.injEq, D.row.injEq, D.own.injEq, D.adr.injEq, D.ty.injEq, reduceCtorEq, List.cons.injEq, true_and, and_true, false_and, and_false, or_false, false_or, exists_false, if_true, if_false, Bool.not_true, Bool.not_false, Bool.false_eq_true, and_self, true_or, or_true, exists_and_left, exists_and_right, ite_true, ite_false, exists_const, exists_eq, exists_eq', decide_true, decide_false, Bool.not_true, Bool.not_false, F__law_take]
    refine ⟨by omega, by omega, by omega, fun d n' g1 g2 g3 => ?_⟩
    obtain ⟨j, rfl⟩ : ∃ j : Nat, d = j := ⟨d.toNat, by omega⟩
    have hj : j < xs.length := by omega
    refine dv_ix rfl (atI_nat rfl (List.getElem?_eq_getElem hj)) ?_ (fun _ z => by cases z)
    rw [frz_nil]
    exact q _ _ (List.getElem_mem hj) g3
  · exact h.elim
def Sm (a : List Int) : Prop := ∀ x ∈ a, -200000 ≤ x ∧ x ≤ 200000
def F__law_row : FD
  | [.pen, .int m], n, Q => 2 ≤ m ∧ m ≤ 24 ∧ 60 ≤ n ∧ ∀ (ns : List Int) (n' : Nat), (ns.length : Int) = m → Sm ns → n ≤ n' + 60 → Q (.lst (ns.map D.int)) n'
  | _, _, _ => False
theorem l__law_row : ∀ ds n Q, F__law_row ds n Q → ds.length = 2 := by intro ds n Q h; unfold F__law_row at h; split at h <;> first | rfl | exact h.elim
theorem ok_row (Fn : FunD c.K "_law_row" "_law_row" (defArgs s__law_row) (defBody s__law_row) (defScope s__law_row) [] [] f fd) (T : Tb c mg) (d__law_take : Dn P w c.K mg base "_law_take" 2 ["_law_hand_here", "_law_many"] (spD c 2 F__law_take)) (d__law_pick : Dn P w c.K mg base "_law_pick" 3 ["_law_hand_here", "_law_some"] (spD c 2 F__law_pick)) : FnOk P w c.K mg base CX0 4 f fd ["_law_hand_here", "_law_many"] (spD c 2 F__law_row) := by
  refine fn_d Fn sc__law_row (fun cdv A outer s H E hr => ⟨_, (pss_cons (ps_set (i := 2) sc__law_row.nd rfl (by first | exact .inl rfl | exact .inr rfl) (pe_d d__law_take hr (by rfl) (pa_cons (pv 0) (pa_cons pe_int pa_nil))))
 (pss_cons (ps_set (i := 3) sc__law_row.nd rfl (by first | exact .inl rfl | exact .inr rfl) (pe_ix (ixK (K := c.K)) (pe_lst (pa_cons (pe_lst (pa_cons pe_int (pa_cons pe_int (pa_cons pe_int (pa_cons pe_int (pa_cons (pe_un unNeg pe_int) (pa_cons pe_int pa_nil))))))) (pa_cons (pe_lst (pa_cons pe_int (pa_cons pe_int (pa_cons (pe_un unNeg pe_int) (pa_cons pe_int (pa_cons (pe_un unNeg pe_int) (pa_cons pe_int (pa_cons (pe_un unNeg pe_int) pa_nil)))))))) (pa_cons (pe_lst (pa_cons pe_int (pa_cons pe_int pa_nil))) (pa_cons (pe_lst (pa_cons pe_int (pa_cons pe_int (pa_cons pe_int (pa_cons pe_int (pa_cons (pe_un unNeg pe_int) pa_nil)))))) pa_nil))))) (pv 2) (fun _ _ => rfl)))
 (pss_one (ps_ret (pe_lc (own := [("_law_beat", 4)]) (g := gName 4) (by rfl) sc__law_row.nd (pi_range1 (by rfl) T.b_range (pa_cons (pv 1) pa_nil)) (blkOk_by (N := ["_law_hand_here", "_law_many", "_law_way", "_law_some", "_law_beat"]) (sc := defScope s__law_row) (by decide +kernel)) (fun _ _ _ _ _ => (pg_name (i := 4) sc__law_row.nd rfl (by first | exact .inl rfl | exact .inr rfl))) (fun _ _ _ _ _ => pts_nil) (fun _ _ _ _ _ => (pe_d d__law_pick hr (by rfl) (pa_cons (pv 0) (pa_cons (pv 3) pa_nil))))))))), _, (sndS_seq (sndS_asg (snd_call l__law_take (sndA_cons snd_var (sndA_cons snd_int sndA_nil))) sndG_name)
 (sndS_seq (sndS_asg (snd_op sndR_ix (snd_lst (sndA_cons (snd_lst (sndA_cons snd_int (sndA_cons snd_int (sndA_cons snd_int (sndA_cons snd_int (sndA_cons (snd_un sndU_neg snd_int) (sndA_cons snd_int sndA_nil))))))) (sndA_cons (snd_lst (sndA_cons snd_int (sndA_cons snd_int (sndA_cons (snd_un sndU_neg snd_int) (sndA_cons snd_int (sndA_cons (snd_un sndU_neg snd_int) (sndA_cons snd_int (sndA_cons (snd_un sndU_neg snd_int) sndA_nil)))))))) (sndA_cons (snd_lst (sndA_cons snd_int (sndA_cons snd_int sndA_nil))) (sndA_cons (snd_lst (sndA_cons snd_int (sndA_cons snd_int (sndA_cons snd_int (sndA_cons snd_int (sndA_cons (snd_un sndU_neg snd_int) sndA_nil)))))) sndA_nil))))) snd_var) sndG_name)
 (sndS_ret (snd_lc (sndI_rng1 (sndA_cons snd_var sndA_nil)) sndG_name (okT_name (by decide)) sndT_yes (snd_call l__law_pick (sndA_cons snd_var (sndA_cons snd_var sndA_nil))))))), fun ds n Q h hl => ?_⟩)
  unfold F__law_row at h
  split at h
  · rename_i m
    obtain ⟨h1, h2, h3, q⟩ := h
    obtain ⟨k, rfl⟩ : ∃ k : Nat, m = k := ⟨m.toNat, by omega⟩
    simp only [wSeq, wNext, wRet, wRetN, wNever, wDrop, wIfS, wAsg, gwName, dv_gtup, dv_gunl, dv_gcons, dv_gnil, wPar, wPar3, wAug, wSetO, wAugO, wApp, wVar, wC, wOp, wUn, asBl, wAnd, wOr, wNot, wAndV, wOrV, wNotV, wIf, wNil, wCons, wTup, wLst, wLstO, wCB, wCall, wCallK1, wMeth, wRel, wMk, wPen0, wPen1, wPen2, wPenS1, wPenS2, wSMeth, dv_make, wRowF, wSl, woNo, woSome, wChain, wYes, wIsi2,
    dv_add_int, dv_add_lst, dv_add_tup, dv_mul_int, dv_mul_lst, dv_mul_tup, rdMulO, dv_i0, dv_i2, rdNeg, rdSl, dv_int_int, dv_int_bl, dv_abs, dv_ne0_lst0, dv_eq0_lst0, rdList, rdListO, rdIsi, dv_eq_row, dv_ne_row, dv_eq_tup, dv_ne_tup, dv_ne_tup0, dv_eq_lst, dv_ne_lst, dv_eq_int, dv_ne_int, dv_eq0_tup, dv_eq0_int, dv_ne0_int, dv_ne0_tup, dv_mk_lst, dv_mk_tup, dv_sum_lst, dv_sum_tup, dv_tuple_lst, dv_tuple_tup, dv_len_lst, dv_len_tup, dv_all, frzL_ints,  rdIs, rdIsNot, Dp.isNon, seqOf, seqI, frz, startD, kg, isiD_non, isiD_bl, isiD_int, isiD_str, isiD_lst, isiD_tup, isiD2_non, isiD2_bl, isiD2_int, isiD2_str, isiD2_lst, isiD2_tup, kb_non_int, kb_bl_int, kb_int_int, kb_str_int, kb_lst_int, kb_tup_int, kb_non_bool, kb_bl_bool, kb_int_bool, kb_str_str, kb_int_str, kb2_non, kb2_bl, kb2_int, kb2_str, kb2_lst, kb2_tup, isi_row_int, isi_row_list, isi_row_tuple, isi_row_str, isi2_row,
    List.map_cons, List.map_nil, List.length_cons, List.length_nil, List.getElem?_cons_zero, List.getElem?_cons_succ, List.set_cons_zero, List.set_cons_succ, List.replicate_succ, List.replicate_zero, List.cons_append, List.nil_append, List.append_nil, Nat.zero_add, Nat.reduceAdd, Nat.reduceSub, List.tail_cons, wipeE, wiRng1, wiRng2, wiSeq, wiEnum, wiZip,
    exists_eq_left, exists_eq_left', exists_eq_right, exists_eq_right', Option.some.injEq, D.int.injEq, D.bl.injEq, D.str.injEq, D.lst.injEq, D.tup.injEq, D.row.injEq, D.own.injEq, D.adr.injEq, D.ty.injEq, reduceCtorEq, List.cons.injEq, true_and, and_true, false_and, and_false, or_false, false_or, exists_false, if_true, if_false, Bool.not_true, Bool.not_false, Bool.false_eq_true, and_self, true_or, or_true, exists_and_left, exists_and_right, ite_true, ite_false, exists_const, exists_eq, exists_eq', decide_true, decide_false, Bool.not_true, Bool.not_false, F__law_take]
    refine ⟨by decide, by decide, by omega, fun d n' g1 g2 g3 => ?_⟩
    have fin : ∀ xs : List D, 1 ≤ xs.length → xs.length < 1000 → xs.all (within 200000) = true → wLc (wiRng1 (wCons (wVar 1) wNil)) (gwName 4) wYes (wCall F__law_pick (wCons (wVar 0) (wCons (wVar 3) wNil))) [4] [some D.pen, some (D.int k), some (D.int d), some (.lst xs), none] [] n' fun d μ1 n1 => Q (frz μ1 d) n1 := fun xs x1 x2 x3 => by
      refine lc_intsB 200000 k (μ1 := []) (n1 := n') (fun kk q => ?_) (by omega) (by omega) (fun i p acc n2 J _ hn _ hJ => ?_) fun ns n2 e1 e2 e3 => ?_
      · simp only [wSeq, wNext, wRet, wRetN, wNever, wDrop, wIfS, wAsg, gwName, dv_gtup, dv_gunl, dv_gcons, dv_gnil, wPar, wPar3, wAug, wSetO, wAugO, wApp, wVar, wC, wOp, wUn, asBl, wAnd, wOr, wNot, wAndV, wOrV, wNotV, wIf, wNil, wCons, wTup, wLst, wLstO, wCB, wCall, wCallK1, wMeth, wRel, wMk, wPen0, wPen1, wPen2, wPenS1, wPenS2, wSMeth, dv_make, wRowF, wSl, woNo, woSome, wChain, wYes, wIsi2,
    dv_add_int, dv_add_lst, dv_add_tup, dv_mul_int, dv_mul_lst, dv_mul_tup, rdMulO, dv_i0, dv_i2, rdNeg, rdSl, dv_int_int, dv_int_bl, dv_abs, dv_ne0_lst0, dv_eq0_lst0, rdList, rdListO, rdIsi, dv_eq_row, dv_ne_row, dv_eq_tup, dv_ne_tup, dv_ne_tup0, dv_eq_lst, dv_ne_lst, dv_eq_int, dv_ne_int, dv_eq0_tup, dv_eq0_int, dv_ne0_int, dv_ne0_tup, dv_mk_lst, dv_mk_tup, dv_sum_lst, dv_sum_tup, dv_tuple_lst, dv_tuple_tup, dv_len_lst, dv_len_tup, dv_all, frzL_ints,  rdIs, rdIsNot, Dp.isNon, seqOf, seqI, frz, startD, kg, isiD_non, isiD_bl, isiD_int, isiD_str, isiD_lst, isiD_tup, isiD2_non, isiD2_bl, isiD2_int, isiD2_str, isiD2_lst, isiD2_tup, kb_non_int, kb_bl_int, kb_int_int, kb_str_int, kb_lst_int, kb_tup_int, kb_non_bool, kb_bl_bool, kb_int_bool, kb_str_str, kb_int_str, kb2_non, kb2_bl, kb2_int, kb2_str, kb2_lst, kb2_tup, isi_row_int, isi_row_list, isi_row_tuple, isi_row_str, isi2_row,
    List.map_cons, List.map_nil, List.length_cons, List.length_nil, List.getElem?_cons_zero, List.getElem?_cons_succ, List.set_cons_zero, List.set_cons_succ, List.replicate_succ, List.replicate_zero, List.cons_append, List.nil_append, List.append_nil, Nat.zero_add, Nat.reduceAdd, Nat.reduceSub, List.tail_cons, wipeE, wiRng1, wiRng2, wiSeq, wiEnum, wiZip,
    exists_eq_left, exists_eq_left', exists_eq_right, exists_eq_right', Option.some.injEq, D.int.injEq, D.bl.injEq, D.str.injEq, D.lst.injEq, D.tup.injEq, D.row.injEq, D.own.injEq, D.adr.injEq, D.ty.injEq, reduceCtorEq, List.cons.injEq, true_and, and_true, false_and, and_false, or_false, false_or, exists_false, if_true, if_false, Bool.not_true, Bool.not_false, Bool.false_eq_true, and_self, true_or, or_true, exists_and_left, exists_and_right, ite_true, ite_false, exists_const, exists_eq, exists_eq', decide_true, decide_false, Bool.not_true, Bool.not_false]; exact ⟨by omega, by omega, q⟩
      · simp only [wSeq, wNext, wRet, wRetN, wNever, wDrop, wIfS, wAsg, gwName, dv_gtup, dv_gunl, dv_gcons, dv_gnil, wPar, wPar3, wAug, wSetO, wAugO, wApp, wVar, wC, wOp, wUn, asBl, wAnd, wOr, wNot, wAndV, wOrV, wNotV, wIf, wNil, wCons, wTup, wLst, wLstO, wCB, wCall, wCallK1, wMeth, wRel, wMk, wPen0, wPen1, wPen2, wPenS1, wPenS2, wSMeth, dv_make, wRowF, wSl, woNo, woSome, wChain, wYes, wIsi2,
    dv_add_int, dv_add_lst, dv_add_tup, dv_mul_int, dv_mul_lst, dv_mul_tup, rdMulO, dv_i0, dv_i2, rdNeg, rdSl, dv_int_int, dv_int_bl, dv_abs, dv_ne0_lst0, dv_eq0_lst0, rdList, rdListO, rdIsi, dv_eq_row, dv_ne_row, dv_eq_tup, dv_ne_tup, dv_ne_tup0, dv_eq_lst, dv_ne_lst, dv_eq_int, dv_ne_int, dv_eq0_tup, dv_eq0_int, dv_ne0_int, dv_ne0_tup, dv_mk_lst, dv_mk_tup, dv_sum_lst, dv_sum_tup, dv_tuple_lst, dv_tuple_tup, dv_len_lst, dv_len_tup, dv_all, frzL_ints,  rdIs, rdIsNot, Dp.isNon, seqOf, seqI, frz, startD, kg, isiD_non, isiD_bl, isiD_int, isiD_str, isiD_lst, isiD_tup, isiD2_non, isiD2_bl, isiD2_int, isiD2_str, isiD2_lst, isiD2_tup, kb_non_int, kb_bl_int, kb_int_int, kb_str_int, kb_lst_int, kb_tup_int, kb_non_bool, kb_bl_bool, kb_int_bool, kb_str_str, kb_int_str, kb2_non, kb2_bl, kb2_int, kb2_str, kb2_lst, kb2_tup, isi_row_int, isi_row_list, isi_row_tuple, isi_row_str, isi2_row,
    List.map_cons, List.map_nil, List.length_cons, List.length_nil, List.getElem?_cons_zero, List.getElem?_cons_succ, List.set_cons_zero, List.set_cons_succ, List.replicate_succ, List.replicate_zero, List.cons_append, List.nil_append, List.append_nil, Nat.zero_add, Nat.reduceAdd, Nat.reduceSub, List.tail_cons, wipeE, wiRng1, wiRng2, wiSeq, wiEnum, wiZip,
    exists_eq_left, exists_eq_left', exists_eq_right, exists_eq_right', Option.some.injEq, D.int.injEq, D.bl.injEq, D.str.injEq, D.lst.injEq, D.tup.injEq, D.row.injEq, D.own.injEq, D.adr.injEq, D.ty.injEq, reduceCtorEq, List.cons.injEq, true_and, and_true, false_and, and_false, or_false, false_or, exists_false, if_true, if_false, Bool.not_true, Bool.not_false, Bool.false_eq_true, and_self, true_or, or_true, exists_and_left, exists_and_right, ite_true, ite_false, exists_const, exists_eq, exists_eq', decide_true, decide_false, Bool.not_true, Bool.not_false, F__law_pick]
        refine ⟨x1, x2, by omega, fun x n3 hx a3 => ?_⟩
        obtain ⟨i, rfl, i1, i2⟩ := within_ok x3 hx
        first | exact hJ _ _ i1 i2 (by omega) | exact ⟨rfl, hJ _ _ i1 i2 (by omega)⟩
      · rw [frz_nil]; exact q ns n2 (by omega) e2 (by omega)
    refine ⟨by decide, by decide, by decide, by decide, by decide, ?_⟩
    have four : d = ((0 : Nat) : Int) ∨ d = ((1 : Nat) : Int) ∨ d = ((2 : Nat) : Int) ∨ d = ((3 : Nat) : Int) := by omega
    rcases four with rfl | rfl | rfl | rfl <;>
      exact dv_ix rfl (atI_nat rfl rfl) (fin _ (by decide) (by decide) (by decide)) (fun _ z => by cases z)
  · exact h.elim
def F__law_spans : FD
  | [.lst xs, .lst ys], n, Q => ∃ a b : List Int, xs = a.map D.int ∧ ys = b.map D.int ∧ Rk a ∧ a.length = b.length ∧ Sm a ∧ Q (.tup ((spn a b).map D.int)) n
  | _, _, _ => False
theorem l__law_spans : ∀ ds n Q, F__law_spans ds n Q → ds.length = 2 := by intro ds n Q h; unfold F__law_spans at h; split at h <;> first | rfl | exact h.elim
theorem ok_lspans (Fn : FunD c.K "_law_spans" "_law_spans" (defArgs s__law_spans) (defBody s__law_spans) (defScope s__law_spans) [] [] f fd) (T : Tb c mg) : FnOk P w c.K mg base CX0 2 f fd ["_law_one", "_law_other"] (spD c 2 F__law_spans) := by
  refine fn_d Fn sc__law_spans (fun cdv A outer s H E hr => ⟨_, (pss_cons (ps_asg (pe_tup (pa_cons (pe_callB (lenK (K := c.K)) (by rfl) T.b_len (by decide +kernel) (pa_cons (pv 0) pa_nil)) (pa_cons (pe_lst pa_nil) pa_nil))) (pg_tup rfl (pgs_cons (pg_name (i := 3) sc__law_spans.nd rfl (by first | exact .inl rfl | exact .inr rfl)) (pgs_cons (pg_name (i := 4) sc__law_spans.nd rfl (by first | exact .inl rfl | exact .inr rfl)) pgs_nil))))
 (pss_cons (ps_for PassesOwn.never rfl (pi_range1 (by rfl) T.b_range (pa_cons (pv 3) pa_nil)) (pg_name (i := 2) sc__law_spans.nd rfl (by first | exact .inl rfl | exact .inr rfl))
 (pss_one (ps_expr (pe_bm PySem.F.plainAttrs_list PySem.F.slot_list_append PySem.F.type_list_append mt_append (pv 4) (pa_cons (pe_callB (sumK (K := c.K)) (by rfl) T.b_sum (by decide +kernel) (pa_cons (pe_lc (own := [("_law_at", 5)]) (g := gName 5) (by rfl) sc__law_spans.nd (pi_range1 (by rfl) T.b_range (pa_cons (pv 3) pa_nil)) (blkOk_by (N := ["_law_one", "_law_other", "_law_beat", "_law_many", "_law_found", "_law_at"]) (sc := defScope s__law_spans) (by decide +kernel)) (fun _ _ _ _ _ => (pg_name (i := 5) sc__law_spans.nd rfl (by first | exact .inl rfl | exact .inr rfl))) (fun _ _ _ _ _ => pts_nil) (fun _ _ _ _ _ => (pe_op (opMulK (K := c.K)) (pe_ix (ixK (K := c.K)) (pv 0) (pv 5) (fun _ _ => rfl)) (pe_ix (ixK (K := c.K)) (pv 1) (pe_op opMod (pe_callTy callInt (by rfl) T.b_int (by decide +kernel) (pa_cons (pe_op (opAddK (K := c.K)) (pv 5) (pv 2)) pa_nil)) (pv 3)) (fun _ _ => rfl))))) pa_nil)) pa_nil)))))
 (pss_one (ps_ret (pe_callTy (tupleK (K := c.K)) (by rfl) T.b_tuple (by decide +kernel) (pa_cons (pv 4) pa_nil)))))), _, (sndS_seq (sndS_asg (snd_tup (sndA_cons (snd_cb sndC_len (sndA_cons snd_var sndA_nil)) (sndA_cons (snd_lstO sndA_nil) sndA_nil))) (sndG_tup (sndGs_cons sndG_name (sndGs_cons sndG_name sndGs_nil))))
 (sndS_seq (sndS_for (sndI_rng1 (sndA_cons snd_var sndA_nil)) sndG_name (sndS_app snd_var (snd_cb sndC_sum (sndA_cons (snd_lc (sndI_rng1 (sndA_cons snd_var sndA_nil)) sndG_name (okT_name (by decide)) sndT_yes (snd_op sndR_mul (snd_op sndR_ix snd_var snd_var) (snd_op sndR_ix snd_var (snd_op sndR_mod (snd_cb sndC_int (sndA_cons (snd_op sndR_add snd_var snd_var) sndA_nil)) snd_var)))) sndA_nil))))
 (sndS_ret (snd_cb sndC_tuple (sndA_cons snd_var sndA_nil))))), fun ds n Q h hl => ?_⟩)
  unfold F__law_spans at h
  split at h
  · rename_i xs ys
    obtain ⟨a, b, rfl, rfl, h1, h2, h3, q⟩ := h
    simp only [wSeq, wNext, wRet, wRetN, wNever, wDrop, wIfS, wAsg, gwName, dv_gtup, dv_gunl, dv_gcons, dv_gnil, wPar, wPar3, wAug, wSetO, wAugO, wApp, wVar, wC, wOp, wUn, asBl, wAnd, wOr, wNot, wAndV, wOrV, wNotV, wIf, wNil, wCons, wTup, wLst, wLstO, wCB, wCall, wCallK1, wMeth, wRel, wMk, wPen0, wPen1, wPen2, wPenS1, wPenS2, wSMeth, dv_make, wRowF, wSl, woNo, woSome, wChain, wYes, wIsi2,
    dv_add_int, dv_add_lst, dv_add_tup, dv_mul_int, dv_mul_lst, dv_mul_tup, rdMulO, dv_i0, dv_i2, rdNeg, rdSl, dv_int_int, dv_int_bl, dv_abs, dv_ne0_lst0, dv_eq0_lst0, rdList, rdListO, rdIsi, dv_eq_row, dv_ne_row, dv_eq_tup, dv_ne_tup, dv_ne_tup0, dv_eq_lst, dv_ne_lst, dv_eq_int, dv_ne_int, dv_eq0_tup, dv_eq0_int, dv_ne0_int, dv_ne0_tup, dv_mk_lst, dv_mk_tup, dv_sum_lst, dv_sum_tup, dv_tuple_lst, dv_tuple_tup, dv_len_lst, dv_len_tup, dv_all, frzL_ints,  rdIs, rdIsNot, Dp.isNon, seqOf, seqI, frz, startD, kg, isiD_non, isiD_bl, isiD_int, isiD_str, isiD_lst, isiD_tup, isiD2_non, isiD2_bl, isiD2_int, isiD2_str, isiD2_lst, isiD2_tup, kb_non_int, kb_bl_int, kb_int_int, kb_str_int, kb_lst_int, kb_tup_int, kb_non_bool, kb_bl_bool, kb_int_bool, kb_str_str, kb_int_str, kb2_non, kb2_bl, kb2_int, kb2_str, kb2_lst, kb2_tup, isi_row_int, isi_row_list, isi_row_tuple, isi_row_str, isi2_row,
    List.map_cons, List.map_nil, List.length_cons, List.length_nil, List.getElem?_cons_zero, List.getElem?_cons_succ, List.set_cons_zero, List.set_cons_succ, List.replicate_succ, List.replicate_zero, List.cons_append, List.nil_append, List.append_nil, Nat.zero_add, Nat.reduceAdd, Nat.reduceSub, List.tail_cons, wipeE, wiRng1, wiRng2, wiSeq, wiEnum, wiZip,
    exists_eq_left, exists_eq_left', exists_eq_right, exists_eq_right', Option.some.injEq, D.int.injEq, D.bl.injEq, D.str.injEq, D.lst.injEq, D.tup.injEq, D.row.injEq, D.own.injEq, D.adr.injEq, D.ty.injEq, reduceCtorEq, List.cons.injEq, true_and, and_true, false_and, and_false, or_false, false_or, exists_false, if_true, if_false, Bool.not_true, Bool.not_false, Bool.false_eq_true, and_self, true_or, or_true, exists_and_left, exists_and_right, ite_true, ite_false, exists_const, exists_eq, exists_eq', decide_true, decide_false, Bool.not_true, Bool.not_false]
    have h24 := h1.2
    have h02 := h1.1
    refine ⟨by decide, fun p hp => ⟨by decide, rfl, ?_⟩⟩
    rw [List.length_map]
    refine for_j (items := rngD 0 a.length) (μ1 := [(p, [])]) (n1 := n) (fun i ds μ n' => n' = n ∧ μ = [(p, (tab i (xs a.length (nt a) (nt b))).map D.int)] ∧ ∃ u z, ds = [some (.lst (a.map D.int)), some (.lst (b.map D.int)), u, some (.int a.length), some (.own p), z]) (fun k q => ?_) ⟨rfl, rfl, _, _, rfl⟩ ?_ ?_
    · simp only [wSeq, wNext, wRet, wRetN, wNever, wDrop, wIfS, wAsg, gwName, dv_gtup, dv_gunl, dv_gcons, dv_gnil, wPar, wPar3, wAug, wSetO, wAugO, wApp, wVar, wC, wOp, wUn, asBl, wAnd, wOr, wNot, wAndV, wOrV, wNotV, wIf, wNil, wCons, wTup, wLst, wLstO, wCB, wCall, wCallK1, wMeth, wRel, wMk, wPen0, wPen1, wPen2, wPenS1, wPenS2, wSMeth, dv_make, wRowF, wSl, woNo, woSome, wChain, wYes, wIsi2,
    dv_add_int, dv_add_lst, dv_add_tup, dv_mul_int, dv_mul_lst, dv_mul_tup, rdMulO, dv_i0, dv_i2, rdNeg, rdSl, dv_int_int, dv_int_bl, dv_abs, dv_ne0_lst0, dv_eq0_lst0, rdList, rdListO, rdIsi, dv_eq_row, dv_ne_row, dv_eq_tup, dv_ne_tup, dv_ne_tup0, dv_eq_lst, dv_ne_lst, dv_eq_int, dv_ne_int, dv_eq0_tup, dv_eq0_int, dv_ne0_int, dv_ne0_tup, dv_mk_lst, dv_mk_tup, dv_sum_lst, dv_sum_tup, dv_tuple_lst, dv_tuple_tup, dv_len_lst, dv_len_tup, dv_all, frzL_ints,  rdIs, rdIsNot, Dp.isNon, seqOf, seqI, frz, startD, kg, isiD_non, isiD_bl, isiD_int, isiD_str, isiD_lst, isiD_tup, isiD2_non, isiD2_bl, isiD2_int, isiD2_str, isiD2_lst, isiD2_tup, kb_non_int, kb_bl_int, kb_int_int, kb_str_int, kb_lst_int, kb_tup_int, kb_non_bool, kb_bl_bool, kb_int_bool, kb_str_str, kb_int_str, kb2_non, kb2_bl, kb2_int, kb2_str, kb2_lst, kb2_tup, isi_row_int, isi_row_list, isi_row_tuple, isi_row_str, isi2_row,
    List.map_cons, List.map_nil, List.length_cons, List.length_nil, List.getElem?_cons_zero, List.getElem?_cons_succ, List.set_cons_zero, List.set_cons_succ, List.replicate_succ, List.replicate_zero, List.cons_append, List.nil_append, List.append_nil, Nat.zero_add, Nat.reduceAdd, Nat.reduceSub, List.tail_cons, wipeE, wiRng1, wiRng2, wiSeq, wiEnum, wiZip,
    exists_eq_left, exists_eq_left', exists_eq_right, exists_eq_right', Option.some.injEq, D.int.injEq, D.bl.injEq, D.str.injEq, D.lst.injEq, D.tup.injEq, D.row.injEq, D.own.injEq, D.adr.injEq, D.ty.injEq, reduceCtorEq, List.cons.injEq, true_and, and_true, false_and, and_false, or_false, false_or, exists_false, if_true, if_false, Bool.not_true, Bool.not_false, Bool.false_eq_true, and_self, true_or, or_true, exists_and_left, exists_and_right, ite_true, ite_false, exists_const, exists_eq, exists_eq', decide_true, decide_false, Bool.not_true, Bool.not_false]; exact ⟨by omega, by omega, q⟩
    · rintro i d ds μ n' J hd hi ⟨rfl, rfl, u, z, rfl⟩ hJ
      rw [rngD_len] at hi
      rw [rngD_get hi] at hd
      cases hd
      simp only [wSeq, wNext, wRet, wRetN, wNever, wDrop, wIfS, wAsg, gwName, dv_gtup, dv_gunl, dv_gcons, dv_gnil, wPar, wPar3, wAug, wSetO, wAugO, wApp, wVar, wC, wOp, wUn, asBl, wAnd, wOr, wNot, wAndV, wOrV, wNotV, wIf, wNil, wCons, wTup, wLst, wLstO, wCB, wCall, wCallK1, wMeth, wRel, wMk, wPen0, wPen1, wPen2, wPenS1, wPenS2, wSMeth, dv_make, wRowF, wSl, woNo, woSome, wChain, wYes, wIsi2,
    dv_add_int, dv_add_lst, dv_add_tup, dv_mul_int, dv_mul_lst, dv_mul_tup, rdMulO, dv_i0, dv_i2, rdNeg, rdSl, dv_int_int, dv_int_bl, dv_abs, dv_ne0_lst0, dv_eq0_lst0, rdList, rdListO, rdIsi, dv_eq_row, dv_ne_row, dv_eq_tup, dv_ne_tup, dv_ne_tup0, dv_eq_lst, dv_ne_lst, dv_eq_int, dv_ne_int, dv_eq0_tup, dv_eq0_int, dv_ne0_int, dv_ne0_tup, dv_mk_lst, dv_mk_tup, dv_sum_lst, dv_sum_tup, dv_tuple_lst, dv_tuple_tup, dv_len_lst, dv_len_tup, dv_all, frzL_ints,  rdIs, rdIsNot, Dp.isNon, seqOf, seqI, frz, startD, kg, isiD_non, isiD_bl, isiD_int, isiD_str, isiD_lst, isiD_tup, isiD2_non, isiD2_bl, isiD2_int, isiD2_str, isiD2_lst, isiD2_tup, kb_non_int, kb_bl_int, kb_int_int, kb_str_int, kb_lst_int, kb_tup_int, kb_non_bool, kb_bl_bool, kb_int_bool, kb_str_str, kb_int_str, kb2_non, kb2_bl, kb2_int, kb2_str, kb2_lst, kb2_tup, isi_row_int, isi_row_list, isi_row_tuple, isi_row_str, isi2_row,
    List.map_cons, List.map_nil, List.length_cons, List.length_nil, List.getElem?_cons_zero, List.getElem?_cons_succ, List.set_cons_zero, List.set_cons_succ, List.replicate_succ, List.replicate_zero, List.cons_append, List.nil_append, List.append_nil, Nat.zero_add, Nat.reduceAdd, Nat.reduceSub, List.tail_cons, wipeE, wiRng1, wiRng2, wiSeq, wiEnum, wiZip,
    exists_eq_left, exists_eq_left', exists_eq_right, exists_eq_right', Option.some.injEq, D.int.injEq, D.bl.injEq, D.str.injEq, D.lst.injEq, D.tup.injEq, D.row.injEq, D.own.injEq, D.adr.injEq, D.ty.injEq, reduceCtorEq, List.cons.injEq, true_and, and_true, false_and, and_false, or_false, false_or, exists_false, if_true, if_false, Bool.not_true, Bool.not_false, Bool.false_eq_true, and_self, true_or, or_true, exists_and_left, exists_and_right, ite_true, ite_false, exists_const, exists_eq, exists_eq', decide_true, decide_false, Bool.not_true, Bool.not_false]
      refine ⟨⟨_, map_lookup⟩, ?_⟩
      refine lc_map (μ1 := [(p, (tab i (xs a.length (nt a) (nt b))).map D.int)]) (n1 := n') (List.range a.length) (fun j => .int (0 + (j : Nat))) (fun j => .int (nt a j * nt b ((j + i) % a.length))) (fun k q => ?_) (by simp; omega) (fun j p2 acc J2 hj _ hJ2 => ?_) ?_
      · simp only [wSeq, wNext, wRet, wRetN, wNever, wDrop, wIfS, wAsg, gwName, dv_gtup, dv_gunl, dv_gcons, dv_gnil, wPar, wPar3, wAug, wSetO, wAugO, wApp, wVar, wC, wOp, wUn, asBl, wAnd, wOr, wNot, wAndV, wOrV, wNotV, wIf, wNil, wCons, wTup, wLst, wLstO, wCB, wCall, wCallK1, wMeth, wRel, wMk, wPen0, wPen1, wPen2, wPenS1, wPenS2, wSMeth, dv_make, wRowF, wSl, woNo, woSome, wChain, wYes, wIsi2,
    dv_add_int, dv_add_lst, dv_add_tup, dv_mul_int, dv_mul_lst, dv_mul_tup, rdMulO, dv_i0, dv_i2, rdNeg, rdSl, dv_int_int, dv_int_bl, dv_abs, dv_ne0_lst0, dv_eq0_lst0, rdList, rdListO, rdIsi, dv_eq_row, dv_ne_row, dv_eq_tup, dv_ne_tup, dv_ne_tup0, dv_eq_lst, dv_ne_lst, dv_eq_int, dv_ne_int, dv_eq0_tup, dv_eq0_int, dv_ne0_int, dv_ne0_tup, dv_mk_lst, dv_mk_tup, dv_sum_lst, dv_sum_tup, dv_tuple_lst, dv_tuple_tup, dv_len_lst, dv_len_tup, dv_all, frzL_ints,  rdIs, rdIsNot, Dp.isNon, seqOf, seqI, frz, startD, kg, isiD_non, isiD_bl, isiD_int, isiD_str, isiD_lst, isiD_tup, isiD2_non, isiD2_bl, isiD2_int, isiD2_str, isiD2_lst, isiD2_tup, kb_non_int, kb_bl_int, kb_int_int, kb_str_int, kb_lst_int, kb_tup_int, kb_non_bool, kb_bl_bool, kb_int_bool, kb_str_str, kb_int_str, kb2_non, kb2_bl, kb2_int, kb2_str, kb2_lst, kb2_tup, isi_row_int, isi_row_list, isi_row_tuple, isi_row_str, isi2_row,
    List.map_cons, List.map_nil, List.length_cons, List.length_nil, List.getElem?_cons_zero, List.getElem?_cons_succ, List.set_cons_zero, List.set_cons_succ, List.replicate_succ, List.replicate_zero, List.cons_append, List.nil_append, List.append_nil, Nat.zero_add, Nat.reduceAdd, Nat.reduceSub, List.tail_cons, wipeE, wiRng1, wiRng2, wiSeq, wiEnum, wiZip,
    exists_eq_left, exists_eq_left', exists_eq_right, exists_eq_right', Option.some.injEq, D.int.injEq, D.bl.injEq, D.str.injEq, D.lst.injEq, D.tup.injEq, D.row.injEq, D.own.injEq, D.adr.injEq, D.ty.injEq, reduceCtorEq, List.cons.injEq, true_and, and_true, false_and, and_false, or_false, false_or, exists_false, if_true, if_false, Bool.not_true, Bool.not_false, Bool.false_eq_true, and_self, true_or, or_true, exists_and_left, exists_and_right, ite_true, ite_false, exists_const, exists_eq, exists_eq', decide_true, decide_false, Bool.not_true, Bool.not_false]; exact ⟨by omega, by omega, q⟩
      · have hj : j < a.length := by simpa using hj
        have hm : (j + i) % a.length < a.length := Nat.mod_lt _ (by omega)
        have em : ((0 : Int) + (j : Int) + (0 + (i : Int))) % (a.length : Int) = ((j + i) % a.length : Nat) := by rw [Int.zero_add, Int.zero_add]; rfl
        simp only [wSeq, wNext, wRet, wRetN, wNever, wDrop, wIfS, wAsg, gwName, dv_gtup, dv_gunl, dv_gcons, dv_gnil, wPar, wPar3, wAug, wSetO, wAugO, wApp, wVar, wC, wOp, wUn, asBl, wAnd, wOr, wNot, wAndV, wOrV, wNotV, wIf, wNil, wCons, wTup, wLst, wLstO, wCB, wCall, wCallK1, wMeth, wRel, wMk, wPen0, wPen1, wPen2, wPenS1, wPenS2, wSMeth, dv_make, wRowF, wSl, woNo, woSome, wChain, wYes, wIsi2,
    dv_add_int, dv_add_lst, dv_add_tup, dv_mul_int, dv_mul_lst, dv_mul_tup, rdMulO, dv_i0, dv_i2, rdNeg, rdSl, dv_int_int, dv_int_bl, dv_abs, dv_ne0_lst0, dv_eq0_lst0, rdList, rdListO, rdIsi, dv_eq_row, dv_ne_row, dv_eq_tup, dv_ne_tup, dv_ne_tup0, dv_eq_lst, dv_ne_lst, dv_eq_int, dv_ne_int, dv_eq0_tup, dv_eq0_int, dv_ne0_int, dv_ne0_tup, dv_mk_lst, dv_mk_tup, dv_sum_lst, dv_sum_tup, dv_tuple_lst, dv_tuple_tup, dv_len_lst, dv_len_tup, dv_all, frzL_ints,  rdIs, rdIsNot, Dp.isNon, seqOf, seqI, frz, startD, kg, isiD_non, isiD_bl, isiD_int, isiD_str, isiD_lst, isiD_tup, isiD2_non, isiD2_bl, isiD2_int, isiD2_str, isiD2_lst, isiD2_tup, kb_non_int, kb_bl_int, kb_int_int, kb_str_int, kb_lst_int, kb_tup_int, kb_non_bool, kb_bl_bool, kb_int_bool, kb_str_str, kb_int_str, kb2_non, kb2_bl, kb2_int, kb2_str, kb2_lst, kb2_tup, isi_row_int, isi_row_list, isi_row_tuple, isi_row_str, isi2_row,
    List.map_cons, List.map_nil, List.length_cons, List.length_nil, List.getElem?_cons_zero, List.getElem?_cons_succ, List.set_cons_zero, List.set_cons_succ, List.replicate_succ, List.replicate_zero, List.cons_append, List.nil_append, List.append_nil, Nat.zero_add, Nat.reduceAdd, Nat.reduceSub, List.tail_cons, wipeE, wiRng1, wiRng2, wiSeq, wiEnum, wiZip,
    exists_eq_left, exists_eq_left', exists_eq_right, exists_eq_right', Option.some.injEq, D.int.injEq, D.bl.injEq, D.str.injEq, D.lst.injEq, D.tup.injEq, D.row.injEq, D.own.injEq, D.adr.injEq, D.ty.injEq, reduceCtorEq, List.cons.injEq, true_and, and_true, false_and, and_false, or_false, false_or, exists_false, if_true, if_false, Bool.not_true, Bool.not_false, Bool.false_eq_true, and_self, true_or, or_true, exists_and_left, exists_and_right, ite_true, ite_false, exists_const, exists_eq, exists_eq', decide_true, decide_false, Bool.not_true, Bool.not_false, em]
        refine dv_ixI (ns := a) rfl (atI_nat (show (0 + (j : Int)) = j by omega) (nt_lt hj)) ?_ (fun _ z => by cases z)
        refine ⟨by omega, dv_ixI (ns := b) rfl (atI_nat rfl (nt_lt (by omega))) ?_ (fun _ z => by cases z)⟩
        simp only [wSeq, wNext, wRet, wRetN, wNever, wDrop, wIfS, wAsg, gwName, dv_gtup, dv_gunl, dv_gcons, dv_gnil, wPar, wPar3, wAug, wSetO, wAugO, wApp, wVar, wC, wOp, wUn, asBl, wAnd, wOr, wNot, wAndV, wOrV, wNotV, wIf, wNil, wCons, wTup, wLst, wLstO, wCB, wCall, wCallK1, wMeth, wRel, wMk, wPen0, wPen1, wPen2, wPenS1, wPenS2, wSMeth, dv_make, wRowF, wSl, woNo, woSome, wChain, wYes, wIsi2,
    dv_add_int, dv_add_lst, dv_add_tup, dv_mul_int, dv_mul_lst, dv_mul_tup, rdMulO, dv_i0, dv_i2, rdNeg, rdSl, dv_int_int, dv_int_bl, dv_abs, dv_ne0_lst0, dv_eq0_lst0, rdList, rdListO, rdIsi, dv_eq_row, dv_ne_row, dv_eq_tup, dv_ne_tup, dv_ne_tup0, dv_eq_lst, dv_ne_lst, dv_eq_int, dv_ne_int, dv_eq0_tup, dv_eq0_int, dv_ne0_int, dv_ne0_tup, dv_mk_lst, dv_mk_tup, dv_sum_lst, dv_sum_tup, dv_tuple_lst, dv_tuple_tup, dv_len_lst, dv_len_tup, dv_all, frzL_ints,  rdIs, rdIsNot, Dp.isNon, seqOf, seqI, frz, startD, kg, isiD_non, isiD_bl, isiD_int, isiD_str, isiD_lst, isiD_tup, isiD2_non, isiD2_bl, isiD2_int, isiD2_str, isiD2_lst, isiD2_tup, kb_non_int, kb_bl_int, kb_int_int, kb_str_int, kb_lst_int, kb_tup_int, kb_non_bool, kb_bl_bool, kb_int_bool, kb_str_str, kb_int_str, kb2_non, kb2_bl, kb2_int, kb2_str, kb2_lst, kb2_tup, isi_row_int, isi_row_list, isi_row_tuple, isi_row_str, isi2_row,
    List.map_cons, List.map_nil, List.length_cons, List.length_nil, List.getElem?_cons_zero, List.getElem?_cons_succ, List.set_cons_zero, List.set_cons_succ, List.replicate_succ, List.replicate_zero, List.cons_append, List.nil_append, List.append_nil, Nat.zero_add, Nat.reduceAdd, Nat.reduceSub, List.tail_cons, wipeE, wiRng1, wiRng2, wiSeq, wiEnum, wiZip,
    exists_eq_left, exists_eq_left', exists_eq_right, exists_eq_right', Option.some.injEq, D.int.injEq, D.bl.injEq, D.str.injEq, D.lst.injEq, D.tup.injEq, D.row.injEq, D.own.injEq, D.adr.injEq, D.ty.injEq, reduceCtorEq, List.cons.injEq, true_and, and_true, false_and, and_false, or_false, false_or, exists_false, if_true, if_false, Bool.not_true, Bool.not_false, Bool.false_eq_true, and_self, true_or, or_true, exists_and_left, exists_and_right, ite_true, ite_false, exists_const, exists_eq, exists_eq', decide_true, decide_false, Bool.not_true, Bool.not_false]
        have small := h3 _ (List.mem_of_getElem? (nt_lt hj))
        first | exact ⟨cmulL (by omega) (by omega), hJ2⟩ | exact ⟨cmulL (by omega) (by omega), rfl, hJ2⟩
      · rw [show (List.range a.length).map (fun (j : Nat) => D.int (nt a j * nt b ((j + i) % a.length))) = (tab a.length fun j => nt a j * nt b ((j + i) % a.length)).map D.int by unfold tab; rw [List.map_map]; rfl]
        simp only [wSeq, wNext, wRet, wRetN, wNever, wDrop, wIfS, wAsg, gwName, dv_gtup, dv_gunl, dv_gcons, dv_gnil, wPar, wPar3, wAug, wSetO, wAugO, wApp, wVar, wC, wOp, wUn, asBl, wAnd, wOr, wNot, wAndV, wOrV, wNotV, wIf, wNil, wCons, wTup, wLst, wLstO, wCB, wCall, wCallK1, wMeth, wRel, wMk, wPen0, wPen1, wPen2, wPenS1, wPenS2, wSMeth, dv_make, wRowF, wSl, woNo, woSome, wChain, wYes, wIsi2,
    dv_add_int, dv_add_lst, dv_add_tup, dv_mul_int, dv_mul_lst, dv_mul_tup, rdMulO, dv_i0, dv_i2, rdNeg, rdSl, dv_int_int, dv_int_bl, dv_abs, dv_ne0_lst0, dv_eq0_lst0, rdList, rdListO, rdIsi, dv_eq_row, dv_ne_row, dv_eq_tup, dv_ne_tup, dv_ne_tup0, dv_eq_lst, dv_ne_lst, dv_eq_int, dv_ne_int, dv_eq0_tup, dv_eq0_int, dv_ne0_int, dv_ne0_tup, dv_mk_lst, dv_mk_tup, dv_sum_lst, dv_sum_tup, dv_tuple_lst, dv_tuple_tup, dv_len_lst, dv_len_tup, dv_all, frzL_ints,  rdIs, rdIsNot, Dp.isNon, seqOf, seqI, frz, startD, kg, isiD_non, isiD_bl, isiD_int, isiD_str, isiD_lst, isiD_tup, isiD2_non, isiD2_bl, isiD2_int, isiD2_str, isiD2_lst, isiD2_tup, kb_non_int, kb_bl_int, kb_int_int, kb_str_int, kb_lst_int, kb_tup_int, kb_non_bool, kb_bl_bool, kb_int_bool, kb_str_str, kb_int_str, kb2_non, kb2_bl, kb2_int, kb2_str, kb2_lst, kb2_tup, isi_row_int, isi_row_list, isi_row_tuple, isi_row_str, isi2_row,
    List.map_cons, List.map_nil, List.length_cons, List.length_nil, List.getElem?_cons_zero, List.getElem?_cons_succ, List.set_cons_zero, List.set_cons_succ, List.replicate_succ, List.replicate_zero, List.cons_append, List.nil_append, List.append_nil, Nat.zero_add, Nat.reduceAdd, Nat.reduceSub, List.tail_cons, wipeE, wiRng1, wiRng2, wiSeq, wiEnum, wiZip,
    exists_eq_left, exists_eq_left', exists_eq_right, exists_eq_right', Option.some.injEq, D.int.injEq, D.bl.injEq, D.str.injEq, D.lst.injEq, D.tup.injEq, D.row.injEq, D.own.injEq, D.adr.injEq, D.ty.injEq, reduceCtorEq, List.cons.injEq, true_and, and_true, false_and, and_false, or_false, false_or, exists_false, if_true, if_false, Bool.not_true, Bool.not_false, Bool.false_eq_true, and_self, true_or, or_true, exists_and_left, exists_and_right, ite_true, ite_false, exists_const, exists_eq, exists_eq', decide_true, decide_false, Bool.not_true, Bool.not_false, tab_sum]
        refine ⟨_, map_lookup, by rw [List.length_map, tab_len]; omega, hJ _ _ _ ⟨rfl, ?_, _, _, rfl⟩⟩
        rw [muSet_one, show tab (i + 1) (xs a.length (nt a) (nt b)) = tab i (xs a.length (nt a) (nt b)) ++ [xs a.length (nt a) (nt b) i] by unfold tab; rw [List.range_succ, List.map_append]; rfl, List.map_append]
        rfl
    · rintro ds μ n' ⟨rfl, rfl, u, z, rfl⟩
      rw [rngD_len]
      simp only [wSeq, wNext, wRet, wRetN, wNever, wDrop, wIfS, wAsg, gwName, dv_gtup, dv_gunl, dv_gcons, dv_gnil, wPar, wPar3, wAug, wSetO, wAugO, wApp, wVar, wC, wOp, wUn, asBl, wAnd, wOr, wNot, wAndV, wOrV, wNotV, wIf, wNil, wCons, wTup, wLst, wLstO, wCB, wCall, wCallK1, wMeth, wRel, wMk, wPen0, wPen1, wPen2, wPenS1, wPenS2, wSMeth, dv_make, wRowF, wSl, woNo, woSome, wChain, wYes, wIsi2,
    dv_add_int, dv_add_lst, dv_add_tup, dv_mul_int, dv_mul_lst, dv_mul_tup, rdMulO, dv_i0, dv_i2, rdNeg, rdSl, dv_int_int, dv_int_bl, dv_abs, dv_ne0_lst0, dv_eq0_lst0, rdList, rdListO, rdIsi, dv_eq_row, dv_ne_row, dv_eq_tup, dv_ne_tup, dv_ne_tup0, dv_eq_lst, dv_ne_lst, dv_eq_int, dv_ne_int, dv_eq0_tup, dv_eq0_int, dv_ne0_int, dv_ne0_tup, dv_mk_lst, dv_mk_tup, dv_sum_lst, dv_sum_tup, dv_tuple_lst, dv_tuple_tup, dv_len_lst, dv_len_tup, dv_all, frzL_ints,  rdIs, rdIsNot, Dp.isNon, seqOf, seqI, frz, startD, kg, isiD_non, isiD_bl, isiD_int, isiD_str, isiD_lst, isiD_tup, isiD2_non, isiD2_bl, isiD2_int, isiD2_str, isiD2_lst, isiD2_tup, kb_non_int, kb_bl_int, kb_int_int, kb_str_int, kb_lst_int, kb_tup_int, kb_non_bool, kb_bl_bool, kb_int_bool, kb_str_str, kb_int_str, kb2_non, kb2_bl, kb2_int, kb2_str, kb2_lst, kb2_tup, isi_row_int, isi_row_list, isi_row_tuple, isi_row_str, isi2_row,
    List.map_cons, List.map_nil, List.length_cons, List.length_nil, List.getElem?_cons_zero, List.getElem?_cons_succ, List.set_cons_zero, List.set_cons_succ, List.replicate_succ, List.replicate_zero, List.cons_append, List.nil_append, List.append_nil, Nat.zero_add, Nat.reduceAdd, Nat.reduceSub, List.tail_cons, wipeE, wiRng1, wiRng2, wiSeq, wiEnum, wiZip,
    exists_eq_left, exists_eq_left', exists_eq_right, exists_eq_right', Option.some.injEq, D.int.injEq, D.bl.injEq, D.str.injEq, D.lst.injEq, D.tup.injEq, D.row.injEq, D.own.injEq, D.adr.injEq, D.ty.injEq, reduceCtorEq, List.cons.injEq, true_and, and_true, false_and, and_false, or_false, false_or, exists_false, if_true, if_false, Bool.not_true, Bool.not_false, Bool.false_eq_true, and_self, true_or, or_true, exists_and_left, exists_and_right, ite_true, ite_false, exists_const, exists_eq, exists_eq', decide_true, decide_false, Bool.not_true, Bool.not_false]
      rw [dv_tuple (d := .own p) (xs := (tab a.length (xs a.length (nt a) (nt b))).map D.int) (show List.lookup p _ = _ from map_lookup)]
      simp only [wSeq, wNext, wRet, wRetN, wNever, wDrop, wIfS, wAsg, gwName, dv_gtup, dv_gunl, dv_gcons, dv_gnil, wPar, wPar3, wAug, wSetO, wAugO, wApp, wVar, wC, wOp, wUn, asBl, wAnd, wOr, wNot, wAndV, wOrV, wNotV, wIf, wNil, wCons, wTup, wLst, wLstO, wCB, wCall, wCallK1, wMeth, wRel, wMk, wPen0, wPen1, wPen2, wPenS1, wPenS2, wSMeth, dv_make, wRowF, wSl, woNo, woSome, wChain, wYes, wIsi2,
    dv_add_int, dv_add_lst, dv_add_tup, dv_mul_int, dv_mul_lst, dv_mul_tup, rdMulO, dv_i0, dv_i2, rdNeg, rdSl, dv_int_int, dv_int_bl, dv_abs, dv_ne0_lst0, dv_eq0_lst0, rdList, rdListO, rdIsi, dv_eq_row, dv_ne_row, dv_eq_tup, dv_ne_tup, dv_ne_tup0, dv_eq_lst, dv_ne_lst, dv_eq_int, dv_ne_int, dv_eq0_tup, dv_eq0_int, dv_ne0_int, dv_ne0_tup, dv_mk_lst, dv_mk_tup, dv_sum_lst, dv_sum_tup, dv_tuple_lst, dv_tuple_tup, dv_len_lst, dv_len_tup, dv_all, frzL_ints,  rdIs, rdIsNot, Dp.isNon, seqOf, seqI, frz, startD, kg, isiD_non, isiD_bl, isiD_int, isiD_str, isiD_lst, isiD_tup, isiD2_non, isiD2_bl, isiD2_int, isiD2_str, isiD2_lst, isiD2_tup, kb_non_int, kb_bl_int, kb_int_int, kb_str_int, kb_lst_int, kb_tup_int, kb_non_bool, kb_bl_bool, kb_int_bool, kb_str_str, kb_int_str, kb2_non, kb2_bl, kb2_int, kb2_str, kb2_lst, kb2_tup, isi_row_int, isi_row_list, isi_row_tuple, isi_row_str, isi2_row,
    List.map_cons, List.map_nil, List.length_cons, List.length_nil, List.getElem?_cons_zero, List.getElem?_cons_succ, List.set_cons_zero, List.set_cons_succ, List.replicate_succ, List.replicate_zero, List.cons_append, List.nil_append, List.append_nil, Nat.zero_add, Nat.reduceAdd, Nat.reduceSub, List.tail_cons, wipeE, wiRng1, wiRng2, wiSeq, wiEnum, wiZip,
    exists_eq_left, exists_eq_left', exists_eq_right, exists_eq_right', Option.some.injEq, D.int.injEq, D.bl.injEq, D.str.injEq, D.lst.injEq, D.tup.injEq, D.row.injEq, D.own.injEq, D.adr.injEq, D.ty.injEq, reduceCtorEq, List.cons.injEq, true_and, and_true, false_and, and_false, or_false, false_or, exists_false, if_true, if_false, Bool.not_true, Bool.not_false, Bool.false_eq_true, and_self, true_or, or_true, exists_and_left, exists_and_right, ite_true, ite_false, exists_const, exists_eq, exists_eq', decide_true, decide_false, Bool.not_true, Bool.not_false]
      exact q
  · exact h.elim
def F__law_divides : FD
  | [.int x, .int y], n, Q => ∃ i j : Nat, x = i ∧ y = j ∧ 1 ≤ i ∧ i ≤ 1000 ∧ Q (.int ((Nat.gcd i j : Nat) : Int)) n
  | _, _, _ => False
theorem l__law_divides : ∀ ds n Q, F__law_divides ds n Q → ds.length = 2 := by intro ds n Q h; unfold F__law_divides at h; split at h <;> first | rfl | exact h.elim
theorem ok_divides (Fn : FunD c.K "_law_divides" "_law_divides" (defArgs s__law_divides) (defBody s__law_divides) (defScope s__law_divides) [] [] f fd) (T : Tb c mg) : FnOk P w c.K mg base CX0 2 f fd ["_law_one", "_law_other"] (spD c 2 F__law_divides) := by
  refine fn_d Fn sc__law_divides (fun cdv A outer s H E hr => ⟨_, (pss_one (ps_ret (pe_callB (maxK (K := c.K)) (by rfl) T.b_max (by decide +kernel) (pa_cons (pe_lc (own := [("_law_number", 2)]) (g := gName 2) (by rfl) sc__law_divides.nd (pi_range2 (by rfl) T.b_range (pa_cons pe_int (pa_cons (pe_op (opAddK (K := c.K)) (pv 0) pe_int) pa_nil))) (blkOk_by (N := ["_law_one", "_law_other", "_law_number"]) (sc := defScope s__law_divides) (by decide +kernel)) (fun _ _ _ _ _ => (pg_name (i := 2) sc__law_divides.nd rfl (by first | exact .inl rfl | exact .inr rfl))) (fun _ _ _ _ _ => (pts_one (PW.pt (pw_and (pt_cmpR (eq0K (K := c.K) hr) (pe_op opMod (pe_callTy callInt (by rfl) T.b_int (by decide +kernel) (pa_cons (pv 0) pa_nil)) (pv 2)) pe_int (nomark _)) (pw_and1 (pt_cmpR (eq0K (K := c.K) hr) (pe_op opMod (pe_callTy callInt (by rfl) T.b_int (by decide +kernel) (pa_cons (pv 1) pa_nil)) (pv 2)) pe_int (nomark _))))))) (fun _ _ _ _ _ => (pv 2))) pa_nil)))), _, (sndS_ret (snd_cb sndC_max (sndA_cons (snd_lc (sndI_rng2 (sndA_cons snd_int (sndA_cons (snd_op sndR_add snd_var snd_int) sndA_nil))) sndG_name (okT_name (by decide)) (sndT_and (sndT_test (snd_op sndR_eq0 (snd_op sndR_mod (snd_cb sndC_int (sndA_cons snd_var sndA_nil)) snd_var) snd_int)) (sndT_test (snd_op sndR_eq0 (snd_op sndR_mod (snd_cb sndC_int (sndA_cons snd_var sndA_nil)) snd_var) snd_int))) snd_var) sndA_nil))), fun ds n Q h hl => ?_⟩)
  unfold F__law_divides at h
  split at h
  · rename_i x y
    obtain ⟨i, j, rfl, rfl, h1, h2, q⟩ := h
    simp only [wSeq, wNext, wRet, wRetN, wNever, wDrop, wIfS, wAsg, gwName, dv_gtup, dv_gunl, dv_gcons, dv_gnil, wPar, wPar3, wAug, wSetO, wAugO, wApp, wVar, wC, wOp, wUn, asBl, wAnd, wOr, wNot, wAndV, wOrV, wNotV, wIf, wNil, wCons, wTup, wLst, wLstO, wCB, wCall, wCallK1, wMeth, wRel, wMk, wPen0, wPen1, wPen2, wPenS1, wPenS2, wSMeth, dv_make, wRowF, wSl, woNo, woSome, wChain, wYes, wIsi2,
    dv_add_int, dv_add_lst, dv_add_tup, dv_mul_int, dv_mul_lst, dv_mul_tup, rdMulO, dv_i0, dv_i2, rdNeg, rdSl, dv_int_int, dv_int_bl, dv_abs, dv_ne0_lst0, dv_eq0_lst0, rdList, rdListO, rdIsi, dv_eq_row, dv_ne_row, dv_eq_tup, dv_ne_tup, dv_ne_tup0, dv_eq_lst, dv_ne_lst, dv_eq_int, dv_ne_int, dv_eq0_tup, dv_eq0_int, dv_ne0_int, dv_ne0_tup, dv_mk_lst, dv_mk_tup, dv_sum_lst, dv_sum_tup, dv_tuple_lst, dv_tuple_tup, dv_len_lst, dv_len_tup, dv_all, frzL_ints,  rdIs, rdIsNot, Dp.isNon, seqOf, seqI, frz, startD, kg, isiD_non, isiD_bl, isiD_int, isiD_str, isiD_lst, isiD_tup, isiD2_non, isiD2_bl, isiD2_int, isiD2_str, isiD2_lst, isiD2_tup, kb_non_int, kb_bl_int, kb_int_int, kb_str_int, kb_lst_int, kb_tup_int, kb_non_bool, kb_bl_bool, kb_int_bool, kb_str_str, kb_int_str, kb2_non, kb2_bl, kb2_int, kb2_str, kb2_lst, kb2_tup, isi_row_int, isi_row_list, isi_row_tuple, isi_row_str, isi2_row,
    List.map_cons, List.map_nil, List.length_cons, List.length_nil, List.getElem?_cons_zero, List.getElem?_cons_succ, List.set_cons_zero, List.set_cons_succ, List.replicate_succ, List.replicate_zero, List.cons_append, List.nil_append, List.append_nil, Nat.zero_add, Nat.reduceAdd, Nat.reduceSub, List.tail_cons, wipeE, wiRng1, wiRng2, wiSeq, wiEnum, wiZip,
    exists_eq_left, exists_eq_left', exists_eq_right, exists_eq_right', Option.some.injEq, D.int.injEq, D.bl.injEq, D.str.injEq, D.lst.injEq, D.tup.injEq, D.row.injEq, D.own.injEq, D.adr.injEq, D.ty.injEq, reduceCtorEq, List.cons.injEq, true_and, and_true, false_and, and_false, or_false, false_or, exists_false, if_true, if_false, Bool.not_true, Bool.not_false, Bool.false_eq_true, and_self, true_or, or_true, exists_and_left, exists_and_right, ite_true, ite_false, exists_const, exists_eq, exists_eq', decide_true, decide_false, Bool.not_true, Bool.not_false]
    refine lc_j (items := rngD 1 i) (μ1 := []) (n1 := n) (fun k acc n' => n' = n ∧ acc = (cdl i j k).map D.int) (fun k q => ?_) (by rw [rngD_len]; omega) ⟨rfl, rfl⟩ ?_ ?_
    · simp only [wSeq, wNext, wRet, wRetN, wNever, wDrop, wIfS, wAsg, gwName, dv_gtup, dv_gunl, dv_gcons, dv_gnil, wPar, wPar3, wAug, wSetO, wAugO, wApp, wVar, wC, wOp, wUn, asBl, wAnd, wOr, wNot, wAndV, wOrV, wNotV, wIf, wNil, wCons, wTup, wLst, wLstO, wCB, wCall, wCallK1, wMeth, wRel, wMk, wPen0, wPen1, wPen2, wPenS1, wPenS2, wSMeth, dv_make, wRowF, wSl, woNo, woSome, wChain, wYes, wIsi2,
    dv_add_int, dv_add_lst, dv_add_tup, dv_mul_int, dv_mul_lst, dv_mul_tup, rdMulO, dv_i0, dv_i2, rdNeg, rdSl, dv_int_int, dv_int_bl, dv_abs, dv_ne0_lst0, dv_eq0_lst0, rdList, rdListO, rdIsi, dv_eq_row, dv_ne_row, dv_eq_tup, dv_ne_tup, dv_ne_tup0, dv_eq_lst, dv_ne_lst, dv_eq_int, dv_ne_int, dv_eq0_tup, dv_eq0_int, dv_ne0_int, dv_ne0_tup, dv_mk_lst, dv_mk_tup, dv_sum_lst, dv_sum_tup, dv_tuple_lst, dv_tuple_tup, dv_len_lst, dv_len_tup, dv_all, frzL_ints,  rdIs, rdIsNot, Dp.isNon, seqOf, seqI, frz, startD, kg, isiD_non, isiD_bl, isiD_int, isiD_str, isiD_lst, isiD_tup, isiD2_non, isiD2_bl, isiD2_int, isiD2_str, isiD2_lst, isiD2_tup, kb_non_int, kb_bl_int, kb_int_int, kb_str_int, kb_lst_int, kb_tup_int, kb_non_bool, kb_bl_bool, kb_int_bool, kb_str_str, kb_int_str, kb2_non, kb2_bl, kb2_int, kb2_str, kb2_lst, kb2_tup, isi_row_int, isi_row_list, isi_row_tuple, isi_row_str, isi2_row,
    List.map_cons, List.map_nil, List.length_cons, List.length_nil, List.getElem?_cons_zero, List.getElem?_cons_succ, List.set_cons_zero, List.set_cons_succ, List.replicate_succ, List.replicate_zero, List.cons_append, List.nil_append, List.append_nil, Nat.zero_add, Nat.reduceAdd, Nat.reduceSub, List.tail_cons, wipeE, wiRng1, wiRng2, wiSeq, wiEnum, wiZip,
    exists_eq_left, exists_eq_left', exists_eq_right, exists_eq_right', Option.some.injEq, D.int.injEq, D.bl.injEq, D.str.injEq, D.lst.injEq, D.tup.injEq, D.row.injEq, D.own.injEq, D.adr.injEq, D.ty.injEq, reduceCtorEq, List.cons.injEq, true_and, and_true, false_and, and_false, or_false, false_or, exists_false, if_true, if_false, Bool.not_true, Bool.not_false, Bool.false_eq_true, and_self, true_or, or_true, exists_and_left, exists_and_right, ite_true, ite_false, exists_const, exists_eq, exists_eq', decide_true, decide_false, Bool.not_true, Bool.not_false]
      exact ⟨_, _, ⟨rfl, rfl⟩, by decide, by decide, by omega, by omega, by rw [show (((i : Int) + 1) - 1).toNat = i by omega]; exact q⟩
    · rintro k d p acc n' J hd hk hp ⟨rfl, rfl⟩ hJ
      rw [rngD_len] at hk
      rw [rngD_get hk] at hd
      cases hd
      simp only [wSeq, wNext, wRet, wRetN, wNever, wDrop, wIfS, wAsg, gwName, dv_gtup, dv_gunl, dv_gcons, dv_gnil, wPar, wPar3, wAug, wSetO, wAugO, wApp, wVar, wC, wOp, wUn, asBl, wAnd, wOr, wNot, wAndV, wOrV, wNotV, wIf, wNil, wCons, wTup, wLst, wLstO, wCB, wCall, wCallK1, wMeth, wRel, wMk, wPen0, wPen1, wPen2, wPenS1, wPenS2, wSMeth, dv_make, wRowF, wSl, woNo, woSome, wChain, wYes, wIsi2,
    dv_add_int, dv_add_lst, dv_add_tup, dv_mul_int, dv_mul_lst, dv_mul_tup, rdMulO, dv_i0, dv_i2, rdNeg, rdSl, dv_int_int, dv_int_bl, dv_abs, dv_ne0_lst0, dv_eq0_lst0, rdList, rdListO, rdIsi, dv_eq_row, dv_ne_row, dv_eq_tup, dv_ne_tup, dv_ne_tup0, dv_eq_lst, dv_ne_lst, dv_eq_int, dv_ne_int, dv_eq0_tup, dv_eq0_int, dv_ne0_int, dv_ne0_tup, dv_mk_lst, dv_mk_tup, dv_sum_lst, dv_sum_tup, dv_tuple_lst, dv_tuple_tup, dv_len_lst, dv_len_tup, dv_all, frzL_ints,  rdIs, rdIsNot, Dp.isNon, seqOf, seqI, frz, startD, kg, isiD_non, isiD_bl, isiD_int, isiD_str, isiD_lst, isiD_tup, isiD2_non, isiD2_bl, isiD2_int, isiD2_str, isiD2_lst, isiD2_tup, kb_non_int, kb_bl_int, kb_int_int, kb_str_int, kb_lst_int, kb_tup_int, kb_non_bool, kb_bl_bool, kb_int_bool, kb_str_str, kb_int_str, kb2_non, kb2_bl, kb2_int, kb2_str, kb2_lst, kb2_tup, isi_row_int, isi_row_list, isi_row_tuple, isi_row_str, isi2_row,
    List.map_cons, List.map_nil, List.length_cons, List.length_nil, List.getElem?_cons_zero, List.getElem?_cons_succ, List.set_cons_zero, List.set_cons_succ, List.replicate_succ, List.replicate_zero, List.cons_append, List.nil_append, List.append_nil, Nat.zero_add, Nat.reduceAdd, Nat.reduceSub, List.tail_cons, wipeE, wiRng1, wiRng2, wiSeq, wiEnum, wiZip,
    exists_eq_left, exists_eq_left', exists_eq_right, exists_eq_right', Option.some.injEq, D.int.injEq, D.bl.injEq, D.str.injEq, D.lst.injEq, D.tup.injEq, D.row.injEq, D.own.injEq, D.adr.injEq, D.ty.injEq, reduceCtorEq, List.cons.injEq, true_and, and_true, false_and, and_false, or_false, false_or, exists_false, if_true, if_false, Bool.not_true, Bool.not_false, Bool.false_eq_true, and_self, true_or, or_true, exists_and_left, exists_and_right, ite_true, ite_false, exists_const, exists_eq, exists_eq', decide_true, decide_false, Bool.not_true, Bool.not_false]
      have e1 : (1 : Int) + (k : Int) = ((k + 1 : Nat) : Int) := by omega
      have ei : ((i : Int) % ((k + 1 : Nat) : Int) = 0) ↔ i % (k + 1) = 0 := by rw [← Int.natCast_emod]; omega
      have ej : ((j : Int) % ((k + 1 : Nat) : Int) = 0) ↔ j % (k + 1) = 0 := by rw [← Int.natCast_emod]; omega
      rw [e1]
      refine ⟨by omega, ?_⟩
      by_cases c1 : i % (k + 1) = 0
      · rw [if_pos (decide_eq_true (ei.2 c1))]
        refine ⟨by omega, ?_⟩
        by_cases c2 : j % (k + 1) = 0
        · rw [if_pos (decide_eq_true (ej.2 c2))]
          exact hJ _ _ ⟨rfl, by rw [cdl, if_pos ⟨c1, c2⟩, List.map_append]; rfl⟩
        · rw [if_neg (by rw [decide_eq_true_iff]; exact fun z => c2 (ej.1 z))]
          exact hJ _ _ ⟨rfl, by rw [cdl, if_neg (fun z => c2 z.2)]⟩
      · rw [if_neg (by rw [decide_eq_true_iff]; exact fun z => c1 (ei.1 z))]
        exact hJ _ _ ⟨rfl, by rw [cdl, if_neg (fun z => c1 z.1)]⟩
    · rintro acc n' ⟨rfl, rfl⟩
      rw [rngD_len]
      refine ⟨_, _, rfl, (fun _ z => by cases z), rfl, cdl_ne h1, fun m hm top => ?_⟩
      show Q (frz [] (D.int m)) n'
      rw [frz_nil, cdl_gcd h1 hm fun z hz => by have := top z hz; rwa [if_pos rfl] at this]
      exact q
  · exact h.elim
def F__law_turned : FD
  | [.tup xs, .int t], n, Q => ∃ a : List Int, xs = a.map D.int ∧ Rk a ∧ Q (.tup ((trn a t).map D.int)) n
  | _, _, _ => False
theorem l__law_turned : ∀ ds n Q, F__law_turned ds n Q → ds.length = 2 := by intro ds n Q h; unfold F__law_turned at h; split at h <;> first | rfl | exact h.elim
theorem ok_lturned (Fn : FunD c.K "_law_turned" "_law_turned" (defArgs s__law_turned) (defBody s__law_turned) (defScope s__law_turned) [] [] f fd) (T : Tb c mg) : FnOk P w c.K mg base CX0 2 f fd ["_law_numbers", "_law_by"] (spD c 2 F__law_turned) := by
  refine fn_d Fn sc__law_turned (fun cdv A outer s H E hr => ⟨_, (pss_cons (ps_set (i := 2) sc__law_turned.nd rfl (by first | exact .inl rfl | exact .inr rfl) (pe_callB (lenK (K := c.K)) (by rfl) T.b_len (by decide +kernel) (pa_cons (pv 0) pa_nil)))
 (pss_one (ps_ret (pe_callTy (tupleK (K := c.K)) (by rfl) T.b_tuple (by decide +kernel) (pa_cons (pe_lc (own := [("_law_beat", 3)]) (g := gName 3) (by rfl) sc__law_turned.nd (pi_range1 (by rfl) T.b_range (pa_cons (pv 2) pa_nil)) (blkOk_by (N := ["_law_numbers", "_law_by", "_law_many", "_law_beat"]) (sc := defScope s__law_turned) (by decide +kernel)) (fun _ _ _ _ _ => (pg_name (i := 3) sc__law_turned.nd rfl (by first | exact .inl rfl | exact .inr rfl))) (fun _ _ _ _ _ => pts_nil) (fun _ _ _ _ _ => (pe_ix (ixK (K := c.K)) (pv 0) (pe_op opMod (pe_callTy callInt (by rfl) T.b_int (by decide +kernel) (pa_cons (pe_op opSub (pv 3) (pv 1)) pa_nil)) (pv 2)) (fun _ _ => rfl)))) pa_nil))))), _, (sndS_seq (sndS_asg (snd_cb sndC_len (sndA_cons snd_var sndA_nil)) sndG_name)
 (sndS_ret (snd_cb sndC_tuple (sndA_cons (snd_lc (sndI_rng1 (sndA_cons snd_var sndA_nil)) sndG_name (okT_name (by decide)) sndT_yes (snd_op sndR_ix snd_var (snd_op sndR_mod (snd_cb sndC_int (sndA_cons (snd_op sndR_sub snd_var snd_var) sndA_nil)) snd_var))) sndA_nil)))), fun ds n Q h hl => ?_⟩)
  unfold F__law_turned at h
  split at h
  · rename_i xs t
    obtain ⟨a, rfl, h1, q⟩ := h
    have h24 := h1.2
    have h02 := h1.1
    simp only [wSeq, wNext, wRet, wRetN, wNever, wDrop, wIfS, wAsg, gwName, dv_gtup, dv_gunl, dv_gcons, dv_gnil, wPar, wPar3, wAug, wSetO, wAugO, wApp, wVar, wC, wOp, wUn, asBl, wAnd, wOr, wNot, wAndV, wOrV, wNotV, wIf, wNil, wCons, wTup, wLst, wLstO, wCB, wCall, wCallK1, wMeth, wRel, wMk, wPen0, wPen1, wPen2, wPenS1, wPenS2, wSMeth, dv_make, wRowF, wSl, woNo, woSome, wChain, wYes, wIsi2,
    dv_add_int, dv_add_lst, dv_add_tup, dv_mul_int, dv_mul_lst, dv_mul_tup, rdMulO, dv_i0, dv_i2, rdNeg, rdSl, dv_int_int, dv_int_bl, dv_abs, dv_ne0_lst0, dv_eq0_lst0, rdList, rdListO, rdIsi, dv_eq_row, dv_ne_row, dv_eq_tup, dv_ne_tup, dv_ne_tup0, dv_eq_lst, dv_ne_lst, dv_eq_int, dv_ne_int, dv_eq0_tup, dv_eq0_int, dv_ne0_int, dv_ne0_tup, dv_mk_lst, dv_mk_tup, dv_sum_lst, dv_sum_tup, dv_tuple_lst, dv_tuple_tup, dv_len_lst, dv_len_tup, dv_all, frzL_ints,  rdIs, rdIsNot, Dp.isNon, seqOf, seqI, frz, startD, kg, isiD_non, isiD_bl, isiD_int, isiD_str, isiD_lst, isiD_tup, isiD2_non, isiD2_bl, isiD2_int, isiD2_str, isiD2_lst, isiD2_tup, kb_non_int, kb_bl_int, kb_int_int, kb_str_int, kb_lst_int, kb_tup_int, kb_non_bool, kb_bl_bool, kb_int_bool, kb_str_str, kb_int_str, kb2_non, kb2_bl, kb2_int, kb2_str, kb2_lst, kb2_tup, isi_row_int, isi_row_list, isi_row_tuple, isi_row_str, isi2_row,
    List.map_cons, List.map_nil, List.length_cons, List.length_nil, List.getElem?_cons_zero, List.getElem?_cons_succ, List.set_cons_zero, List.set_cons_succ, List.replicate_succ, List.replicate_zero, List.cons_append, List.nil_append, List.append_nil, Nat.zero_add, Nat.reduceAdd, Nat.reduceSub, List.tail_cons, wipeE, wiRng1, wiRng2, wiSeq, wiEnum, wiZip,
    exists_eq_left, exists_eq_left', exists_eq_right, exists_eq_right', Option.some.injEq, D.int.injEq, D.bl.injEq, D.str.injEq, D.lst.injEq, D.tup.injEq, D.row.injEq, D.own.injEq, D.adr.injEq, D.ty.injEq, reduceCtorEq, List.cons.injEq, true_and, and_true, false_and, and_false, or_false, false_or, exists_false, if_true, if_false, Bool.not_true, Bool.not_false, Bool.false_eq_true, and_self, true_or, or_true, exists_and_left, exists_and_right, ite_true, ite_false, exists_const, exists_eq, exists_eq', decide_true, decide_false, Bool.not_true, Bool.not_false]
    refine lc_map (μ1 := []) (n1 := n) (List.range a.length) (fun k => .int (0 + (k : Nat))) (fun k => .int (nt a (((k : Int) - t) % (a.length : Int)).toNat)) (fun k q => ?_) (by simp; omega) (fun k p acc J hk _ hJ => ?_) ?_
    · simp only [wSeq, wNext, wRet, wRetN, wNever, wDrop, wIfS, wAsg, gwName, dv_gtup, dv_gunl, dv_gcons, dv_gnil, wPar, wPar3, wAug, wSetO, wAugO, wApp, wVar, wC, wOp, wUn, asBl, wAnd, wOr, wNot, wAndV, wOrV, wNotV, wIf, wNil, wCons, wTup, wLst, wLstO, wCB, wCall, wCallK1, wMeth, wRel, wMk, wPen0, wPen1, wPen2, wPenS1, wPenS2, wSMeth, dv_make, wRowF, wSl, woNo, woSome, wChain, wYes, wIsi2,
    dv_add_int, dv_add_lst, dv_add_tup, dv_mul_int, dv_mul_lst, dv_mul_tup, rdMulO, dv_i0, dv_i2, rdNeg, rdSl, dv_int_int, dv_int_bl, dv_abs, dv_ne0_lst0, dv_eq0_lst0, rdList, rdListO, rdIsi, dv_eq_row, dv_ne_row, dv_eq_tup, dv_ne_tup, dv_ne_tup0, dv_eq_lst, dv_ne_lst, dv_eq_int, dv_ne_int, dv_eq0_tup, dv_eq0_int, dv_ne0_int, dv_ne0_tup, dv_mk_lst, dv_mk_tup, dv_sum_lst, dv_sum_tup, dv_tuple_lst, dv_tuple_tup, dv_len_lst, dv_len_tup, dv_all, frzL_ints,  rdIs, rdIsNot, Dp.isNon, seqOf, seqI, frz, startD, kg, isiD_non, isiD_bl, isiD_int, isiD_str, isiD_lst, isiD_tup, isiD2_non, isiD2_bl, isiD2_int, isiD2_str, isiD2_lst, isiD2_tup, kb_non_int, kb_bl_int, kb_int_int, kb_str_int, kb_lst_int, kb_tup_int, kb_non_bool, kb_bl_bool, kb_int_bool, kb_str_str, kb_int_str, kb2_non, kb2_bl, kb2_int, kb2_str, kb2_lst, kb2_tup, isi_row_int, isi_row_list, isi_row_tuple, isi_row_str, isi2_row,
    List.map_cons, List.map_nil, List.length_cons, List.length_nil, List.getElem?_cons_zero, List.getElem?_cons_succ, List.set_cons_zero, List.set_cons_succ, List.replicate_succ, List.replicate_zero, List.cons_append, List.nil_append, List.append_nil, Nat.zero_add, Nat.reduceAdd, Nat.reduceSub, List.tail_cons, wipeE, wiRng1, wiRng2, wiSeq, wiEnum, wiZip,
    exists_eq_left, exists_eq_left', exists_eq_right, exists_eq_right', Option.some.injEq, D.int.injEq, D.bl.injEq, D.str.injEq, D.lst.injEq, D.tup.injEq, D.row.injEq, D.own.injEq, D.adr.injEq, D.ty.injEq, reduceCtorEq, List.cons.injEq, true_and, and_true, false_and, and_false, or_false, false_or, exists_false, if_true, if_false, Bool.not_true, Bool.not_false, Bool.false_eq_true, and_self, true_or, or_true, exists_and_left, exists_and_right, ite_true, ite_false, exists_const, exists_eq, exists_eq', decide_true, decide_false, Bool.not_true, Bool.not_false, List.length_map]; exact ⟨by omega, by omega, q⟩
    · simp only [wSeq, wNext, wRet, wRetN, wNever, wDrop, wIfS, wAsg, gwName, dv_gtup, dv_gunl, dv_gcons, dv_gnil, wPar, wPar3, wAug, wSetO, wAugO, wApp, wVar, wC, wOp, wUn, asBl, wAnd, wOr, wNot, wAndV, wOrV, wNotV, wIf, wNil, wCons, wTup, wLst, wLstO, wCB, wCall, wCallK1, wMeth, wRel, wMk, wPen0, wPen1, wPen2, wPenS1, wPenS2, wSMeth, dv_make, wRowF, wSl, woNo, woSome, wChain, wYes, wIsi2,
    dv_add_int, dv_add_lst, dv_add_tup, dv_mul_int, dv_mul_lst, dv_mul_tup, rdMulO, dv_i0, dv_i2, rdNeg, rdSl, dv_int_int, dv_int_bl, dv_abs, dv_ne0_lst0, dv_eq0_lst0, rdList, rdListO, rdIsi, dv_eq_row, dv_ne_row, dv_eq_tup, dv_ne_tup, dv_ne_tup0, dv_eq_lst, dv_ne_lst, dv_eq_int, dv_ne_int, dv_eq0_tup, dv_eq0_int, dv_ne0_int, dv_ne0_tup, dv_mk_lst, dv_mk_tup, dv_sum_lst, dv_sum_tup, dv_tuple_lst, dv_tuple_tup, dv_len_lst, dv_len_tup, dv_all, frzL_ints,  rdIs, rdIsNot, Dp.isNon, seqOf, seqI, frz, startD, kg, isiD_non, isiD_bl, isiD_int, isiD_str, isiD_lst, isiD_tup, isiD2_non, isiD2_bl, isiD2_int, isiD2_str, isiD2_lst, isiD2_tup, kb_non_int, kb_bl_int, kb_int_int, kb_str_int, kb_lst_int, kb_tup_int, kb_non_bool, kb_bl_bool, kb_int_bool, kb_str_str, kb_int_str, kb2_non, kb2_bl, kb2_int, kb2_str, kb2_lst, kb2_tup, isi_row_int, isi_row_list, isi_row_tuple, isi_row_str, isi2_row,
    List.map_cons, List.map_nil, List.length_cons, List.length_nil, List.getElem?_cons_zero, List.getElem?_cons_succ, List.set_cons_zero, List.set_cons_succ, List.replicate_succ, List.replicate_zero, List.cons_append, List.nil_append, List.append_nil, Nat.zero_add, Nat.reduceAdd, Nat.reduceSub, List.tail_cons, wipeE, wiRng1, wiRng2, wiSeq, wiEnum, wiZip,
    exists_eq_left, exists_eq_left', exists_eq_right, exists_eq_right', Option.some.injEq, D.int.injEq, D.bl.injEq, D.str.injEq, D.lst.injEq, D.tup.injEq, D.row.injEq, D.own.injEq, D.adr.injEq, D.ty.injEq, reduceCtorEq, List.cons.injEq, true_and, and_true, false_and, and_false, or_false, false_or, exists_false, if_true, if_false, Bool.not_true, Bool.not_false, Bool.false_eq_true, and_self, true_or, or_true, exists_and_left, exists_and_right, ite_true, ite_false, exists_const, exists_eq, exists_eq', decide_true, decide_false, Bool.not_true, Bool.not_false]
      rw [List.length_map]
      have g1 := Int.emod_nonneg (0 + (k : Int) - t) (show (a.length : Int) ≠ 0 by omega)
      have g2 := Int.emod_lt_of_pos (0 + (k : Int) - t) (show (0 : Int) < (a.length : Int) by omega)
      refine ⟨by omega, dv_ixI (ns := a) rfl (atI_nat (j := ((0 + (k : Int) - t) % (a.length : Int)).toNat) (by omega) (nt_lt (by omega))) ?_ (fun _ z => by cases z)⟩
      rw [show (0 + (k : Int) - t) = (k : Int) - t by omega]
      first | exact hJ | exact ⟨rfl, hJ⟩
    · rw [show (List.range a.length).map (fun (k : Nat) => D.int (nt a (((k : Int) - t) % (a.length : Int)).toNat)) = (trn a t).map D.int by unfold trn tab; rw [List.map_map]; rfl]
      simp only [wSeq, wNext, wRet, wRetN, wNever, wDrop, wIfS, wAsg, gwName, dv_gtup, dv_gunl, dv_gcons, dv_gnil, wPar, wPar3, wAug, wSetO, wAugO, wApp, wVar, wC, wOp, wUn, asBl, wAnd, wOr, wNot, wAndV, wOrV, wNotV, wIf, wNil, wCons, wTup, wLst, wLstO, wCB, wCall, wCallK1, wMeth, wRel, wMk, wPen0, wPen1, wPen2, wPenS1, wPenS2, wSMeth, dv_make, wRowF, wSl, woNo, woSome, wChain, wYes, wIsi2,
    dv_add_int, dv_add_lst, dv_add_tup, dv_mul_int, dv_mul_lst, dv_mul_tup, rdMulO, dv_i0, dv_i2, rdNeg, rdSl, dv_int_int, dv_int_bl, dv_abs, dv_ne0_lst0, dv_eq0_lst0, rdList, rdListO, rdIsi, dv_eq_row, dv_ne_row, dv_eq_tup, dv_ne_tup, dv_ne_tup0, dv_eq_lst, dv_ne_lst, dv_eq_int, dv_ne_int, dv_eq0_tup, dv_eq0_int, dv_ne0_int, dv_ne0_tup, dv_mk_lst, dv_mk_tup, dv_sum_lst, dv_sum_tup, dv_tuple_lst, dv_tuple_tup, dv_len_lst, dv_len_tup, dv_all, frzL_ints,  rdIs, rdIsNot, Dp.isNon, seqOf, seqI, frz, startD, kg, isiD_non, isiD_bl, isiD_int, isiD_str, isiD_lst, isiD_tup, isiD2_non, isiD2_bl, isiD2_int, isiD2_str, isiD2_lst, isiD2_tup, kb_non_int, kb_bl_int, kb_int_int, kb_str_int, kb_lst_int, kb_tup_int, kb_non_bool, kb_bl_bool, kb_int_bool, kb_str_str, kb_int_str, kb2_non, kb2_bl, kb2_int, kb2_str, kb2_lst, kb2_tup, isi_row_int, isi_row_list, isi_row_tuple, isi_row_str, isi2_row,
    List.map_cons, List.map_nil, List.length_cons, List.length_nil, List.getElem?_cons_zero, List.getElem?_cons_succ, List.set_cons_zero, List.set_cons_succ, List.replicate_succ, List.replicate_zero, List.cons_append, List.nil_append, List.append_nil, Nat.zero_add, Nat.reduceAdd, Nat.reduceSub, List.tail_cons, wipeE, wiRng1, wiRng2, wiSeq, wiEnum, wiZip,
    exists_eq_left, exists_eq_left', exists_eq_right, exists_eq_right', Option.some.injEq, D.int.injEq, D.bl.injEq, D.str.injEq, D.lst.injEq, D.tup.injEq, D.row.injEq, D.own.injEq, D.adr.injEq, D.ty.injEq, reduceCtorEq, List.cons.injEq, true_and, and_true, false_and, and_false, or_false, false_or, exists_false, if_true, if_false, Bool.not_true, Bool.not_false, Bool.false_eq_true, and_self, true_or, or_true, exists_and_left, exists_and_right, ite_true, ite_false, exists_const, exists_eq, exists_eq', decide_true, decide_false, Bool.not_true, Bool.not_false, frzL_ints]
      exact q
  · exact h.elim
/-- what is told of an error of a part -/
def wordOf (K : PySem.W.Frag) (C : Addr) (s : PySem.Str) : Prop := (C = He.ga K "BadRow" ∧ s = "row") ∨ (C = He.ga K "BadNumber" ∧ s = "number") ∨ (C = He.ga K "Misfit" ∧ s = "misfit")
def H_heard (K : PySem.W.Frag) : FH := fun wl n Qd => wl n (fun _ n' => Qd .non n') fun C ks xs n' => ks = (["part"] : List PySem.Str) ∧ ∃ (y s : PySem.Str), xs = [.str y] ∧ wordOf K C s ∧ Qd (.tup [.str s, .str y]) n'
theorem gv_heard {g : Addr} {cdg : Value} {X : Cx} {q : PySem.Str} (T : Tb c mg) (Xf : Ex c mg) (hK : X.K = c.K) (hmg : X.mg = mg) :
    LamX.GivesTo X ["_law_ask", "_law_caught", "error", "_law_kinds"] "_law_heard" (defScope s__law_heard) g cdg (defBody s__law_heard) "_law_ask" q (TTh c (H_heard c.K)) := by
  subst hmg
  obtain ⟨Xprog, Xw, XK, Xmg, Xbase, XA, XN, Xs, XH, Xenv, Xouter, Xstack, Xex, Xcalm, Xfn, Xpn, Xxe⟩ := X
  simp only at hK
  subst hK
  refine gives_of rfl (fun f c' s H tl wl act => ⟨_, (pss_cons (ps_set (i := 1) sc__law_heard.nd rfl (by first | exact .inl rfl | exact .inr rfl) pe_non)
 (pss_cons (ps_try_keep (i := 2) rfl rfl sc__law_heard.nd rfl rfl ⟨rfl, by decide, .inl Xf.g_BeatError⟩ LamX.takes0 rfl (fun W pn xe tk _ => pss_act act tk) (fun a oe cls d pn _ _ => pss_one (ps_set (i := 1) sc__law_heard.nd rfl (by first | exact .inl rfl | exact .inr rfl) (pv 2))))
 (pss_cons (ps_set (i := 3) sc__law_heard.nd rfl (by first | exact .inl rfl | exact .inr rfl) (pe_lst (pa_cons (pe_callB (isi3K (K := c.K)) (by rfl) T.b_isinstance (by decide +kernel) (pa_cons (pv 1) (pa_cons (pe_glob (by rfl) Xf.g_BadRow relRef) pa_nil))) (pa_cons (pe_callB (isi3K (K := c.K)) (by rfl) T.b_isinstance (by decide +kernel) (pa_cons (pv 1) (pa_cons (pe_glob (by rfl) Xf.g_BadNumber relRef) pa_nil))) (pa_cons (pe_callB (isi3K (K := c.K)) (by rfl) T.b_isinstance (by decide +kernel) (pa_cons (pv 1) (pa_cons (pe_glob (by rfl) Xf.g_Misfit relRef) pa_nil))) pa_nil)))))
 (pss_cons (ps_if (pt_cmpR (inK (K := c.K)) pe_bl (pv 3) (by rfl)) (pss_one (ps_ret (pe_tup (pa_cons (pe_ix (ixK (K := c.K)) (pe_lst (pa_cons pe_str (pa_cons pe_str (pa_cons pe_str pa_nil)))) (kCast (K := c.K) (pe_bm PySem.F.plainAttrs_list PySem.F.slot_list_index PySem.F.type_list_index mt_index (pv 3) (pa_cons pe_bl pa_nil))) (fun _ _ => rfl)) (pa_cons (xqK (K := c.K) (pv 1)) pa_nil))))) pss_nil)
 (pss_cons (ps_if (pt_val (pe_callB (isi3K (K := c.K)) (by rfl) T.b_isinstance (by decide +kernel) (pa_cons (pv 1) (pa_cons (pe_glob (by rfl) Xf.g_NoDivisor relRef) pa_nil)))) (pss_one ps_never) pss_nil)
 (pss_one (ps_ret (pe_ifExp (pt_val (pe_callB (isi3K (K := c.K)) (by rfl) T.b_isinstance (by decide +kernel) (pa_cons (pv 1) (pa_cons (pe_glob (by rfl) Xf.g_TooMany relRef) pa_nil)))) (pe_tup (pa_cons (xqK (K := c.K) (pv 1)) (pa_cons (xqK (K := c.K) (pv 1)) pa_nil))) (pe_ifExp (pt_cmpR opIs (pv 1) pe_non (nomark _)) pe_non (pe_tup (pa_cons pe_str pa_nil))))))))))), _, (sndS_seq (sndS_asg snd_non sndG_name)
 (sndS_seq (sndS_act (m := 4) (by decide) (by decide))
 (sndS_seq (sndS_asg (snd_lst (sndA_cons (snd_cb (sndC_isi3 T.row) (sndA_cons snd_var (sndA_cons snd_adr sndA_nil))) (sndA_cons (snd_cb (sndC_isi3 T.row) (sndA_cons snd_var (sndA_cons snd_adr sndA_nil))) (sndA_cons (snd_cb (sndC_isi3 T.row) (sndA_cons snd_var (sndA_cons snd_adr sndA_nil))) sndA_nil)))) sndG_name)
 (sndS_seq (sndS_if (sndT_test (snd_op sndR_inB snd_bl snd_var)) (sndS_ret (snd_tup (sndA_cons (snd_op sndR_ix (snd_lst (sndA_cons snd_str (sndA_cons snd_str (sndA_cons snd_str sndA_nil)))) (snd_idx snd_var snd_bl)) (sndA_cons (snd_xq snd_var) sndA_nil)))) sndS_next)
 (sndS_seq (sndS_if (sndT_B (snd_cb (sndC_isi3 T.row) (sndA_cons snd_var (sndA_cons snd_adr sndA_nil)))) sndS_never sndS_next)
 (sndS_ret (snd_if (sndT_B (snd_cb (sndC_isi3 T.row) (sndA_cons snd_var (sndA_cons snd_adr sndA_nil)))) (snd_tup (sndA_cons (snd_xq snd_var) (sndA_cons (snd_xq snd_var) sndA_nil))) (snd_if (sndT_test (snd_op sndR_is snd_var snd_non)) snd_non (snd_tup (sndA_cons snd_str sndA_nil)))))))))), fun n Q h => ?_⟩)
  unfold H_heard at h
  simp only [wSeq, wNext, wRet, wRetN, wNever, wDrop, wIfS, wAsg, gwName, dv_gtup, dv_gunl, dv_gcons, dv_gnil, wPar, wPar3, wAug, wSetO, wAugO, wApp, wVar, wC, wOp, wUn, asBl, wAnd, wOr, wNot, wAndV, wOrV, wNotV, wIf, wNil, wCons, wTup, wLst, wLstO, wCB, wCall, wCallK1, wMeth, wRel, wMk, wPen0, wPen1, wPen2, wPenS1, wPenS2, wSMeth, dv_make, wRowF, wSl, woNo, woSome, wChain, wYes, wIsi2,
    dv_add_int, dv_add_lst, dv_add_tup, dv_mul_int, dv_mul_lst, dv_mul_tup, rdMulO, dv_i0, dv_i2, rdNeg, rdSl, dv_int_int, dv_int_bl, dv_abs, dv_ne0_lst0, dv_eq0_lst0, rdList, rdListO, rdIsi, dv_eq_row, dv_ne_row, dv_eq_tup, dv_ne_tup, dv_ne_tup0, dv_eq_lst, dv_ne_lst, dv_eq_int, dv_ne_int, dv_eq0_tup, dv_eq0_int, dv_ne0_int, dv_ne0_tup, dv_mk_lst, dv_mk_tup, dv_sum_lst, dv_sum_tup, dv_tuple_lst, dv_tuple_tup, dv_len_lst, dv_len_tup, dv_all, frzL_ints,  rdIs, rdIsNot, Dp.isNon, seqOf, seqI, frz, startD, kg, isiD_non, isiD_bl, isiD_int, isiD_str, isiD_lst, isiD_tup, isiD2_non, isiD2_bl, isiD2_int, isiD2_str, isiD2_lst, isiD2_tup, kb_non_int, kb_bl_int, kb_int_int, kb_str_int, kb_lst_int, kb_tup_int, kb_non_bool, kb_bl_bool, kb_int_bool, kb_str_str, kb_int_str, kb2_non, kb2_bl, kb2_int, kb2_str, kb2_lst, kb2_tup, isi_row_int, isi_row_list, isi_row_tuple, isi_row_str, isi2_row,
    List.map_cons, List.map_nil, List.length_cons, List.length_nil, List.getElem?_cons_zero, List.getElem?_cons_succ, List.set_cons_zero, List.set_cons_succ, List.replicate_succ, List.replicate_zero, List.cons_append, List.nil_append, List.append_nil, Nat.zero_add, Nat.reduceAdd, Nat.reduceSub, List.tail_cons, wipeE, wiRng1, wiRng2, wiSeq, wiEnum, wiZip,
    exists_eq_left, exists_eq_left', exists_eq_right, exists_eq_right', Option.some.injEq, D.int.injEq, D.bl.injEq, D.str.injEq, D.lst.injEq, D.tup.injEq, D.row.injEq, D.own.injEq, D.adr.injEq, D.ty.injEq, reduceCtorEq, List.cons.injEq, true_and, and_true, false_and, and_false, or_false, false_or, exists_false, if_true, if_false, Bool.not_true, Bool.not_false, Bool.false_eq_true, and_self, true_or, or_true, exists_and_left, exists_and_right, ite_true, ite_false, exists_const, exists_eq, exists_eq', decide_true, decide_false, Bool.not_true, Bool.not_false, wAct]
  refine ⟨by decide, _, _, h, fun x n' q => ?_, fun C ks xs n' hh => ?_⟩
  · simp only [wSeq, wNext, wRet, wRetN, wNever, wDrop, wIfS, wAsg, gwName, dv_gtup, dv_gunl, dv_gcons, dv_gnil, wPar, wPar3, wAug, wSetO, wAugO, wApp, wVar, wC, wOp, wUn, asBl, wAnd, wOr, wNot, wAndV, wOrV, wNotV, wIf, wNil, wCons, wTup, wLst, wLstO, wCB, wCall, wCallK1, wMeth, wRel, wMk, wPen0, wPen1, wPen2, wPenS1, wPenS2, wSMeth, dv_make, wRowF, wSl, woNo, woSome, wChain, wYes, wIsi2,
    dv_add_int, dv_add_lst, dv_add_tup, dv_mul_int, dv_mul_lst, dv_mul_tup, rdMulO, dv_i0, dv_i2, rdNeg, rdSl, dv_int_int, dv_int_bl, dv_abs, dv_ne0_lst0, dv_eq0_lst0, rdList, rdListO, rdIsi, dv_eq_row, dv_ne_row, dv_eq_tup, dv_ne_tup, dv_ne_tup0, dv_eq_lst, dv_ne_lst, dv_eq_int, dv_ne_int, dv_eq0_tup, dv_eq0_int, dv_ne0_int, dv_ne0_tup, dv_mk_lst, dv_mk_tup, dv_sum_lst, dv_sum_tup, dv_tuple_lst, dv_tuple_tup, dv_len_lst, dv_len_tup, dv_all, frzL_ints,  rdIs, rdIsNot, Dp.isNon, seqOf, seqI, frz, startD, kg, isiD_non, isiD_bl, isiD_int, isiD_str, isiD_lst, isiD_tup, isiD2_non, isiD2_bl, isiD2_int, isiD2_str, isiD2_lst, isiD2_tup, kb_non_int, kb_bl_int, kb_int_int, kb_str_int, kb_lst_int, kb_tup_int, kb_non_bool, kb_bl_bool, kb_int_bool, kb_str_str, kb_int_str, kb2_non, kb2_bl, kb2_int, kb2_str, kb2_lst, kb2_tup, isi_row_int, isi_row_list, isi_row_tuple, isi_row_str, isi2_row,
    List.map_cons, List.map_nil, List.length_cons, List.length_nil, List.getElem?_cons_zero, List.getElem?_cons_succ, List.set_cons_zero, List.set_cons_succ, List.replicate_succ, List.replicate_zero, List.cons_append, List.nil_append, List.append_nil, Nat.zero_add, Nat.reduceAdd, Nat.reduceSub, List.tail_cons, wipeE, wiRng1, wiRng2, wiSeq, wiEnum, wiZip,
    exists_eq_left, exists_eq_left', exists_eq_right, exists_eq_right', Option.some.injEq, D.int.injEq, D.bl.injEq, D.str.injEq, D.lst.injEq, D.tup.injEq, D.row.injEq, D.own.injEq, D.adr.injEq, D.ty.injEq, reduceCtorEq, List.cons.injEq, true_and, and_true, false_and, and_false, or_false, false_or, exists_false, if_true, if_false, Bool.not_true, Bool.not_false, Bool.false_eq_true, and_self, true_or, or_true, exists_and_left, exists_and_right, ite_true, ite_false, exists_const, exists_eq, exists_eq', decide_true, decide_false, Bool.not_true, Bool.not_false, rdIsi3, erOk, isiA, tyName, Option.bind_some, Xf.kn_BadRow, Xf.kn_BadNumber, Xf.kn_Misfit, Xf.kn_NoDivisor, Xf.kn_TooMany]
    exact ⟨by decide, true, [false, false, false], rfl, rfl, false, rfl, by rw [if_neg (by decide)]; exact q⟩
  · obtain ⟨rfl, y, s, rfl, hw, q⟩ := hh
    rcases hw with ⟨rfl, rfl⟩ | ⟨rfl, rfl⟩ | ⟨rfl, rfl⟩
    · simp only [wSeq, wNext, wRet, wRetN, wNever, wDrop, wIfS, wAsg, gwName, dv_gtup, dv_gunl, dv_gcons, dv_gnil, wPar, wPar3, wAug, wSetO, wAugO, wApp, wVar, wC, wOp, wUn, asBl, wAnd, wOr, wNot, wAndV, wOrV, wNotV, wIf, wNil, wCons, wTup, wLst, wLstO, wCB, wCall, wCallK1, wMeth, wRel, wMk, wPen0, wPen1, wPen2, wPenS1, wPenS2, wSMeth, dv_make, wRowF, wSl, woNo, woSome, wChain, wYes, wIsi2,
    dv_add_int, dv_add_lst, dv_add_tup, dv_mul_int, dv_mul_lst, dv_mul_tup, rdMulO, dv_i0, dv_i2, rdNeg, rdSl, dv_int_int, dv_int_bl, dv_abs, dv_ne0_lst0, dv_eq0_lst0, rdList, rdListO, rdIsi, dv_eq_row, dv_ne_row, dv_eq_tup, dv_ne_tup, dv_ne_tup0, dv_eq_lst, dv_ne_lst, dv_eq_int, dv_ne_int, dv_eq0_tup, dv_eq0_int, dv_ne0_int, dv_ne0_tup, dv_mk_lst, dv_mk_tup, dv_sum_lst, dv_sum_tup, dv_tuple_lst, dv_tuple_tup, dv_len_lst, dv_len_tup, dv_all, frzL_ints,  rdIs, rdIsNot, Dp.isNon, seqOf, seqI, frz, startD, kg, isiD_non, isiD_bl, isiD_int, isiD_str, isiD_lst, isiD_tup, isiD2_non, isiD2_bl, isiD2_int, isiD2_str, isiD2_lst, isiD2_tup, kb_non_int, kb_bl_int, kb_int_int, kb_str_int, kb_lst_int, kb_tup_int, kb_non_bool, kb_bl_bool, kb_int_bool, kb_str_str, kb_int_str, kb2_non, kb2_bl, kb2_int, kb2_str, kb2_lst, kb2_tup, isi_row_int, isi_row_list, isi_row_tuple, isi_row_str, isi2_row,
    List.map_cons, List.map_nil, List.length_cons, List.length_nil, List.getElem?_cons_zero, List.getElem?_cons_succ, List.set_cons_zero, List.set_cons_succ, List.replicate_succ, List.replicate_zero, List.cons_append, List.nil_append, List.append_nil, Nat.zero_add, Nat.reduceAdd, Nat.reduceSub, List.tail_cons, wipeE, wiRng1, wiRng2, wiSeq, wiEnum, wiZip,
    exists_eq_left, exists_eq_left', exists_eq_right, exists_eq_right', Option.some.injEq, D.int.injEq, D.bl.injEq, D.str.injEq, D.lst.injEq, D.tup.injEq, D.row.injEq, D.own.injEq, D.adr.injEq, D.ty.injEq, reduceCtorEq, List.cons.injEq, true_and, and_true, false_and, and_false, or_false, false_or, exists_false, if_true, if_false, Bool.not_true, Bool.not_false, Bool.false_eq_true, and_self, true_or, or_true, exists_and_left, exists_and_right, ite_true, ite_false, exists_const, exists_eq, exists_eq', decide_true, decide_false, Bool.not_true, Bool.not_false, rdIsi3, erOk, isiA, Xf.k_BadRow_BadRow, Xf.k_BadRow_BadNumber, Xf.k_BadRow_Misfit, List.replicate_succ, List.replicate_zero, List.set_cons_succ, List.set_cons_zero]
      refine ⟨Xf.be_BadRow, Xf.er_BadRow, Xf.er_BadRow, Xf.er_BadRow, by decide, true, [true, false, false], rfl, rfl, true, rfl, ?_⟩
      rw [if_pos rfl]
      refine ⟨by decide, ?_⟩
      simp only [wSeq, wNext, wRet, wRetN, wNever, wDrop, wIfS, wAsg, gwName, dv_gtup, dv_gunl, dv_gcons, dv_gnil, wPar, wPar3, wAug, wSetO, wAugO, wApp, wVar, wC, wOp, wUn, asBl, wAnd, wOr, wNot, wAndV, wOrV, wNotV, wIf, wNil, wCons, wTup, wLst, wLstO, wCB, wCall, wCallK1, wMeth, wRel, wMk, wPen0, wPen1, wPen2, wPenS1, wPenS2, wSMeth, dv_make, wRowF, wSl, woNo, woSome, wChain, wYes, wIsi2,
    dv_add_int, dv_add_lst, dv_add_tup, dv_mul_int, dv_mul_lst, dv_mul_tup, rdMulO, dv_i0, dv_i2, rdNeg, rdSl, dv_int_int, dv_int_bl, dv_abs, dv_ne0_lst0, dv_eq0_lst0, rdList, rdListO, rdIsi, dv_eq_row, dv_ne_row, dv_eq_tup, dv_ne_tup, dv_ne_tup0, dv_eq_lst, dv_ne_lst, dv_eq_int, dv_ne_int, dv_eq0_tup, dv_eq0_int, dv_ne0_int, dv_ne0_tup, dv_mk_lst, dv_mk_tup, dv_sum_lst, dv_sum_tup, dv_tuple_lst, dv_tuple_tup, dv_len_lst, dv_len_tup, dv_all, frzL_ints,  rdIs, rdIsNot, Dp.isNon, seqOf, seqI, frz, startD, kg, isiD_non, isiD_bl, isiD_int, isiD_str, isiD_lst, isiD_tup, isiD2_non, isiD2_bl, isiD2_int, isiD2_str, isiD2_lst, isiD2_tup, kb_non_int, kb_bl_int, kb_int_int, kb_str_int, kb_lst_int, kb_tup_int, kb_non_bool, kb_bl_bool, kb_int_bool, kb_str_str, kb_int_str, kb2_non, kb2_bl, kb2_int, kb2_str, kb2_lst, kb2_tup, isi_row_int, isi_row_list, isi_row_tuple, isi_row_str, isi2_row,
    List.map_cons, List.map_nil, List.length_cons, List.length_nil, List.getElem?_cons_zero, List.getElem?_cons_succ, List.set_cons_zero, List.set_cons_succ, List.replicate_succ, List.replicate_zero, List.cons_append, List.nil_append, List.append_nil, Nat.zero_add, Nat.reduceAdd, Nat.reduceSub, List.tail_cons, wipeE, wiRng1, wiRng2, wiSeq, wiEnum, wiZip,
    exists_eq_left, exists_eq_left', exists_eq_right, exists_eq_right', Option.some.injEq, D.int.injEq, D.bl.injEq, D.str.injEq, D.lst.injEq, D.tup.injEq, D.row.injEq, D.own.injEq, D.adr.injEq, D.ty.injEq, reduceCtorEq, List.cons.injEq, true_and, and_true, false_and, and_false, or_false, false_or, exists_false, if_true, if_false, Bool.not_true, Bool.not_false, Bool.false_eq_true, and_self, true_or, or_true, exists_and_left, exists_and_right, ite_true, ite_false, exists_const, exists_eq, exists_eq', decide_true, decide_false, Bool.not_true, Bool.not_false, wIdx, wXq]
      refine ⟨[true, false, false], rfl, 0, rfl, fun m hm => ?_, ?_⟩
      · first | (cases hm; done) | (rcases m with _ | _ | m <;> first | rfl | omega)
      · refine dv_ix rfl (atI_nat rfl rfl) ?_ (fun _ z => by cases z)
        exact ⟨_, _, _, rfl, Xf.er_BadRow, Xf.no_BadRow, .str y, by simp [List.lookup], by decide, by simpa only [frzL, frz] using q⟩
    · simp only [wSeq, wNext, wRet, wRetN, wNever, wDrop, wIfS, wAsg, gwName, dv_gtup, dv_gunl, dv_gcons, dv_gnil, wPar, wPar3, wAug, wSetO, wAugO, wApp, wVar, wC, wOp, wUn, asBl, wAnd, wOr, wNot, wAndV, wOrV, wNotV, wIf, wNil, wCons, wTup, wLst, wLstO, wCB, wCall, wCallK1, wMeth, wRel, wMk, wPen0, wPen1, wPen2, wPenS1, wPenS2, wSMeth, dv_make, wRowF, wSl, woNo, woSome, wChain, wYes, wIsi2,
    dv_add_int, dv_add_lst, dv_add_tup, dv_mul_int, dv_mul_lst, dv_mul_tup, rdMulO, dv_i0, dv_i2, rdNeg, rdSl, dv_int_int, dv_int_bl, dv_abs, dv_ne0_lst0, dv_eq0_lst0, rdList, rdListO, rdIsi, dv_eq_row, dv_ne_row, dv_eq_tup, dv_ne_tup, dv_ne_tup0, dv_eq_lst, dv_ne_lst, dv_eq_int, dv_ne_int, dv_eq0_tup, dv_eq0_int, dv_ne0_int, dv_ne0_tup, dv_mk_lst, dv_mk_tup, dv_sum_lst, dv_sum_tup, dv_tuple_lst, dv_tuple_tup, dv_len_lst, dv_len_tup, dv_all, frzL_ints,  rdIs, rdIsNot, Dp.isNon, seqOf, seqI, frz, startD, kg, isiD_non, isiD_bl, isiD_int, isiD_str, isiD_lst, isiD_tup, isiD2_non, isiD2_bl, isiD2_int, isiD2_str, isiD2_lst, isiD2_tup, kb_non_int, kb_bl_int, kb_int_int, kb_str_int, kb_lst_int, kb_tup_int, kb_non_bool, kb_bl_bool, kb_int_bool, kb_str_str, kb_int_str, kb2_non, kb2_bl, kb2_int, kb2_str, kb2_lst, kb2_tup, isi_row_int, isi_row_list, isi_row_tuple, isi_row_str, isi2_row,
    List.map_cons, List.map_nil, List.length_cons, List.length_nil, List.getElem?_cons_zero, List.getElem?_cons_succ, List.set_cons_zero, List.set_cons_succ, List.replicate_succ, List.replicate_zero, List.cons_append, List.nil_append, List.append_nil, Nat.zero_add, Nat.reduceAdd, Nat.reduceSub, List.tail_cons, wipeE, wiRng1, wiRng2, wiSeq, wiEnum, wiZip,
    exists_eq_left, exists_eq_left', exists_eq_right, exists_eq_right', Option.some.injEq, D.int.injEq, D.bl.injEq, D.str.injEq, D.lst.injEq, D.tup.injEq, D.row.injEq, D.own.injEq, D.adr.injEq, D.ty.injEq, reduceCtorEq, List.cons.injEq, true_and, and_true, false_and, and_false, or_false, false_or, exists_false, if_true, if_false, Bool.not_true, Bool.not_false, Bool.false_eq_true, and_self, true_or, or_true, exists_and_left, exists_and_right, ite_true, ite_false, exists_const, exists_eq, exists_eq', decide_true, decide_false, Bool.not_true, Bool.not_false, rdIsi3, erOk, isiA, Xf.k_BadNumber_BadRow, Xf.k_BadNumber_BadNumber, Xf.k_BadNumber_Misfit, List.replicate_succ, List.replicate_zero, List.set_cons_succ, List.set_cons_zero]
      refine ⟨Xf.be_BadNumber, Xf.er_BadNumber, Xf.er_BadNumber, Xf.er_BadNumber, by decide, true, [false, true, false], rfl, rfl, true, rfl, ?_⟩
      rw [if_pos rfl]
      refine ⟨by decide, ?_⟩
      simp only [wSeq, wNext, wRet, wRetN, wNever, wDrop, wIfS, wAsg, gwName, dv_gtup, dv_gunl, dv_gcons, dv_gnil, wPar, wPar3, wAug, wSetO, wAugO, wApp, wVar, wC, wOp, wUn, asBl, wAnd, wOr, wNot, wAndV, wOrV, wNotV, wIf, wNil, wCons, wTup, wLst, wLstO, wCB, wCall, wCallK1, wMeth, wRel, wMk, wPen0, wPen1, wPen2, wPenS1, wPenS2, wSMeth, dv_make, wRowF, wSl, woNo, woSome, wChain, wYes, wIsi2,
    dv_add_int, dv_add_lst, dv_add_tup, dv_mul_int, dv_mul_lst, dv_mul_tup, rdMulO, dv_i0, dv_i2, rdNeg, rdSl, dv_int_int, dv_int_bl, dv_abs, dv_ne0_lst0, dv_eq0_lst0, rdList, rdListO, rdIsi, dv_eq_row, dv_ne_row, dv_eq_tup, dv_ne_tup, dv_ne_tup0, dv_eq_lst, dv_ne_lst, dv_eq_int, dv_ne_int, dv_eq0_tup, dv_eq0_int, dv_ne0_int, dv_ne0_tup, dv_mk_lst, dv_mk_tup, dv_sum_lst, dv_sum_tup, dv_tuple_lst, dv_tuple_tup, dv_len_lst, dv_len_tup, dv_all, frzL_ints,  rdIs, rdIsNot, Dp.isNon, seqOf, seqI, frz, startD, kg, isiD_non, isiD_bl, isiD_int, isiD_str, isiD_lst, isiD_tup, isiD2_non, isiD2_bl, isiD2_int, isiD2_str, isiD2_lst, isiD2_tup, kb_non_int, kb_bl_int, kb_int_int, kb_str_int, kb_lst_int, kb_tup_int, kb_non_bool, kb_bl_bool, kb_int_bool, kb_str_str, kb_int_str, kb2_non, kb2_bl, kb2_int, kb2_str, kb2_lst, kb2_tup, isi_row_int, isi_row_list, isi_row_tuple, isi_row_str, isi2_row,
    List.map_cons, List.map_nil, List.length_cons, List.length_nil, List.getElem?_cons_zero, List.getElem?_cons_succ, List.set_cons_zero, List.set_cons_succ, List.replicate_succ, List.replicate_zero, List.cons_append, List.nil_append, List.append_nil, Nat.zero_add, Nat.reduceAdd, Nat.reduceSub, List.tail_cons, wipeE, wiRng1, wiRng2, wiSeq, wiEnum, wiZip,
    exists_eq_left, exists_eq_left', exists_eq_right, exists_eq_right', Option.some.injEq, D.int.injEq, D.bl.injEq, D.str.injEq, D.lst.injEq, D.tup.injEq, D.row.injEq, D.own.injEq, D.adr.injEq, D.ty.injEq, reduceCtorEq, List.cons.injEq, true_and, and_true, false_and, and_false, or_false, false_or, exists_false, if_true, if_false, Bool.not_true, Bool.not_false, Bool.false_eq_true, and_self, true_or, or_true, exists_and_left, exists_and_right, ite_true, ite_false, exists_const, exists_eq, exists_eq', decide_true, decide_false, Bool.not_true, Bool.not_false, wIdx, wXq]
      refine ⟨[false, true, false], rfl, 1, rfl, fun m hm => ?_, ?_⟩
      · first | (cases hm; done) | (rcases m with _ | _ | m <;> first | rfl | omega)
      · refine dv_ix rfl (atI_nat rfl rfl) ?_ (fun _ z => by cases z)
        exact ⟨_, _, _, rfl, Xf.er_BadNumber, Xf.no_BadNumber, .str y, by simp [List.lookup], by decide, by simpa only [frzL, frz] using q⟩
    · simp only [wSeq, wNext, wRet, wRetN, wNever, wDrop, wIfS, wAsg, gwName, dv_gtup, dv_gunl, dv_gcons, dv_gnil, wPar, wPar3, wAug, wSetO, wAugO, wApp, wVar, wC, wOp, wUn, asBl, wAnd, wOr, wNot, wAndV, wOrV, wNotV, wIf, wNil, wCons, wTup, wLst, wLstO, wCB, wCall, wCallK1, wMeth, wRel, wMk, wPen0, wPen1, wPen2, wPenS1, wPenS2, wSMeth, dv_make, wRowF, wSl, woNo, woSome, wChain, wYes, wIsi2,
    dv_add_int, dv_add_lst, dv_add_tup, dv_mul_int, dv_mul_lst, dv_mul_tup, rdMulO, dv_i0, dv_i2, rdNeg, rdSl, dv_int_int, dv_int_bl, dv_abs, dv_ne0_lst0, dv_eq0_lst0, rdList, rdListO, rdIsi, dv_eq_row, dv_ne_row, dv_eq_tup, dv_ne_tup, dv_ne_tup0, dv_eq_lst, dv_ne_lst, dv_eq_int, dv_ne_int, dv_eq0_tup, dv_eq0_int, dv_ne0_int, dv_ne0_tup, dv_mk_lst, dv_mk_tup, dv_sum_lst, dv_sum_tup, dv_tuple_lst, dv_tuple_tup, dv_len_lst, dv_len_tup, dv_all, frzL_ints,  rdIs, rdIsNot, Dp.isNon, seqOf, seqI, frz, startD, kg, isiD_non, isiD_bl, isiD_int, isiD_str, isiD_lst, isiD_tup, isiD2_non, isiD2_bl, isiD2_int, isiD2_str, isiD2_lst, isiD2_tup, kb_non_int, kb_bl_int, kb_int_int, kb_str_int, kb_lst_int, kb_tup_int, kb_non_bool, kb_bl_bool, kb_int_bool, kb_str_str, kb_int_str, kb2_non, kb2_bl, kb2_int, kb2_str, kb2_lst, kb2_tup, isi_row_int, isi_row_list, isi_row_tuple, isi_row_str, isi2_row,
    List.map_cons, List.map_nil, List.length_cons, List.length_nil, List.getElem?_cons_zero, List.getElem?_cons_succ, List.set_cons_zero, List.set_cons_succ, List.replicate_succ, List.replicate_zero, List.cons_append, List.nil_append, List.append_nil, Nat.zero_add, Nat.reduceAdd, Nat.reduceSub, List.tail_cons, wipeE, wiRng1, wiRng2, wiSeq, wiEnum, wiZip,
    exists_eq_left, exists_eq_left', exists_eq_right, exists_eq_right', Option.some.injEq, D.int.injEq, D.bl.injEq, D.str.injEq, D.lst.injEq, D.tup.injEq, D.row.injEq, D.own.injEq, D.adr.injEq, D.ty.injEq, reduceCtorEq, List.cons.injEq, true_and, and_true, false_and, and_false, or_false, false_or, exists_false, if_true, if_false, Bool.not_true, Bool.not_false, Bool.false_eq_true, and_self, true_or, or_true, exists_and_left, exists_and_right, ite_true, ite_false, exists_const, exists_eq, exists_eq', decide_true, decide_false, Bool.not_true, Bool.not_false, rdIsi3, erOk, isiA, Xf.k_Misfit_BadRow, Xf.k_Misfit_BadNumber, Xf.k_Misfit_Misfit, List.replicate_succ, List.replicate_zero, List.set_cons_succ, List.set_cons_zero]
      refine ⟨Xf.be_Misfit, Xf.er_Misfit, Xf.er_Misfit, Xf.er_Misfit, by decide, true, [false, false, true], rfl, rfl, true, rfl, ?_⟩
      rw [if_pos rfl]
      refine ⟨by decide, ?_⟩
      simp only [wSeq, wNext, wRet, wRetN, wNever, wDrop, wIfS, wAsg, gwName, dv_gtup, dv_gunl, dv_gcons, dv_gnil, wPar, wPar3, wAug, wSetO, wAugO, wApp, wVar, wC, wOp, wUn, asBl, wAnd, wOr, wNot, wAndV, wOrV, wNotV, wIf, wNil, wCons, wTup, wLst, wLstO, wCB, wCall, wCallK1, wMeth, wRel, wMk, wPen0, wPen1, wPen2, wPenS1, wPenS2, wSMeth, dv_make, wRowF, wSl, woNo, woSome, wChain, wYes, wIsi2,
    dv_add_int, dv_add_lst, dv_add_tup, dv_mul_int, dv_mul_lst, dv_mul_tup, rdMulO, dv_i0, dv_i2, rdNeg, rdSl, dv_int_int, dv_int_bl, dv_abs, dv_ne0_lst0, dv_eq0_lst0, rdList, rdListO, rdIsi, dv_eq_row, dv_ne_row, dv_eq_tup, dv_ne_tup, dv_ne_tup0, dv_eq_lst, dv_ne_lst, dv_eq_int, dv_ne_int, dv_eq0_tup, dv_eq0_int, dv_ne0_int, dv_ne0_tup, dv_mk_lst, dv_mk_tup, dv_sum_lst, dv_sum_tup, dv_tuple_lst, dv_tuple_tup, dv_len_lst, dv_len_tup, dv_all, frzL_ints,  rdIs, rdIsNot, Dp.isNon, seqOf, seqI, frz, startD, kg, isiD_non, isiD_bl, isiD_int, isiD_str, isiD_lst, isiD_tup, isiD2_non, isiD2_bl, isiD2_int, isiD2_str, isiD2_lst, isiD2_tup, kb_non_int, kb_bl_int, kb_int_int, kb_str_int, kb_lst_int, kb_tup_int, kb_non_bool, kb_bl_bool, kb_int_bool, kb_str_str, kb_int_str, kb2_non, kb2_bl, kb2_int, kb2_str, kb2_lst, kb2_tup, isi_row_int, isi_row_list, isi_row_tuple, isi_row_str, isi2_row,
    List.map_cons, List.map_nil, List.length_cons, List.length_nil, List.getElem?_cons_zero, List.getElem?_cons_succ, List.set_cons_zero, List.set_cons_succ, List.replicate_succ, List.replicate_zero, List.cons_append, List.nil_append, List.append_nil, Nat.zero_add, Nat.reduceAdd, Nat.reduceSub, List.tail_cons, wipeE, wiRng1, wiRng2, wiSeq, wiEnum, wiZip,
    exists_eq_left, exists_eq_left', exists_eq_right, exists_eq_right', Option.some.injEq, D.int.injEq, D.bl.injEq, D.str.injEq, D.lst.injEq, D.tup.injEq, D.row.injEq, D.own.injEq, D.adr.injEq, D.ty.injEq, reduceCtorEq, List.cons.injEq, true_and, and_true, false_and, and_false, or_false, false_or, exists_false, if_true, if_false, Bool.not_true, Bool.not_false, Bool.false_eq_true, and_self, true_or, or_true, exists_and_left, exists_and_right, ite_true, ite_false, exists_const, exists_eq, exists_eq', decide_true, decide_false, Bool.not_true, Bool.not_false, wIdx, wXq]
      refine ⟨[false, false, true], rfl, 2, rfl, fun m hm => ?_, ?_⟩
      · first | (cases hm; done) | (rcases m with _ | _ | m <;> first | rfl | omega)
      · refine dv_ix rfl (atI_nat rfl rfl) ?_ (fun _ z => by cases z)
        exact ⟨_, _, _, rfl, Xf.er_Misfit, Xf.no_Misfit, .str y, by simp [List.lookup], by decide, by simpa only [frzL, frz] using q⟩
end
end K14

set_option Elab.async false
set_option linter.all false
set_option maxRecDepth 100000
set_option maxHeartbeats 4000001

namespace K14
open PySem PySem.Spec PyProof.Rows L2 Dp
abbrev s__law_doings_right : Stmt := top 45
theorem sc__law_doings_right : FnScope ["_law_hand_here", "_law_one", "_law_other", "_law_due", "_law_many", "_law_by", "_law_beat"] ["_law_hand_here", "_law_one", "_law_other", "_law_due"] (defScope s__law_doings_right) := ⟨rfl, rfl, rfl, by decide +kernel, rfl, by decide +kernel, by decide +kernel⟩
abbrev s__law_sums_right : Stmt := top 46
theorem sc__law_sums_right : FnScope ["_law_hand_here", "_law_one", "_law_other", "_law_third", "_law_due", "_law_taken", "_law_number", "_law_its", "_law_added", "_law_back", "_law_span", "_law_mine", "_law_more"] ["_law_hand_here", "_law_one", "_law_other", "_law_third", "_law_due"] (defScope s__law_sums_right) := ⟨rfl, rfl, rfl, by decide +kernel, rfl, by decide +kernel, by decide +kernel⟩
abbrev s__law_refused_right : Stmt := top 47
theorem sc__law_refused_right : FnScope ["_law_hand_here", "_law_one", "_law_other", "_law_heard_here", "_law_odd", "_law_bad"] ["_law_hand_here", "_law_one"] (defScope s__law_refused_right) := ⟨rfl, rfl, rfl, by decide +kernel, rfl, by decide +kernel, by decide +kernel⟩
section
variable {P : Program} {w : World} {mg : Str → Option Value} {base : Heap} {c : Cb} {f : Addr} {fd : FuncData}
structure Ds (P : Program) (w : World) (mg : Str → Option Value) (base : Heap) (c : Cb) : Prop where
  T : Tb c mg
  Xf : Ex c mg
  n_Row : Nd P w c.K mg base c.R "Row" 5 ["self", "numbers"] (spInit c)
  eq_ : Ed P w c.K mg base c.R c.cells c.T 2
  m_left_out : Md P w c.K mg base c.R "left_out" 7 ["self"] (spD c 1 F_left_out)
  m_times : Md P w c.K mg base c.R "times" 7 ["self", "number"] (spD c 2 F_times)
  m_added : Md P w c.K mg base c.R "added" 7 ["self", "other"] (spD c 2 F_added)
  m_turned : Md P w c.K mg base c.R "turned" 7 ["self", "by"] (spD c 2 F_turned)
  m_mirrored : Md P w c.K mg base c.R "mirrored" 7 ["self"] (spD c 1 F_mirrored)
  m_stretched : Md P w c.K mg base c.R "stretched" 7 ["self", "by"] (spD c 2 F_stretched)
  m_product : Md P w c.K mg base c.R "product" 7 ["self", "other"] (spD c 2 F_product)
  d_cross_spans : Dn P w c.K mg base "cross_spans" 8 ["one", "other"] (spD c 2 F_cross_spans)
  d_spans : Dn P w c.K mg base "spans" 9 ["row"] (spD c 1 F_spans)
  x_cross_spans : DnX P w c.K mg base "cross_spans" 8 ["one", "other"] (spX c 2 (X_cross_spans c))
  d__law_take : Dn P w c.K mg base "_law_take" 2 ["_law_hand_here", "_law_many"] (spD c 2 F__law_take)
  d__law_pick : Dn P w c.K mg base "_law_pick" 3 ["_law_hand_here", "_law_some"] (spD c 2 F__law_pick)
  d__law_row : Dn P w c.K mg base "_law_row" 4 ["_law_hand_here", "_law_many"] (spD c 2 F__law_row)
  d__law_spans : Dn P w c.K mg base "_law_spans" 2 ["_law_one", "_law_other"] (spD c 2 F__law_spans)
  d__law_divides : Dn P w c.K mg base "_law_divides" 2 ["_law_one", "_law_other"] (spD c 2 F__law_divides)
  d__law_turned : Dn P w c.K mg base "_law_turned" 2 ["_law_numbers", "_law_by"] (spD c 2 F__law_turned)
theorem sm_sw {a : List Int} (h : Sm a) : Sw a := fun x hx => by have := h x hx; constructor <;> omega
theorem sm_trn {a : List Int} {t : Int} (h : Sm a) : Sm (trn a t) := fun x hx => by
  obtain ⟨i, hi, rfl⟩ := List.mem_iff_getElem.mp hx
  rw [trn_len] at hi
  rw [show (trn a t)[i] = nt (trn a t) i from (nt_get (List.getElem?_eq_getElem _)).symm, trn_nt hi]
  exact h _ (List.mem_of_getElem? (nt_lt (ix_lt (by omega))))
theorem sm_mir {a : List Int} (h : Sm a) : Sm (mir a) := fun x hx => by
  obtain ⟨i, hi, rfl⟩ := List.mem_iff_getElem.mp hx
  rw [mir_len] at hi
  rw [show (mir a)[i] = nt (mir a) i from (nt_get (List.getElem?_eq_getElem _)).symm, mir_nt hi]
  exact h _ (List.mem_of_getElem? (nt_lt (ng_lt (by omega))))
theorem lp_turned {a : List Int} {t : Int} {n : Nat} {Q : D → Nat → Prop} : F_turned [.row a, .int t] n Q = (Rk a ∧ Q (.row (trn a t)) n) := rfl
theorem lp_mirrored {a : List Int} {n : Nat} {Q : D → Nat → Prop} : F_mirrored [.row a] n Q = (Rk a ∧ Q (.row (mir a)) n) := rfl
theorem lv_turned {a : List Int} {t : Int} {n : Nat} {Q : D → Nat → Prop} : F__law_turned [.tup (a.map D.int), .int t] n Q = (Rk a ∧ Q (.tup ((trn a t).map D.int)) n) := propext ⟨fun ⟨a', e, h, q⟩ => by rw [map_int_inj e]; exact ⟨h, q⟩, fun ⟨h, q⟩ => ⟨a, rfl, h, q⟩⟩
theorem lp_cross {a b : List Int} {n : Nat} {Q : D → Nat → Prop} : F_cross_spans [.row a, .row b] n Q = (Rk a ∧ a.length = b.length ∧ Sw b ∧ Q (.tup ((spn a b).map D.int)) n) := rfl
theorem lp_added {a b : List Int} {n : Nat} {Q : D → Nat → Prop} : F_added [.row a, .row b] n Q = (Rk a ∧ a.length = b.length ∧ Q (.row (List.zipWith (· + ·) a b)) n) := rfl
theorem lp_left {a : List Int} {n : Nat} {Q : D → Nat → Prop} : F_left_out [.row a] n Q = (Rk a ∧ Q (.row (a.map fun x => 1 - x)) n) := rfl
theorem sum_small {a : List Int} (h : Sm a) (l : a.length ≤ 24) : -(4800000 : Int) ≤ a.sum ∧ a.sum ≤ 4800000 := by
  have key : ∀ b : List Int, (∀ x ∈ b, -200000 ≤ x ∧ x ≤ 200000) → -(200000 * (b.length : Int)) ≤ b.sum ∧ b.sum ≤ 200000 * (b.length : Int) := fun b => by
    induction b with
    | nil => intro _; simp
    | cons y b ih =>
      intro hb
      have h1 := hb y List.mem_cons_self
      have h2 := ih fun x hx => hb x (List.mem_cons_of_mem _ hx)
      rw [List.sum_cons, List.length_cons]
      push_cast
      omega
  have := key a h
  omega
theorem mul_bound {x i : Int} (h : -200000 ≤ x ∧ x ≤ 200000) (g : -10 ≤ i ∧ i ≤ 10) : -2000000 ≤ x * i ∧ x * i ≤ 2000000 := by
  obtain ⟨h1, h2⟩ := h
  have a1 : i = -10 ∨ i = -9 ∨ i = -8 ∨ i = -7 ∨ i = -6 ∨ i = -5 ∨ i = -4 ∨ i = -3 ∨ i = -2 ∨ i = -1 ∨ i = 0 ∨ i = 1 ∨ i = 2 ∨ i = 3 ∨ i = 4 ∨ i = 5 ∨ i = 6 ∨ i = 7 ∨ i = 8 ∨ i = 9 ∨ i = 10 := by omega
  rcases a1 with rfl | rfl | rfl | rfl | rfl | rfl | rfl | rfl | rfl | rfl | rfl | rfl | rfl | rfl | rfl | rfl | rfl | rfl | rfl | rfl | rfl <;> omega
theorem rp_mir {a b : List Int} : rp (mir a) b = spn a b := rp_xsp
theorem rk_of {a b : List Int} (h : Rk a) (e : b.length = a.length) : Rk b := by unfold Rk; rw [e]; exact h
def F__law_doings_right : FD
  | [.pen, .row a, .row b, .tup ys], n, Q => ys = (spn a b).map D.int ∧ Rk a ∧ a.length = b.length ∧ Sm a ∧ Sm b ∧ 1 ≤ n ∧ ∀ n', n ≤ n' + 1 → Q (.bl true) n'
  | _, _, _ => False
theorem l__law_doings_right : ∀ ds n Q, F__law_doings_right ds n Q → ds.length = 4 := by intro ds n Q h; unfold F__law_doings_right at h; split at h <;> first | rfl | exact h.elim
theorem ok_doings (Fn : FunD c.K "_law_doings_right" "_law_doings_right" (defArgs s__law_doings_right) (defBody s__law_doings_right) (defScope s__law_doings_right) [] [] f fd) (D0 : Ds P w mg base c) : FnOk P w c.K mg base CX0 10 f fd ["_law_hand_here", "_law_one", "_law_other", "_law_due"] (spD c 4 F__law_doings_right) := by
  obtain ⟨T, Xf, n_Row, eq_, m_left_out, m_times, m_added, m_turned, m_mirrored, m_stretched, m_product, d_cross_spans, d_spans, x_cross_spans, d__law_take, d__law_pick, d__law_row, d__law_spans, d__law_divides, d__law_turned⟩ := D0
  refine fn_d Fn sc__law_doings_right (fun cdv A outer s H E hr => ⟨_, (pss_cons (ps_asg (pe_tup (pa_cons (fldK (K := c.K) (pv 1) (by rfl)) (pa_cons (pe_op opSub (pe_d d__law_take hr (by rfl) (pa_cons (pv 0) (pa_cons pe_int pa_nil))) pe_int) pa_nil))) (pg_tup rfl (pgs_cons (pg_name (i := 4) sc__law_doings_right.nd rfl (by first | exact .inl rfl | exact .inr rfl)) (pgs_cons (pg_name (i := 5) sc__law_doings_right.nd rfl (by first | exact .inl rfl | exact .inr rfl)) pgs_nil))))
 (pss_cons (ps_if (pt_cmpR (ne0K (K := c.K) hr) (pe_d d_cross_spans hr (by rfl) (pa_cons (pv 2) (pa_cons (pv 1) pa_nil))) (pe_callTy (tupleK (K := c.K)) (by rfl) T.b_tuple (by decide +kernel) (pa_cons (pe_lc (own := [("_law_beat", 6)]) (g := gName 6) (by rfl) sc__law_doings_right.nd (pi_range1 (by rfl) T.b_range (pa_cons (pv 4) pa_nil)) (blkOk_by (N := ["_law_hand_here", "_law_one", "_law_other", "_law_due", "_law_many", "_law_by", "_law_beat"]) (sc := defScope s__law_doings_right) (by decide +kernel)) (fun _ _ _ _ _ => (pg_name (i := 6) sc__law_doings_right.nd rfl (by first | exact .inl rfl | exact .inr rfl))) (fun _ _ _ _ _ => pts_nil) (fun _ _ _ _ _ => (pe_ix (ixK (K := c.K)) (pv 3) (pe_op opMod (pe_callTy callInt (by rfl) T.b_int (by decide +kernel) (pa_cons (pe_op opSub (pv 4) (pv 6)) pa_nil)) (pv 4)) (fun _ _ => rfl)))) pa_nil)) (nomark _)) (pss_one (ps_ret pe_bl)) pss_nil)
 (pss_cons (ps_if (PW.pt (pw_or (pt_cmpR (ne0K (K := c.K) hr) (pe_d d_cross_spans hr (by rfl) (pa_cons (pv 1) (pa_cons (pe_m m_turned T.row.cl hr (pv 2) (pa_cons (pv 5) pa_nil)) pa_nil))) (pe_d d__law_turned hr (by rfl) (pa_cons (pv 3) (pa_cons (pv 5) pa_nil))) (nomark _)) (pw_or1 (pt_cmpR (ne0K (K := c.K) hr) (pe_d d_cross_spans hr (by rfl) (pa_cons (pe_m m_turned T.row.cl hr (pv 1) (pa_cons (pv 5) pa_nil)) (pa_cons (pv 2) pa_nil))) (pe_d d__law_turned hr (by rfl) (pa_cons (pv 3) (pa_cons (pe_un unNeg (pv 5)) pa_nil))) (nomark _))))) (pss_one (ps_ret pe_bl)) pss_nil)
 (pss_cons (ps_if (PW.pt (pw_or (pt_cmpR (ne0K (K := c.K) hr) (fldK (K := c.K) (pe_m m_product T.row.cl hr (pe_m0 m_mirrored T.row.cl hr (pv 1)) (pa_cons (pv 2) pa_nil)) (by rfl)) (pv 3) (nomark _)) (pw_or1 (pt_cmpR (ne0K (K := c.K) hr) (pe_d d_cross_spans hr (by rfl) (pa_cons (pe_m m_turned T.row.cl hr (pv 1) (pa_cons (pv 5) pa_nil)) (pa_cons (pe_m m_turned T.row.cl hr (pv 2) (pa_cons (pv 5) pa_nil)) pa_nil))) (pv 3) (nomark _))))) (pss_one (ps_ret pe_bl)) pss_nil)
 (pss_one (ps_ret (pe_and (pe_cmpR (eq0K (K := c.K) hr) (pe_d d_cross_spans hr (by rfl) (pa_cons (pe_m0 m_mirrored T.row.cl hr (pv 1)) (pa_cons (pe_m0 m_mirrored T.row.cl hr (pv 2)) pa_nil))) (pe_d d_cross_spans hr (by rfl) (pa_cons (pv 2) (pa_cons (pv 1) pa_nil))) (nomark _)) (pe_one (pe_cmpR (eq0K (K := c.K) hr) (pe_d d_cross_spans hr (by rfl) (pa_cons (pv 1) (pa_cons (pv 1) pa_nil))) (pe_d d_spans hr (by rfl) (pa_cons (pv 1) pa_nil)) (nomark _)))))))))), _, (sndS_seq (sndS_asg (snd_tup (sndA_cons (snd_many T.row snd_var) (sndA_cons (snd_op sndR_sub (snd_call l__law_take (sndA_cons snd_var (sndA_cons snd_int sndA_nil))) snd_int) sndA_nil))) (sndG_tup (sndGs_cons sndG_name (sndGs_cons sndG_name sndGs_nil))))
 (sndS_seq (sndS_if (sndT_test (snd_op sndR_ne0 (snd_call l_cross_spans (sndA_cons snd_var (sndA_cons snd_var sndA_nil))) (snd_cb sndC_tuple (sndA_cons (snd_lc (sndI_rng1 (sndA_cons snd_var sndA_nil)) sndG_name (okT_name (by decide)) sndT_yes (snd_op sndR_ix snd_var (snd_op sndR_mod (snd_cb sndC_int (sndA_cons (snd_op sndR_sub snd_var snd_var) sndA_nil)) snd_var))) sndA_nil)))) (sndS_ret snd_bl) sndS_next)
 (sndS_seq (sndS_if (sndT_or (sndT_test (snd_op sndR_ne0 (snd_call l_cross_spans (sndA_cons snd_var (sndA_cons (snd_meth (by decide +kernel) l_turned snd_var (sndA_cons snd_var sndA_nil)) sndA_nil))) (snd_call l__law_turned (sndA_cons snd_var (sndA_cons snd_var sndA_nil))))) (sndT_test (snd_op sndR_ne0 (snd_call l_cross_spans (sndA_cons (snd_meth (by decide +kernel) l_turned snd_var (sndA_cons snd_var sndA_nil)) (sndA_cons snd_var sndA_nil))) (snd_call l__law_turned (sndA_cons snd_var (sndA_cons (snd_un sndU_neg snd_var) sndA_nil)))))) (sndS_ret snd_bl) sndS_next)
 (sndS_seq (sndS_if (sndT_or (sndT_test (snd_op sndR_ne0 (snd_numbers T.row (snd_meth (by decide +kernel) l_product (snd_meth (by decide +kernel) l_mirrored snd_var sndA_nil) (sndA_cons snd_var sndA_nil))) snd_var)) (sndT_test (snd_op sndR_ne0 (snd_call l_cross_spans (sndA_cons (snd_meth (by decide +kernel) l_turned snd_var (sndA_cons snd_var sndA_nil)) (sndA_cons (snd_meth (by decide +kernel) l_turned snd_var (sndA_cons snd_var sndA_nil)) sndA_nil))) snd_var))) (sndS_ret snd_bl) sndS_next)
 (sndS_ret (snd_andV (snd_op sndR_eq0 (snd_call l_cross_spans (sndA_cons (snd_meth (by decide +kernel) l_mirrored snd_var sndA_nil) (sndA_cons (snd_meth (by decide +kernel) l_mirrored snd_var sndA_nil) sndA_nil))) (snd_call l_cross_spans (sndA_cons snd_var (sndA_cons snd_var sndA_nil)))) (snd_op sndR_eq0 (snd_call l_cross_spans (sndA_cons snd_var (sndA_cons snd_var sndA_nil))) (snd_call l_spans (sndA_cons snd_var sndA_nil))))))))), fun ds n Q h hl => ?_⟩)
  unfold F__law_doings_right at h
  split at h
  · rename_i a b ys
    obtain ⟨rfl, h1, h2, sa, sb, hn, q⟩ := h
    have h24 := h1.2
    have h02 := h1.1
    have hb : Rk b := rk_of h1 h2.symm
    have h0 : 0 < a.length := by omega
    simp only [wSeq, wNext, wRet, wRetN, wNever, wDrop, wIfS, wAsg, gwName, dv_gtup, dv_gunl, dv_gcons, dv_gnil, wPar, wPar3, wAug, wSetO, wAugO, wApp, wVar, wC, wOp, wUn, asBl, wAnd, wOr, wNot, wAndV, wOrV, wNotV, wIf, wNil, wCons, wTup, wLst, wLstO, wCB, wCall, wCallK1, wMeth, wRel, wMk, wPen0, wPen1, wPen2, wPenS1, wPenS2, wSMeth, dv_make, wRowF, wSl, woNo, woSome, wChain, wYes, wIsi2,
    dv_add_int, dv_add_lst, dv_add_tup, dv_mul_int, dv_mul_lst, dv_mul_tup, rdMulO, dv_i0, dv_i2, rdNeg, rdSl, dv_int_int, dv_int_bl, dv_abs, dv_ne0_lst0, dv_eq0_lst0, rdList, rdListO, rdIsi, dv_eq_row, dv_ne_row, dv_eq_tup, dv_ne_tup, dv_ne_tup0, dv_eq_lst, dv_ne_lst, dv_eq_int, dv_ne_int, dv_eq0_tup, dv_eq0_int, dv_ne0_int, dv_ne0_tup, dv_mk_lst, dv_mk_tup, dv_sum_lst, dv_sum_tup, dv_tuple_lst, dv_tuple_tup, dv_len_lst, dv_len_tup, dv_all, frzL_ints,  rdIs, rdIsNot, Dp.isNon, seqOf, seqI, frz, startD, kg, isiD_non, isiD_bl, isiD_int, isiD_str, isiD_lst, isiD_tup, isiD2_non, isiD2_bl, isiD2_int, isiD2_str, isiD2_lst, isiD2_tup, kb_non_int, kb_bl_int, kb_int_int, kb_str_int, kb_lst_int, kb_tup_int, kb_non_bool, kb_bl_bool, kb_int_bool, kb_str_str, kb_int_str, kb2_non, kb2_bl, kb2_int, kb2_str, kb2_lst, kb2_tup, isi_row_int, isi_row_list, isi_row_tuple, isi_row_str, isi2_row,
    List.map_cons, List.map_nil, List.length_cons, List.length_nil, List.getElem?_cons_zero, List.getElem?_cons_succ, List.set_cons_zero, List.set_cons_succ, List.replicate_succ, List.replicate_zero, List.cons_append, List.nil_append, List.append_nil, Nat.zero_add, Nat.reduceAdd, Nat.reduceSub, List.tail_cons, wipeE, wiRng1, wiRng2, wiSeq, wiEnum, wiZip,
    exists_eq_left, exists_eq_left', exists_eq_right, exists_eq_right', Option.some.injEq, D.int.injEq, D.bl.injEq, D.str.injEq, D.lst.injEq, D.tup.injEq, D.row.injEq, D.own.injEq, D.adr.injEq, D.ty.injEq, reduceCtorEq, List.cons.injEq, true_and, and_true, false_and, and_false, or_false, false_or, exists_false, if_true, if_false, Bool.not_true, Bool.not_false, Bool.false_eq_true, and_self, true_or, or_true, exists_and_left, exists_and_right, ite_true, ite_false, exists_const, exists_eq, exists_eq', decide_true, decide_false, Bool.not_true, Bool.not_false, F__law_take, F_cross_spans]
    refine ⟨by decide, by decide, hn, fun d n' g1 g2 g3 => ⟨by decide, rfl, hb, h2.symm, sm_sw sa, ?_⟩⟩
    refine lc_map (μ1 := []) (n1 := n') (List.range a.length) (fun i => .int (0 + (i : Nat))) (fun i => .int (nt (spn a b) (ng a.length i))) (fun k q => ?_) (by simp; omega) (fun i p acc J hi _ hJ => ?_) ?_
    · simp only [wSeq, wNext, wRet, wRetN, wNever, wDrop, wIfS, wAsg, gwName, dv_gtup, dv_gunl, dv_gcons, dv_gnil, wPar, wPar3, wAug, wSetO, wAugO, wApp, wVar, wC, wOp, wUn, asBl, wAnd, wOr, wNot, wAndV, wOrV, wNotV, wIf, wNil, wCons, wTup, wLst, wLstO, wCB, wCall, wCallK1, wMeth, wRel, wMk, wPen0, wPen1, wPen2, wPenS1, wPenS2, wSMeth, dv_make, wRowF, wSl, woNo, woSome, wChain, wYes, wIsi2,
    dv_add_int, dv_add_lst, dv_add_tup, dv_mul_int, dv_mul_lst, dv_mul_tup, rdMulO, dv_i0, dv_i2, rdNeg, rdSl, dv_int_int, dv_int_bl, dv_abs, dv_ne0_lst0, dv_eq0_lst0, rdList, rdListO, rdIsi, dv_eq_row, dv_ne_row, dv_eq_tup, dv_ne_tup, dv_ne_tup0, dv_eq_lst, dv_ne_lst, dv_eq_int, dv_ne_int, dv_eq0_tup, dv_eq0_int, dv_ne0_int, dv_ne0_tup, dv_mk_lst, dv_mk_tup, dv_sum_lst, dv_sum_tup, dv_tuple_lst, dv_tuple_tup, dv_len_lst, dv_len_tup, dv_all, frzL_ints,  rdIs, rdIsNot, Dp.isNon, seqOf, seqI, frz, startD, kg, isiD_non, isiD_bl, isiD_int, isiD_str, isiD_lst, isiD_tup, isiD2_non, isiD2_bl, isiD2_int, isiD2_str, isiD2_lst, isiD2_tup, kb_non_int, kb_bl_int, kb_int_int, kb_str_int, kb_lst_int, kb_tup_int, kb_non_bool, kb_bl_bool, kb_int_bool, kb_str_str, kb_int_str, kb2_non, kb2_bl, kb2_int, kb2_str, kb2_lst, kb2_tup, isi_row_int, isi_row_list, isi_row_tuple, isi_row_str, isi2_row,
    List.map_cons, List.map_nil, List.length_cons, List.length_nil, List.getElem?_cons_zero, List.getElem?_cons_succ, List.set_cons_zero, List.set_cons_succ, List.replicate_succ, List.replicate_zero, List.cons_append, List.nil_append, List.append_nil, Nat.zero_add, Nat.reduceAdd, Nat.reduceSub, List.tail_cons, wipeE, wiRng1, wiRng2, wiSeq, wiEnum, wiZip,
    exists_eq_left, exists_eq_left', exists_eq_right, exists_eq_right', Option.some.injEq, D.int.injEq, D.bl.injEq, D.str.injEq, D.lst.injEq, D.tup.injEq, D.row.injEq, D.own.injEq, D.adr.injEq, D.ty.injEq, reduceCtorEq, List.cons.injEq, true_and, and_true, false_and, and_false, or_false, false_or, exists_false, if_true, if_false, Bool.not_true, Bool.not_false, Bool.false_eq_true, and_self, true_or, or_true, exists_and_left, exists_and_right, ite_true, ite_false, exists_const, exists_eq, exists_eq', decide_true, decide_false, Bool.not_true, Bool.not_false]; exact ⟨by omega, by omega, q⟩
    · have hi : i < a.length := by simpa using hi
      have e : ((a.length : Int) - (0 + (i : Int))) % (a.length : Int) = ((ng a.length i : Nat) : Int) := by unfold ng; rw [Int.zero_add, ← Int.ofNat_sub (show i ≤ a.length by omega)]; rfl
      simp only [wSeq, wNext, wRet, wRetN, wNever, wDrop, wIfS, wAsg, gwName, dv_gtup, dv_gunl, dv_gcons, dv_gnil, wPar, wPar3, wAug, wSetO, wAugO, wApp, wVar, wC, wOp, wUn, asBl, wAnd, wOr, wNot, wAndV, wOrV, wNotV, wIf, wNil, wCons, wTup, wLst, wLstO, wCB, wCall, wCallK1, wMeth, wRel, wMk, wPen0, wPen1, wPen2, wPenS1, wPenS2, wSMeth, dv_make, wRowF, wSl, woNo, woSome, wChain, wYes, wIsi2,
    dv_add_int, dv_add_lst, dv_add_tup, dv_mul_int, dv_mul_lst, dv_mul_tup, rdMulO, dv_i0, dv_i2, rdNeg, rdSl, dv_int_int, dv_int_bl, dv_abs, dv_ne0_lst0, dv_eq0_lst0, rdList, rdListO, rdIsi, dv_eq_row, dv_ne_row, dv_eq_tup, dv_ne_tup, dv_ne_tup0, dv_eq_lst, dv_ne_lst, dv_eq_int, dv_ne_int, dv_eq0_tup, dv_eq0_int, dv_ne0_int, dv_ne0_tup, dv_mk_lst, dv_mk_tup, dv_sum_lst, dv_sum_tup, dv_tuple_lst, dv_tuple_tup, dv_len_lst, dv_len_tup, dv_all, frzL_ints,  rdIs, rdIsNot, Dp.isNon, seqOf, seqI, frz, startD, kg, isiD_non, isiD_bl, isiD_int, isiD_str, isiD_lst, isiD_tup, isiD2_non, isiD2_bl, isiD2_int, isiD2_str, isiD2_lst, isiD2_tup, kb_non_int, kb_bl_int, kb_int_int, kb_str_int, kb_lst_int, kb_tup_int, kb_non_bool, kb_bl_bool, kb_int_bool, kb_str_str, kb_int_str, kb2_non, kb2_bl, kb2_int, kb2_str, kb2_lst, kb2_tup, isi_row_int, isi_row_list, isi_row_tuple, isi_row_str, isi2_row,
    List.map_cons, List.map_nil, List.length_cons, List.length_nil, List.getElem?_cons_zero, List.getElem?_cons_succ, List.set_cons_zero, List.set_cons_succ, List.replicate_succ, List.replicate_zero, List.cons_append, List.nil_append, List.append_nil, Nat.zero_add, Nat.reduceAdd, Nat.reduceSub, List.tail_cons, wipeE, wiRng1, wiRng2, wiSeq, wiEnum, wiZip,
    exists_eq_left, exists_eq_left', exists_eq_right, exists_eq_right', Option.some.injEq, D.int.injEq, D.bl.injEq, D.str.injEq, D.lst.injEq, D.tup.injEq, D.row.injEq, D.own.injEq, D.adr.injEq, D.ty.injEq, reduceCtorEq, List.cons.injEq, true_and, and_true, false_and, and_false, or_false, false_or, exists_false, if_true, if_false, Bool.not_true, Bool.not_false, Bool.false_eq_true, and_self, true_or, or_true, exists_and_left, exists_and_right, ite_true, ite_false, exists_const, exists_eq, exists_eq', decide_true, decide_false, Bool.not_true, Bool.not_false, e]
      refine ⟨by omega, dv_ixI (ns := spn a b) rfl (atI_nat rfl (nt_lt (by rw [spn_len]; exact ng_lt h0))) ?_ (fun _ z => by cases z)⟩
      first | exact hJ | exact ⟨rfl, hJ⟩
    · rw [show (List.range a.length).map (fun (i : Nat) => D.int (nt (spn a b) (ng a.length i))) = (spn b a).map D.int by rw [← spn_swapT h2]; unfold tab; rw [List.map_map]; rfl]
      have r1 : Rk (spn a b) := rk_of h1 spn_len
      simp only [wSeq, wNext, wRet, wRetN, wNever, wDrop, wIfS, wAsg, gwName, dv_gtup, dv_gunl, dv_gcons, dv_gnil, wPar, wPar3, wAug, wSetO, wAugO, wApp, wVar, wC, wOp, wUn, asBl, wAnd, wOr, wNot, wAndV, wOrV, wNotV, wIf, wNil, wCons, wTup, wLst, wLstO, wCB, wCall, wCallK1, wMeth, wRel, wMk, wPen0, wPen1, wPen2, wPenS1, wPenS2, wSMeth, dv_make, wRowF, wSl, woNo, woSome, wChain, wYes, wIsi2,
    dv_add_int, dv_add_lst, dv_add_tup, dv_mul_int, dv_mul_lst, dv_mul_tup, rdMulO, dv_i0, dv_i2, rdNeg, rdSl, dv_int_int, dv_int_bl, dv_abs, dv_ne0_lst0, dv_eq0_lst0, rdList, rdListO, rdIsi, dv_eq_row, dv_ne_row, dv_eq_tup, dv_ne_tup, dv_ne_tup0, dv_eq_lst, dv_ne_lst, dv_eq_int, dv_ne_int, dv_eq0_tup, dv_eq0_int, dv_ne0_int, dv_ne0_tup, dv_mk_lst, dv_mk_tup, dv_sum_lst, dv_sum_tup, dv_tuple_lst, dv_tuple_tup, dv_len_lst, dv_len_tup, dv_all, frzL_ints,  rdIs, rdIsNot, Dp.isNon, seqOf, seqI, frz, startD, kg, isiD_non, isiD_bl, isiD_int, isiD_str, isiD_lst, isiD_tup, isiD2_non, isiD2_bl, isiD2_int, isiD2_str, isiD2_lst, isiD2_tup, kb_non_int, kb_bl_int, kb_int_int, kb_str_int, kb_lst_int, kb_tup_int, kb_non_bool, kb_bl_bool, kb_int_bool, kb_str_str, kb_int_str, kb2_non, kb2_bl, kb2_int, kb2_str, kb2_lst, kb2_tup, isi_row_int, isi_row_list, isi_row_tuple, isi_row_str, isi2_row,
    List.map_cons, List.map_nil, List.length_cons, List.length_nil, List.getElem?_cons_zero, List.getElem?_cons_succ, List.set_cons_zero, List.set_cons_succ, List.replicate_succ, List.replicate_zero, List.cons_append, List.nil_append, List.append_nil, Nat.zero_add, Nat.reduceAdd, Nat.reduceSub, List.tail_cons, wipeE, wiRng1, wiRng2, wiSeq, wiEnum, wiZip,
    exists_eq_left, exists_eq_left', exists_eq_right, exists_eq_right', Option.some.injEq, D.int.injEq, D.bl.injEq, D.str.injEq, D.lst.injEq, D.tup.injEq, D.row.injEq, D.own.injEq, D.adr.injEq, D.ty.injEq, reduceCtorEq, List.cons.injEq, true_and, and_true, false_and, and_false, or_false, false_or, exists_false, if_true, if_false, Bool.not_true, Bool.not_false, Bool.false_eq_true, and_self, true_or, or_true, exists_and_left, exists_and_right, ite_true, ite_false, exists_const, exists_eq, exists_eq', decide_true, decide_false, Bool.not_true, Bool.not_false, lp_turned, lp_mirrored, lv_turned, F_product, F_cross_spans, F_spans, spn_turnR h2 h0, spn_turnL h2 h0, rp_mir]
      have ta := rk_of h1 (trn_len (a := a) (t := d - 30))
      have tb' := trn_len (a := b) (t := d - 30)
      have ma := rk_of h1 (mir_len (a := a))
      refine ⟨hb, h1, by rw [tb', h2], sm_sw (sm_trn sb), r1, h1, ta, by rw [trn_len, h2], sm_sw sb, r1, h1, ma, by rw [mir_len, h2], .inr (sm_sw sb), h1, hb, ta, by rw [trn_len, trn_len, h2], sm_sw (sm_trn sb), ?_⟩
      rw [spn_turn2 h2 h0, spn_mir2 h2 h0, if_neg (by simp)]
      refine ⟨h1, hb, ma, by rw [mir_len, mir_len, h2], sm_sw (sm_mir sb), hb, h2.symm, sm_sw sa, ?_⟩
      rw [if_pos (by simp)]
      exact ⟨h1, sm_sw sa, h1, sm_sw sa, q n' g3⟩
  · exact h.elim
def F__law_sums_right : FD
  | [.pen, .row a, .row b, .row e, .tup ys], n, Q => ys = (spn a b).map D.int ∧ Rk a ∧ a.length = b.length ∧ a.length = e.length ∧ Sm a ∧ Sm b ∧ Sm e ∧ 1 ≤ n ∧ ∀ n', n ≤ n' + 1 → Q (.bl true) n'
  | _, _, _ => False
theorem l__law_sums_right : ∀ ds n Q, F__law_sums_right ds n Q → ds.length = 5 := by intro ds n Q h; unfold F__law_sums_right at h; split at h <;> first | rfl | exact h.elim
theorem ok_sums (Fn : FunD c.K "_law_sums_right" "_law_sums_right" (defArgs s__law_sums_right) (defBody s__law_sums_right) (defScope s__law_sums_right) [] [] f fd) (D0 : Ds P w mg base c) : FnOk P w c.K mg base CX0 10 f fd ["_law_hand_here", "_law_one", "_law_other", "_law_third", "_law_due"] (spD c 5 F__law_sums_right) := by
  obtain ⟨T, Xf, n_Row, eq_, m_left_out, m_times, m_added, m_turned, m_mirrored, m_stretched, m_product, d_cross_spans, d_spans, x_cross_spans, d__law_take, d__law_pick, d__law_row, d__law_spans, d__law_divides, d__law_turned⟩ := D0
  refine fn_d Fn sc__law_sums_right (fun cdv A outer s H E hr => ⟨_, (pss_cons (ps_asg (pe_tup (pa_cons (pe_d d__law_pick hr (by rfl) (pa_cons (pv 0) (pa_cons (pe_lst (pa_cons pe_int (pa_cons pe_int (pa_cons (pe_un unNeg pe_int) (pa_cons pe_int pa_nil))))) pa_nil))) (pa_cons (pe_d d_cross_spans hr (by rfl) (pa_cons (pv 1) (pa_cons (pv 3) pa_nil))) pa_nil))) (pg_tup rfl (pgs_cons (pg_name (i := 6) sc__law_sums_right.nd rfl (by first | exact .inl rfl | exact .inr rfl)) (pgs_cons (pg_name (i := 7) sc__law_sums_right.nd rfl (by first | exact .inl rfl | exact .inr rfl)) pgs_nil))))
 (pss_cons (ps_par (i := 8) (j := 9) rfl sc__law_sums_right.nd rfl rfl (by decide) rfl rfl (pa_cons (pe_callTy (tupleK (K := c.K)) (by rfl) T.b_tuple (by decide +kernel) (pa_cons (pe_lc (own := [("_law_mine", 11), ("_law_more", 12)]) (g := gTup _ 2 (gCons (gName 11) (gCons (gName 12) gNil))) (by rfl) sc__law_sums_right.nd (RZ.pi_zipA (by rfl) T.b_zip (pa_cons (pv 4) (pa_cons (pv 7) pa_nil))) (blkOk_by (N := ["_law_hand_here", "_law_one", "_law_other", "_law_third", "_law_due", "_law_taken", "_law_number", "_law_its", "_law_added", "_law_back", "_law_span", "_law_mine", "_law_more"]) (sc := defScope s__law_sums_right) (by decide +kernel)) (fun _ _ _ _ _ => (pg_tup rfl (pgs_cons (pg_name (i := 11) sc__law_sums_right.nd rfl (by first | exact .inl rfl | exact .inr rfl)) (pgs_cons (pg_name (i := 12) sc__law_sums_right.nd rfl (by first | exact .inl rfl | exact .inr rfl)) pgs_nil)))) (fun _ _ _ _ _ => pts_nil) (fun _ _ _ _ _ => (pe_op (opAddK (K := c.K)) (pv 11) (pv 12)))) pa_nil)) (pa_cons (lzK (K := c.K) (by rfl) T.b_list (by rfl) T.b_zip (pa_cons (pe_d d_cross_spans hr (by rfl) (pa_cons (pv 2) (pa_cons (pv 1) pa_nil))) (pa_cons (pe_d d_cross_spans hr (by rfl) (pa_cons (pv 3) (pa_cons (pv 1) pa_nil))) pa_nil))) pa_nil)) (by rfl))
 (pss_cons (ps_if (pt_cmpR (ne0K (K := c.K) hr) (pe_d d_cross_spans hr (by rfl) (pa_cons (pv 1) (pa_cons (pe_m m_added T.row.cl hr (pv 2) (pa_cons (pv 3) pa_nil)) pa_nil))) (pv 8) (nomark _)) (pss_one (ps_ret pe_bl)) pss_nil)
 (pss_cons (ps_if (pt_cmpR (ne0K (K := c.K) hr) (pe_d d_cross_spans hr (by rfl) (pa_cons (pe_m m_added T.row.cl hr (pv 2) (pa_cons (pv 3) pa_nil)) (pa_cons (pv 1) pa_nil))) (pe_callTy (tupleK (K := c.K)) (by rfl) T.b_tuple (by decide +kernel) (pa_cons (pe_lc (own := [("_law_mine", 11), ("_law_more", 12)]) (g := gTup _ 2 (gCons (gName 11) (gCons (gName 12) gNil))) (by rfl) sc__law_sums_right.nd (pi_seq (pv 9)) (blkOk_by (N := ["_law_hand_here", "_law_one", "_law_other", "_law_third", "_law_due", "_law_taken", "_law_number", "_law_its", "_law_added", "_law_back", "_law_span", "_law_mine", "_law_more"]) (sc := defScope s__law_sums_right) (by decide +kernel)) (fun _ _ _ _ _ => (pg_tup rfl (pgs_cons (pg_name (i := 11) sc__law_sums_right.nd rfl (by first | exact .inl rfl | exact .inr rfl)) (pgs_cons (pg_name (i := 12) sc__law_sums_right.nd rfl (by first | exact .inl rfl | exact .inr rfl)) pgs_nil)))) (fun _ _ _ _ _ => pts_nil) (fun _ _ _ _ _ => (pe_op (opAddK (K := c.K)) (pv 11) (pv 12)))) pa_nil)) (nomark _)) (pss_one (ps_ret pe_bl)) pss_nil)
 (pss_cons (ps_set (i := 5) sc__law_sums_right.nd rfl (by first | exact .inl rfl | exact .inr rfl) (pe_callTy (tupleK (K := c.K)) (by rfl) T.b_tuple (by decide +kernel) (pa_cons (pe_lc (own := [("_law_span", 10)]) (g := gName 10) (by rfl) sc__law_sums_right.nd (pi_seq (pv 4)) (blkOk_by (N := ["_law_hand_here", "_law_one", "_law_other", "_law_third", "_law_due", "_law_taken", "_law_number", "_law_its", "_law_added", "_law_back", "_law_span", "_law_mine", "_law_more"]) (sc := defScope s__law_sums_right) (by decide +kernel)) (fun _ _ _ _ _ => (pg_name (i := 10) sc__law_sums_right.nd rfl (by first | exact .inl rfl | exact .inr rfl))) (fun _ _ _ _ _ => pts_nil) (fun _ _ _ _ _ => (pe_op (opMulK (K := c.K)) (pv 6) (pv 10)))) pa_nil)))
 (pss_cons (ps_if (PW.pt (pw_or (pt_cmpR (ne0K (K := c.K) hr) (pe_d d_cross_spans hr (by rfl) (pa_cons (pe_m m_times T.row.cl hr (pv 1) (pa_cons (pv 6) pa_nil)) (pa_cons (pv 2) pa_nil))) (pv 5) (nomark _)) (pw_or1 (pt_cmpR (ne0K (K := c.K) hr) (pe_d d_cross_spans hr (by rfl) (pa_cons (pv 1) (pa_cons (pe_m m_times T.row.cl hr (pv 2) (pa_cons (pv 6) pa_nil)) pa_nil))) (pv 5) (nomark _))))) (pss_one (ps_ret pe_bl)) pss_nil)
 (pss_cons (ps_if (PW.pt (pw_or (pt_cmpR (ne0K (K := c.K) hr) (pe_d d_cross_spans hr (by rfl) (pa_cons (pe_m0 m_left_out T.row.cl hr (pv 1)) (pa_cons (pv 2) pa_nil))) (pe_callTy (tupleK (K := c.K)) (by rfl) T.b_tuple (by decide +kernel) (pa_cons (pe_lc (own := [("_law_span", 10)]) (g := gName 10) (by rfl) sc__law_sums_right.nd (pi_seq (pv 4)) (blkOk_by (N := ["_law_hand_here", "_law_one", "_law_other", "_law_third", "_law_due", "_law_taken", "_law_number", "_law_its", "_law_added", "_law_back", "_law_span", "_law_mine", "_law_more"]) (sc := defScope s__law_sums_right) (by decide +kernel)) (fun _ _ _ _ _ => (pg_name (i := 10) sc__law_sums_right.nd rfl (by first | exact .inl rfl | exact .inr rfl))) (fun _ _ _ _ _ => pts_nil) (fun _ _ _ _ _ => (pe_op opSub (fldK (K := c.K) (pv 2) (by rfl)) (pv 10)))) pa_nil)) (nomark _)) (pw_or1 (pt_cmpR (ne0K (K := c.K) hr) (pe_callB (sumK (K := c.K)) (by rfl) T.b_sum (by decide +kernel) (pa_cons (pv 4) pa_nil)) (pe_op (opMulK (K := c.K)) (fldK (K := c.K) (pv 1) (by rfl)) (fldK (K := c.K) (pv 2) (by rfl))) (nomark _))))) (pss_one (ps_ret pe_bl)) pss_nil)
 (pss_one (ps_ret (pe_cmpR (eq0K (K := c.K) hr) (pe_d d_cross_spans hr (by rfl) (pa_cons (pv 1) (pa_cons (pe_m0 m_left_out T.row.cl hr (pv 2)) pa_nil))) (pe_callTy (tupleK (K := c.K)) (by rfl) T.b_tuple (by decide +kernel) (pa_cons (pe_lc (own := [("_law_span", 10)]) (g := gName 10) (by rfl) sc__law_sums_right.nd (pi_seq (pv 4)) (blkOk_by (N := ["_law_hand_here", "_law_one", "_law_other", "_law_third", "_law_due", "_law_taken", "_law_number", "_law_its", "_law_added", "_law_back", "_law_span", "_law_mine", "_law_more"]) (sc := defScope s__law_sums_right) (by decide +kernel)) (fun _ _ _ _ _ => (pg_name (i := 10) sc__law_sums_right.nd rfl (by first | exact .inl rfl | exact .inr rfl))) (fun _ _ _ _ _ => pts_nil) (fun _ _ _ _ _ => (pe_op opSub (fldK (K := c.K) (pv 1) (by rfl)) (pv 10)))) pa_nil)) (nomark _))))))))))), _, (sndS_seq (sndS_asg (snd_tup (sndA_cons (snd_call l__law_pick (sndA_cons snd_var (sndA_cons (snd_lst (sndA_cons snd_int (sndA_cons snd_int (sndA_cons (snd_un sndU_neg snd_int) (sndA_cons snd_int sndA_nil))))) sndA_nil))) (sndA_cons (snd_call l_cross_spans (sndA_cons snd_var (sndA_cons snd_var sndA_nil))) sndA_nil))) (sndG_tup (sndGs_cons sndG_name (sndGs_cons sndG_name sndGs_nil))))
 (sndS_seq (sndS_par (sndA_cons (snd_cb sndC_tuple (sndA_cons (snd_lc (sndI_zip (sndA_cons snd_var (sndA_cons snd_var sndA_nil))) (sndG_tup (sndGs_cons sndG_name (sndGs_cons sndG_name sndGs_nil))) (okT_pair (by decide) (by decide)) sndT_yes (snd_op sndR_add snd_var snd_var)) sndA_nil)) (sndA_cons (snd_lz (sndA_cons (snd_call l_cross_spans (sndA_cons snd_var (sndA_cons snd_var sndA_nil))) (sndA_cons (snd_call l_cross_spans (sndA_cons snd_var (sndA_cons snd_var sndA_nil))) sndA_nil))) sndA_nil)))
 (sndS_seq (sndS_if (sndT_test (snd_op sndR_ne0 (snd_call l_cross_spans (sndA_cons snd_var (sndA_cons (snd_meth (by decide +kernel) l_added snd_var (sndA_cons snd_var sndA_nil)) sndA_nil))) snd_var)) (sndS_ret snd_bl) sndS_next)
 (sndS_seq (sndS_if (sndT_test (snd_op sndR_ne0 (snd_call l_cross_spans (sndA_cons (snd_meth (by decide +kernel) l_added snd_var (sndA_cons snd_var sndA_nil)) (sndA_cons snd_var sndA_nil))) (snd_cb sndC_tuple (sndA_cons (snd_lc (sndI_seq snd_var) (sndG_tup (sndGs_cons sndG_name (sndGs_cons sndG_name sndGs_nil))) (okT_pair (by decide) (by decide)) sndT_yes (snd_op sndR_add snd_var snd_var)) sndA_nil)))) (sndS_ret snd_bl) sndS_next)
 (sndS_seq (sndS_asg (snd_cb sndC_tuple (sndA_cons (snd_lc (sndI_seq snd_var) sndG_name (okT_name (by decide)) sndT_yes (snd_op sndR_mul snd_var snd_var)) sndA_nil)) sndG_name)
 (sndS_seq (sndS_if (sndT_or (sndT_test (snd_op sndR_ne0 (snd_call l_cross_spans (sndA_cons (snd_meth (by decide +kernel) l_times snd_var (sndA_cons snd_var sndA_nil)) (sndA_cons snd_var sndA_nil))) snd_var)) (sndT_test (snd_op sndR_ne0 (snd_call l_cross_spans (sndA_cons snd_var (sndA_cons (snd_meth (by decide +kernel) l_times snd_var (sndA_cons snd_var sndA_nil)) sndA_nil))) snd_var))) (sndS_ret snd_bl) sndS_next)
 (sndS_seq (sndS_if (sndT_or (sndT_test (snd_op sndR_ne0 (snd_call l_cross_spans (sndA_cons (snd_meth (by decide +kernel) l_left_out snd_var sndA_nil) (sndA_cons snd_var sndA_nil))) (snd_cb sndC_tuple (sndA_cons (snd_lc (sndI_seq snd_var) sndG_name (okT_name (by decide)) sndT_yes (snd_op sndR_sub (snd_total T.row snd_var) snd_var)) sndA_nil)))) (sndT_test (snd_op sndR_ne0 (snd_cb sndC_sum (sndA_cons snd_var sndA_nil)) (snd_op sndR_mul (snd_total T.row snd_var) (snd_total T.row snd_var))))) (sndS_ret snd_bl) sndS_next)
 (sndS_ret (snd_op sndR_eq0 (snd_call l_cross_spans (sndA_cons snd_var (sndA_cons (snd_meth (by decide +kernel) l_left_out snd_var sndA_nil) sndA_nil))) (snd_cb sndC_tuple (sndA_cons (snd_lc (sndI_seq snd_var) sndG_name (okT_name (by decide)) sndT_yes (snd_op sndR_sub (snd_total T.row snd_var) snd_var)) sndA_nil))))))))))), fun ds n Q h hl => ?_⟩)
  unfold F__law_sums_right at h
  split at h
  · rename_i a b e ys
    obtain ⟨rfl, h1, h2, h3, sa, sb, se, hn, q⟩ := h
    have h24 := h1.2
    have h02 := h1.1
    have hb : Rk b := rk_of h1 h2.symm
    have he : Rk e := rk_of h1 h3.symm
    have h0 : 0 < a.length := by omega
    have l2 : (spn a b).length = (spn a e).length := by rw [spn_len, spn_len]
    have l3 : (spn b a).length = (spn e a).length := by rw [spn_len, spn_len]; omega
    have zl : ((spn a b).zip (spn a e)).length < 100000 := by rw [List.length_zip, spn_len, spn_len]; omega
    have swA : Sw (List.zipWith (· + ·) b e) := fun x hx => by
      obtain ⟨i, hi, rfl⟩ := List.mem_iff_getElem.mp hx
      rw [List.length_zipWith] at hi
      have b1 := sb _ (List.getElem_mem (show i < b.length by omega))
      have e1 := se _ (List.getElem_mem (show i < e.length by omega))
      rw [List.getElem_zipWith]
      constructor <;> omega
    have lA : (List.zipWith (· + ·) b e).length = a.length := by rw [List.length_zipWith]; omega
    simp only [wSeq, wNext, wRet, wRetN, wNever, wDrop, wIfS, wAsg, gwName, dv_gtup, dv_gunl, dv_gcons, dv_gnil, wPar, wPar3, wAug, wSetO, wAugO, wApp, wVar, wC, wOp, wUn, asBl, wAnd, wOr, wNot, wAndV, wOrV, wNotV, wIf, wNil, wCons, wTup, wLst, wLstO, wCB, wCall, wCallK1, wMeth, wRel, wMk, wPen0, wPen1, wPen2, wPenS1, wPenS2, wSMeth, dv_make, wRowF, wSl, woNo, woSome, wChain, wYes, wIsi2,
    dv_add_int, dv_add_lst, dv_add_tup, dv_mul_int, dv_mul_lst, dv_mul_tup, rdMulO, dv_i0, dv_i2, rdNeg, rdSl, dv_int_int, dv_int_bl, dv_abs, dv_ne0_lst0, dv_eq0_lst0, rdList, rdListO, rdIsi, dv_eq_row, dv_ne_row, dv_eq_tup, dv_ne_tup, dv_ne_tup0, dv_eq_lst, dv_ne_lst, dv_eq_int, dv_ne_int, dv_eq0_tup, dv_eq0_int, dv_ne0_int, dv_ne0_tup, dv_mk_lst, dv_mk_tup, dv_sum_lst, dv_sum_tup, dv_tuple_lst, dv_tuple_tup, dv_len_lst, dv_len_tup, dv_all, frzL_ints,  rdIs, rdIsNot, Dp.isNon, seqOf, seqI, frz, startD, kg, isiD_non, isiD_bl, isiD_int, isiD_str, isiD_lst, isiD_tup, isiD2_non, isiD2_bl, isiD2_int, isiD2_str, isiD2_lst, isiD2_tup, kb_non_int, kb_bl_int, kb_int_int, kb_str_int, kb_lst_int, kb_tup_int, kb_non_bool, kb_bl_bool, kb_int_bool, kb_str_str, kb_int_str, kb2_non, kb2_bl, kb2_int, kb2_str, kb2_lst, kb2_tup, isi_row_int, isi_row_list, isi_row_tuple, isi_row_str, isi2_row,
    List.map_cons, List.map_nil, List.length_cons, List.length_nil, List.getElem?_cons_zero, List.getElem?_cons_succ, List.set_cons_zero, List.set_cons_succ, List.replicate_succ, List.replicate_zero, List.cons_append, List.nil_append, List.append_nil, Nat.zero_add, Nat.reduceAdd, Nat.reduceSub, List.tail_cons, wipeE, wiRng1, wiRng2, wiSeq, wiEnum, wiZip,
    exists_eq_left, exists_eq_left', exists_eq_right, exists_eq_right', Option.some.injEq, D.int.injEq, D.bl.injEq, D.str.injEq, D.lst.injEq, D.tup.injEq, D.row.injEq, D.own.injEq, D.adr.injEq, D.ty.injEq, reduceCtorEq, List.cons.injEq, true_and, and_true, false_and, and_false, or_false, false_or, exists_false, if_true, if_false, Bool.not_true, Bool.not_false, Bool.false_eq_true, and_self, true_or, or_true, exists_and_left, exists_and_right, ite_true, ite_false, exists_const, exists_eq, exists_eq', decide_true, decide_false, Bool.not_true, Bool.not_false, F__law_pick, lp_cross]
    refine ⟨by decide, by decide, by decide, hn, fun x n' hx g3 => ?_⟩
    obtain ⟨i, rfl, i1, i2⟩ := within_ok (B := 10) (by decide) hx
    refine ⟨h1, h3, sm_sw se, by decide, rfl, ?_⟩
    refine lc_map (μ1 := []) (n1 := n') ((spn a b).zip (spn a e)) (fun z => .tup [.int z.1, .int z.2]) (fun z => .int (z.1 + z.2)) (fun k q => ?_) zl (fun z p acc J _ _ hJ => ?_) ?_
    · simp only [wSeq, wNext, wRet, wRetN, wNever, wDrop, wIfS, wAsg, gwName, dv_gtup, dv_gunl, dv_gcons, dv_gnil, wPar, wPar3, wAug, wSetO, wAugO, wApp, wVar, wC, wOp, wUn, asBl, wAnd, wOr, wNot, wAndV, wOrV, wNotV, wIf, wNil, wCons, wTup, wLst, wLstO, wCB, wCall, wCallK1, wMeth, wRel, wMk, wPen0, wPen1, wPen2, wPenS1, wPenS2, wSMeth, dv_make, wRowF, wSl, woNo, woSome, wChain, wYes, wIsi2,
    dv_add_int, dv_add_lst, dv_add_tup, dv_mul_int, dv_mul_lst, dv_mul_tup, rdMulO, dv_i0, dv_i2, rdNeg, rdSl, dv_int_int, dv_int_bl, dv_abs, dv_ne0_lst0, dv_eq0_lst0, rdList, rdListO, rdIsi, dv_eq_row, dv_ne_row, dv_eq_tup, dv_ne_tup, dv_ne_tup0, dv_eq_lst, dv_ne_lst, dv_eq_int, dv_ne_int, dv_eq0_tup, dv_eq0_int, dv_ne0_int, dv_ne0_tup, dv_mk_lst, dv_mk_tup, dv_sum_lst, dv_sum_tup, dv_tuple_lst, dv_tuple_tup, dv_len_lst, dv_len_tup, dv_all, frzL_ints,  rdIs, rdIsNot, Dp.isNon, seqOf, seqI, frz, startD, kg, isiD_non, isiD_bl, isiD_int, isiD_str, isiD_lst, isiD_tup, isiD2_non, isiD2_bl, isiD2_int, isiD2_str, isiD2_lst, isiD2_tup, kb_non_int, kb_bl_int, kb_int_int, kb_str_int, kb_lst_int, kb_tup_int, kb_non_bool, kb_bl_bool, kb_int_bool, kb_str_str, kb_int_str, kb2_non, kb2_bl, kb2_int, kb2_str, kb2_lst, kb2_tup, isi_row_int, isi_row_list, isi_row_tuple, isi_row_str, isi2_row,
    List.map_cons, List.map_nil, List.length_cons, List.length_nil, List.getElem?_cons_zero, List.getElem?_cons_succ, List.set_cons_zero, List.set_cons_succ, List.replicate_succ, List.replicate_zero, List.cons_append, List.nil_append, List.append_nil, Nat.zero_add, Nat.reduceAdd, Nat.reduceSub, List.tail_cons, wipeE, wiRng1, wiRng2, wiSeq, wiEnum, wiZip,
    exists_eq_left, exists_eq_left', exists_eq_right, exists_eq_right', Option.some.injEq, D.int.injEq, D.bl.injEq, D.str.injEq, D.lst.injEq, D.tup.injEq, D.row.injEq, D.own.injEq, D.adr.injEq, D.ty.injEq, reduceCtorEq, List.cons.injEq, true_and, and_true, false_and, and_false, or_false, false_or, exists_false, if_true, if_false, Bool.not_true, Bool.not_false, Bool.false_eq_true, and_self, true_or, or_true, exists_and_left, exists_and_right, ite_true, ite_false, exists_const, exists_eq, exists_eq', decide_true, decide_false, Bool.not_true, Bool.not_false, wiZip]
      exact ⟨_, _, ⟨rfl, rfl⟩, by rw [zip_ints l2]; exact q⟩
    · simp only [wSeq, wNext, wRet, wRetN, wNever, wDrop, wIfS, wAsg, gwName, dv_gtup, dv_gunl, dv_gcons, dv_gnil, wPar, wPar3, wAug, wSetO, wAugO, wApp, wVar, wC, wOp, wUn, asBl, wAnd, wOr, wNot, wAndV, wOrV, wNotV, wIf, wNil, wCons, wTup, wLst, wLstO, wCB, wCall, wCallK1, wMeth, wRel, wMk, wPen0, wPen1, wPen2, wPenS1, wPenS2, wSMeth, dv_make, wRowF, wSl, woNo, woSome, wChain, wYes, wIsi2,
    dv_add_int, dv_add_lst, dv_add_tup, dv_mul_int, dv_mul_lst, dv_mul_tup, rdMulO, dv_i0, dv_i2, rdNeg, rdSl, dv_int_int, dv_int_bl, dv_abs, dv_ne0_lst0, dv_eq0_lst0, rdList, rdListO, rdIsi, dv_eq_row, dv_ne_row, dv_eq_tup, dv_ne_tup, dv_ne_tup0, dv_eq_lst, dv_ne_lst, dv_eq_int, dv_ne_int, dv_eq0_tup, dv_eq0_int, dv_ne0_int, dv_ne0_tup, dv_mk_lst, dv_mk_tup, dv_sum_lst, dv_sum_tup, dv_tuple_lst, dv_tuple_tup, dv_len_lst, dv_len_tup, dv_all, frzL_ints,  rdIs, rdIsNot, Dp.isNon, seqOf, seqI, frz, startD, kg, isiD_non, isiD_bl, isiD_int, isiD_str, isiD_lst, isiD_tup, isiD2_non, isiD2_bl, isiD2_int, isiD2_str, isiD2_lst, isiD2_tup, kb_non_int, kb_bl_int, kb_int_int, kb_str_int, kb_lst_int, kb_tup_int, kb_non_bool, kb_bl_bool, kb_int_bool, kb_str_str, kb_int_str, kb2_non, kb2_bl, kb2_int, kb2_str, kb2_lst, kb2_tup, isi_row_int, isi_row_list, isi_row_tuple, isi_row_str, isi2_row,
    List.map_cons, List.map_nil, List.length_cons, List.length_nil, List.getElem?_cons_zero, List.getElem?_cons_succ, List.set_cons_zero, List.set_cons_succ, List.replicate_succ, List.replicate_zero, List.cons_append, List.nil_append, List.append_nil, Nat.zero_add, Nat.reduceAdd, Nat.reduceSub, List.tail_cons, wipeE, wiRng1, wiRng2, wiSeq, wiEnum, wiZip,
    exists_eq_left, exists_eq_left', exists_eq_right, exists_eq_right', Option.some.injEq, D.int.injEq, D.bl.injEq, D.str.injEq, D.lst.injEq, D.tup.injEq, D.row.injEq, D.own.injEq, D.adr.injEq, D.ty.injEq, reduceCtorEq, List.cons.injEq, true_and, and_true, false_and, and_false, or_false, false_or, exists_false, if_true, if_false, Bool.not_true, Bool.not_false, Bool.false_eq_true, and_self, true_or, or_true, exists_and_left, exists_and_right, ite_true, ite_false, exists_const, exists_eq, exists_eq', decide_true, decide_false, Bool.not_true, Bool.not_false]; first | exact hJ | exact ⟨rfl, hJ⟩
    rw [zip_sum]
    simp only [wSeq, wNext, wRet, wRetN, wNever, wDrop, wIfS, wAsg, gwName, dv_gtup, dv_gunl, dv_gcons, dv_gnil, wPar, wPar3, wAug, wSetO, wAugO, wApp, wVar, wC, wOp, wUn, asBl, wAnd, wOr, wNot, wAndV, wOrV, wNotV, wIf, wNil, wCons, wTup, wLst, wLstO, wCB, wCall, wCallK1, wMeth, wRel, wMk, wPen0, wPen1, wPen2, wPenS1, wPenS2, wSMeth, dv_make, wRowF, wSl, woNo, woSome, wChain, wYes, wIsi2,
    dv_add_int, dv_add_lst, dv_add_tup, dv_mul_int, dv_mul_lst, dv_mul_tup, rdMulO, dv_i0, dv_i2, rdNeg, rdSl, dv_int_int, dv_int_bl, dv_abs, dv_ne0_lst0, dv_eq0_lst0, rdList, rdListO, rdIsi, dv_eq_row, dv_ne_row, dv_eq_tup, dv_ne_tup, dv_ne_tup0, dv_eq_lst, dv_ne_lst, dv_eq_int, dv_ne_int, dv_eq0_tup, dv_eq0_int, dv_ne0_int, dv_ne0_tup, dv_mk_lst, dv_mk_tup, dv_sum_lst, dv_sum_tup, dv_tuple_lst, dv_tuple_tup, dv_len_lst, dv_len_tup, dv_all, frzL_ints,  rdIs, rdIsNot, Dp.isNon, seqOf, seqI, frz, startD, kg, isiD_non, isiD_bl, isiD_int, isiD_str, isiD_lst, isiD_tup, isiD2_non, isiD2_bl, isiD2_int, isiD2_str, isiD2_lst, isiD2_tup, kb_non_int, kb_bl_int, kb_int_int, kb_str_int, kb_lst_int, kb_tup_int, kb_non_bool, kb_bl_bool, kb_int_bool, kb_str_str, kb_int_str, kb2_non, kb2_bl, kb2_int, kb2_str, kb2_lst, kb2_tup, isi_row_int, isi_row_list, isi_row_tuple, isi_row_str, isi2_row,
    List.map_cons, List.map_nil, List.length_cons, List.length_nil, List.getElem?_cons_zero, List.getElem?_cons_succ, List.set_cons_zero, List.set_cons_succ, List.replicate_succ, List.replicate_zero, List.cons_append, List.nil_append, List.append_nil, Nat.zero_add, Nat.reduceAdd, Nat.reduceSub, List.tail_cons, wipeE, wiRng1, wiRng2, wiSeq, wiEnum, wiZip,
    exists_eq_left, exists_eq_left', exists_eq_right, exists_eq_right', Option.some.injEq, D.int.injEq, D.bl.injEq, D.str.injEq, D.lst.injEq, D.tup.injEq, D.row.injEq, D.own.injEq, D.adr.injEq, D.ty.injEq, reduceCtorEq, List.cons.injEq, true_and, and_true, false_and, and_false, or_false, false_or, exists_false, if_true, if_false, Bool.not_true, Bool.not_false, Bool.false_eq_true, and_self, true_or, or_true, exists_and_left, exists_and_right, ite_true, ite_false, exists_const, exists_eq, exists_eq', decide_true, decide_false, Bool.not_true, Bool.not_false, wLZ, lp_cross, lp_added]
    refine ⟨hb, h2.symm, sm_sw sa, he, h3.symm, sm_sw sa, _, _, ⟨rfl, rfl⟩, by rw [List.length_map, spn_len]; omega, by rw [List.length_map, spn_len]; omega, _, _, ⟨rfl, rfl⟩, hb, by omega, h1, lA.symm, swA, ?_⟩
    simp only [wSeq, wNext, wRet, wRetN, wNever, wDrop, wIfS, wAsg, gwName, dv_gtup, dv_gunl, dv_gcons, dv_gnil, wPar, wPar3, wAug, wSetO, wAugO, wApp, wVar, wC, wOp, wUn, asBl, wAnd, wOr, wNot, wAndV, wOrV, wNotV, wIf, wNil, wCons, wTup, wLst, wLstO, wCB, wCall, wCallK1, wMeth, wRel, wMk, wPen0, wPen1, wPen2, wPenS1, wPenS2, wSMeth, dv_make, wRowF, wSl, woNo, woSome, wChain, wYes, wIsi2,
    dv_add_int, dv_add_lst, dv_add_tup, dv_mul_int, dv_mul_lst, dv_mul_tup, rdMulO, dv_i0, dv_i2, rdNeg, rdSl, dv_int_int, dv_int_bl, dv_abs, dv_ne0_lst0, dv_eq0_lst0, rdList, rdListO, rdIsi, dv_eq_row, dv_ne_row, dv_eq_tup, dv_ne_tup, dv_ne_tup0, dv_eq_lst, dv_ne_lst, dv_eq_int, dv_ne_int, dv_eq0_tup, dv_eq0_int, dv_ne0_int, dv_ne0_tup, dv_mk_lst, dv_mk_tup, dv_sum_lst, dv_sum_tup, dv_tuple_lst, dv_tuple_tup, dv_len_lst, dv_len_tup, dv_all, frzL_ints,  rdIs, rdIsNot, Dp.isNon, seqOf, seqI, frz, startD, kg, isiD_non, isiD_bl, isiD_int, isiD_str, isiD_lst, isiD_tup, isiD2_non, isiD2_bl, isiD2_int, isiD2_str, isiD2_lst, isiD2_tup, kb_non_int, kb_bl_int, kb_int_int, kb_str_int, kb_lst_int, kb_tup_int, kb_non_bool, kb_bl_bool, kb_int_bool, kb_str_str, kb_int_str, kb2_non, kb2_bl, kb2_int, kb2_str, kb2_lst, kb2_tup, isi_row_int, isi_row_list, isi_row_tuple, isi_row_str, isi2_row,
    List.map_cons, List.map_nil, List.length_cons, List.length_nil, List.getElem?_cons_zero, List.getElem?_cons_succ, List.set_cons_zero, List.set_cons_succ, List.replicate_succ, List.replicate_zero, List.cons_append, List.nil_append, List.append_nil, Nat.zero_add, Nat.reduceAdd, Nat.reduceSub, List.tail_cons, wipeE, wiRng1, wiRng2, wiSeq, wiEnum, wiZip,
    exists_eq_left, exists_eq_left', exists_eq_right, exists_eq_right', Option.some.injEq, D.int.injEq, D.bl.injEq, D.str.injEq, D.lst.injEq, D.tup.injEq, D.row.injEq, D.own.injEq, D.adr.injEq, D.ty.injEq, reduceCtorEq, List.cons.injEq, true_and, and_true, false_and, and_false, or_false, false_or, exists_false, if_true, if_false, Bool.not_true, Bool.not_false, Bool.false_eq_true, and_self, true_or, or_true, exists_and_left, exists_and_right, ite_true, ite_false, exists_const, exists_eq, exists_eq', decide_true, decide_false, Bool.not_true, Bool.not_false]
    rw [spn_addR h2 (by omega), if_neg (by simp)]
    refine ⟨hb, by omega, rk_of h1 lA, lA, sm_sw sa, ?_⟩
    rw [zip_ints l3]
    refine lc_map (μ1 := []) (n1 := n') ((spn b a).zip (spn e a)) (fun z => .tup [.int z.1, .int z.2]) (fun z => .int (z.1 + z.2)) (fun k q => ?_) (by rw [List.length_zip, spn_len, spn_len]; omega) (fun z p acc J _ _ hJ => ?_) ?_
    · simp only [wSeq, wNext, wRet, wRetN, wNever, wDrop, wIfS, wAsg, gwName, dv_gtup, dv_gunl, dv_gcons, dv_gnil, wPar, wPar3, wAug, wSetO, wAugO, wApp, wVar, wC, wOp, wUn, asBl, wAnd, wOr, wNot, wAndV, wOrV, wNotV, wIf, wNil, wCons, wTup, wLst, wLstO, wCB, wCall, wCallK1, wMeth, wRel, wMk, wPen0, wPen1, wPen2, wPenS1, wPenS2, wSMeth, dv_make, wRowF, wSl, woNo, woSome, wChain, wYes, wIsi2,
    dv_add_int, dv_add_lst, dv_add_tup, dv_mul_int, dv_mul_lst, dv_mul_tup, rdMulO, dv_i0, dv_i2, rdNeg, rdSl, dv_int_int, dv_int_bl, dv_abs, dv_ne0_lst0, dv_eq0_lst0, rdList, rdListO, rdIsi, dv_eq_row, dv_ne_row, dv_eq_tup, dv_ne_tup, dv_ne_tup0, dv_eq_lst, dv_ne_lst, dv_eq_int, dv_ne_int, dv_eq0_tup, dv_eq0_int, dv_ne0_int, dv_ne0_tup, dv_mk_lst, dv_mk_tup, dv_sum_lst, dv_sum_tup, dv_tuple_lst, dv_tuple_tup, dv_len_lst, dv_len_tup, dv_all, frzL_ints,  rdIs, rdIsNot, Dp.isNon, seqOf, seqI, frz, startD, kg, isiD_non, isiD_bl, isiD_int, isiD_str, isiD_lst, isiD_tup, isiD2_non, isiD2_bl, isiD2_int, isiD2_str, isiD2_lst, isiD2_tup, kb_non_int, kb_bl_int, kb_int_int, kb_str_int, kb_lst_int, kb_tup_int, kb_non_bool, kb_bl_bool, kb_int_bool, kb_str_str, kb_int_str, kb2_non, kb2_bl, kb2_int, kb2_str, kb2_lst, kb2_tup, isi_row_int, isi_row_list, isi_row_tuple, isi_row_str, isi2_row,
    List.map_cons, List.map_nil, List.length_cons, List.length_nil, List.getElem?_cons_zero, List.getElem?_cons_succ, List.set_cons_zero, List.set_cons_succ, List.replicate_succ, List.replicate_zero, List.cons_append, List.nil_append, List.append_nil, Nat.zero_add, Nat.reduceAdd, Nat.reduceSub, List.tail_cons, wipeE, wiRng1, wiRng2, wiSeq, wiEnum, wiZip,
    exists_eq_left, exists_eq_left', exists_eq_right, exists_eq_right', Option.some.injEq, D.int.injEq, D.bl.injEq, D.str.injEq, D.lst.injEq, D.tup.injEq, D.row.injEq, D.own.injEq, D.adr.injEq, D.ty.injEq, reduceCtorEq, List.cons.injEq, true_and, and_true, false_and, and_false, or_false, false_or, exists_false, if_true, if_false, Bool.not_true, Bool.not_false, Bool.false_eq_true, and_self, true_or, or_true, exists_and_left, exists_and_right, ite_true, ite_false, exists_const, exists_eq, exists_eq', decide_true, decide_false, Bool.not_true, Bool.not_false, wiSeq]; exact q
    · simp only [wSeq, wNext, wRet, wRetN, wNever, wDrop, wIfS, wAsg, gwName, dv_gtup, dv_gunl, dv_gcons, dv_gnil, wPar, wPar3, wAug, wSetO, wAugO, wApp, wVar, wC, wOp, wUn, asBl, wAnd, wOr, wNot, wAndV, wOrV, wNotV, wIf, wNil, wCons, wTup, wLst, wLstO, wCB, wCall, wCallK1, wMeth, wRel, wMk, wPen0, wPen1, wPen2, wPenS1, wPenS2, wSMeth, dv_make, wRowF, wSl, woNo, woSome, wChain, wYes, wIsi2,
    dv_add_int, dv_add_lst, dv_add_tup, dv_mul_int, dv_mul_lst, dv_mul_tup, rdMulO, dv_i0, dv_i2, rdNeg, rdSl, dv_int_int, dv_int_bl, dv_abs, dv_ne0_lst0, dv_eq0_lst0, rdList, rdListO, rdIsi, dv_eq_row, dv_ne_row, dv_eq_tup, dv_ne_tup, dv_ne_tup0, dv_eq_lst, dv_ne_lst, dv_eq_int, dv_ne_int, dv_eq0_tup, dv_eq0_int, dv_ne0_int, dv_ne0_tup, dv_mk_lst, dv_mk_tup, dv_sum_lst, dv_sum_tup, dv_tuple_lst, dv_tuple_tup, dv_len_lst, dv_len_tup, dv_all, frzL_ints,  rdIs, rdIsNot, Dp.isNon, seqOf, seqI, frz, startD, kg, isiD_non, isiD_bl, isiD_int, isiD_str, isiD_lst, isiD_tup, isiD2_non, isiD2_bl, isiD2_int, isiD2_str, isiD2_lst, isiD2_tup, kb_non_int, kb_bl_int, kb_int_int, kb_str_int, kb_lst_int, kb_tup_int, kb_non_bool, kb_bl_bool, kb_int_bool, kb_str_str, kb_int_str, kb2_non, kb2_bl, kb2_int, kb2_str, kb2_lst, kb2_tup, isi_row_int, isi_row_list, isi_row_tuple, isi_row_str, isi2_row,
    List.map_cons, List.map_nil, List.length_cons, List.length_nil, List.getElem?_cons_zero, List.getElem?_cons_succ, List.set_cons_zero, List.set_cons_succ, List.replicate_succ, List.replicate_zero, List.cons_append, List.nil_append, List.append_nil, Nat.zero_add, Nat.reduceAdd, Nat.reduceSub, List.tail_cons, wipeE, wiRng1, wiRng2, wiSeq, wiEnum, wiZip,
    exists_eq_left, exists_eq_left', exists_eq_right, exists_eq_right', Option.some.injEq, D.int.injEq, D.bl.injEq, D.str.injEq, D.lst.injEq, D.tup.injEq, D.row.injEq, D.own.injEq, D.adr.injEq, D.ty.injEq, reduceCtorEq, List.cons.injEq, true_and, and_true, false_and, and_false, or_false, false_or, exists_false, if_true, if_false, Bool.not_true, Bool.not_false, Bool.false_eq_true, and_self, true_or, or_true, exists_and_left, exists_and_right, ite_true, ite_false, exists_const, exists_eq, exists_eq', decide_true, decide_false, Bool.not_true, Bool.not_false]; first | exact hJ | exact ⟨rfl, hJ⟩
    rw [zip_sum]
    simp only [wSeq, wNext, wRet, wRetN, wNever, wDrop, wIfS, wAsg, gwName, dv_gtup, dv_gunl, dv_gcons, dv_gnil, wPar, wPar3, wAug, wSetO, wAugO, wApp, wVar, wC, wOp, wUn, asBl, wAnd, wOr, wNot, wAndV, wOrV, wNotV, wIf, wNil, wCons, wTup, wLst, wLstO, wCB, wCall, wCallK1, wMeth, wRel, wMk, wPen0, wPen1, wPen2, wPenS1, wPenS2, wSMeth, dv_make, wRowF, wSl, woNo, woSome, wChain, wYes, wIsi2,
    dv_add_int, dv_add_lst, dv_add_tup, dv_mul_int, dv_mul_lst, dv_mul_tup, rdMulO, dv_i0, dv_i2, rdNeg, rdSl, dv_int_int, dv_int_bl, dv_abs, dv_ne0_lst0, dv_eq0_lst0, rdList, rdListO, rdIsi, dv_eq_row, dv_ne_row, dv_eq_tup, dv_ne_tup, dv_ne_tup0, dv_eq_lst, dv_ne_lst, dv_eq_int, dv_ne_int, dv_eq0_tup, dv_eq0_int, dv_ne0_int, dv_ne0_tup, dv_mk_lst, dv_mk_tup, dv_sum_lst, dv_sum_tup, dv_tuple_lst, dv_tuple_tup, dv_len_lst, dv_len_tup, dv_all, frzL_ints,  rdIs, rdIsNot, Dp.isNon, seqOf, seqI, frz, startD, kg, isiD_non, isiD_bl, isiD_int, isiD_str, isiD_lst, isiD_tup, isiD2_non, isiD2_bl, isiD2_int, isiD2_str, isiD2_lst, isiD2_tup, kb_non_int, kb_bl_int, kb_int_int, kb_str_int, kb_lst_int, kb_tup_int, kb_non_bool, kb_bl_bool, kb_int_bool, kb_str_str, kb_int_str, kb2_non, kb2_bl, kb2_int, kb2_str, kb2_lst, kb2_tup, isi_row_int, isi_row_list, isi_row_tuple, isi_row_str, isi2_row,
    List.map_cons, List.map_nil, List.length_cons, List.length_nil, List.getElem?_cons_zero, List.getElem?_cons_succ, List.set_cons_zero, List.set_cons_succ, List.replicate_succ, List.replicate_zero, List.cons_append, List.nil_append, List.append_nil, Nat.zero_add, Nat.reduceAdd, Nat.reduceSub, List.tail_cons, wipeE, wiRng1, wiRng2, wiSeq, wiEnum, wiZip,
    exists_eq_left, exists_eq_left', exists_eq_right, exists_eq_right', Option.some.injEq, D.int.injEq, D.bl.injEq, D.str.injEq, D.lst.injEq, D.tup.injEq, D.row.injEq, D.own.injEq, D.adr.injEq, D.ty.injEq, reduceCtorEq, List.cons.injEq, true_and, and_true, false_and, and_false, or_false, false_or, exists_false, if_true, if_false, Bool.not_true, Bool.not_false, Bool.false_eq_true, and_self, true_or, or_true, exists_and_left, exists_and_right, ite_true, ite_false, exists_const, exists_eq, exists_eq', decide_true, decide_false, Bool.not_true, Bool.not_false]
    rw [spn_addL h2 (by omega), if_neg (by simp)]
    refine lc_map (μ1 := []) (n1 := n') (spn a b) (fun z => .int z) (fun z => .int (i * z)) (fun k q => ?_) (by rw [spn_len]; omega) (fun z p acc J _ _ hJ => ?_) ?_
    · simp only [wSeq, wNext, wRet, wRetN, wNever, wDrop, wIfS, wAsg, gwName, dv_gtup, dv_gunl, dv_gcons, dv_gnil, wPar, wPar3, wAug, wSetO, wAugO, wApp, wVar, wC, wOp, wUn, asBl, wAnd, wOr, wNot, wAndV, wOrV, wNotV, wIf, wNil, wCons, wTup, wLst, wLstO, wCB, wCall, wCallK1, wMeth, wRel, wMk, wPen0, wPen1, wPen2, wPenS1, wPenS2, wSMeth, dv_make, wRowF, wSl, woNo, woSome, wChain, wYes, wIsi2,
    dv_add_int, dv_add_lst, dv_add_tup, dv_mul_int, dv_mul_lst, dv_mul_tup, rdMulO, dv_i0, dv_i2, rdNeg, rdSl, dv_int_int, dv_int_bl, dv_abs, dv_ne0_lst0, dv_eq0_lst0, rdList, rdListO, rdIsi, dv_eq_row, dv_ne_row, dv_eq_tup, dv_ne_tup, dv_ne_tup0, dv_eq_lst, dv_ne_lst, dv_eq_int, dv_ne_int, dv_eq0_tup, dv_eq0_int, dv_ne0_int, dv_ne0_tup, dv_mk_lst, dv_mk_tup, dv_sum_lst, dv_sum_tup, dv_tuple_lst, dv_tuple_tup, dv_len_lst, dv_len_tup, dv_all, frzL_ints,  rdIs, rdIsNot, Dp.isNon, seqOf, seqI, frz, startD, kg, isiD_non, isiD_bl, isiD_int, isiD_str, isiD_lst, isiD_tup, isiD2_non, isiD2_bl, isiD2_int, isiD2_str, isiD2_lst, isiD2_tup, kb_non_int, kb_bl_int, kb_int_int, kb_str_int, kb_lst_int, kb_tup_int, kb_non_bool, kb_bl_bool, kb_int_bool, kb_str_str, kb_int_str, kb2_non, kb2_bl, kb2_int, kb2_str, kb2_lst, kb2_tup, isi_row_int, isi_row_list, isi_row_tuple, isi_row_str, isi2_row,
    List.map_cons, List.map_nil, List.length_cons, List.length_nil, List.getElem?_cons_zero, List.getElem?_cons_succ, List.set_cons_zero, List.set_cons_succ, List.replicate_succ, List.replicate_zero, List.cons_append, List.nil_append, List.append_nil, Nat.zero_add, Nat.reduceAdd, Nat.reduceSub, List.tail_cons, wipeE, wiRng1, wiRng2, wiSeq, wiEnum, wiZip,
    exists_eq_left, exists_eq_left', exists_eq_right, exists_eq_right', Option.some.injEq, D.int.injEq, D.bl.injEq, D.str.injEq, D.lst.injEq, D.tup.injEq, D.row.injEq, D.own.injEq, D.adr.injEq, D.ty.injEq, reduceCtorEq, List.cons.injEq, true_and, and_true, false_and, and_false, or_false, false_or, exists_false, if_true, if_false, Bool.not_true, Bool.not_false, Bool.false_eq_true, and_self, true_or, or_true, exists_and_left, exists_and_right, ite_true, ite_false, exists_const, exists_eq, exists_eq', decide_true, decide_false, Bool.not_true, Bool.not_false, wiSeq]; exact q
    · simp only [wSeq, wNext, wRet, wRetN, wNever, wDrop, wIfS, wAsg, gwName, dv_gtup, dv_gunl, dv_gcons, dv_gnil, wPar, wPar3, wAug, wSetO, wAugO, wApp, wVar, wC, wOp, wUn, asBl, wAnd, wOr, wNot, wAndV, wOrV, wNotV, wIf, wNil, wCons, wTup, wLst, wLstO, wCB, wCall, wCallK1, wMeth, wRel, wMk, wPen0, wPen1, wPen2, wPenS1, wPenS2, wSMeth, dv_make, wRowF, wSl, woNo, woSome, wChain, wYes, wIsi2,
    dv_add_int, dv_add_lst, dv_add_tup, dv_mul_int, dv_mul_lst, dv_mul_tup, rdMulO, dv_i0, dv_i2, rdNeg, rdSl, dv_int_int, dv_int_bl, dv_abs, dv_ne0_lst0, dv_eq0_lst0, rdList, rdListO, rdIsi, dv_eq_row, dv_ne_row, dv_eq_tup, dv_ne_tup, dv_ne_tup0, dv_eq_lst, dv_ne_lst, dv_eq_int, dv_ne_int, dv_eq0_tup, dv_eq0_int, dv_ne0_int, dv_ne0_tup, dv_mk_lst, dv_mk_tup, dv_sum_lst, dv_sum_tup, dv_tuple_lst, dv_tuple_tup, dv_len_lst, dv_len_tup, dv_all, frzL_ints,  rdIs, rdIsNot, Dp.isNon, seqOf, seqI, frz, startD, kg, isiD_non, isiD_bl, isiD_int, isiD_str, isiD_lst, isiD_tup, isiD2_non, isiD2_bl, isiD2_int, isiD2_str, isiD2_lst, isiD2_tup, kb_non_int, kb_bl_int, kb_int_int, kb_str_int, kb_lst_int, kb_tup_int, kb_non_bool, kb_bl_bool, kb_int_bool, kb_str_str, kb_int_str, kb2_non, kb2_bl, kb2_int, kb2_str, kb2_lst, kb2_tup, isi_row_int, isi_row_list, isi_row_tuple, isi_row_str, isi2_row,
    List.map_cons, List.map_nil, List.length_cons, List.length_nil, List.getElem?_cons_zero, List.getElem?_cons_succ, List.set_cons_zero, List.set_cons_succ, List.replicate_succ, List.replicate_zero, List.cons_append, List.nil_append, List.append_nil, Nat.zero_add, Nat.reduceAdd, Nat.reduceSub, List.tail_cons, wipeE, wiRng1, wiRng2, wiSeq, wiEnum, wiZip,
    exists_eq_left, exists_eq_left', exists_eq_right, exists_eq_right', Option.some.injEq, D.int.injEq, D.bl.injEq, D.str.injEq, D.lst.injEq, D.tup.injEq, D.row.injEq, D.own.injEq, D.adr.injEq, D.ty.injEq, reduceCtorEq, List.cons.injEq, true_and, and_true, false_and, and_false, or_false, false_or, exists_false, if_true, if_false, Bool.not_true, Bool.not_false, Bool.false_eq_true, and_self, true_or, or_true, exists_and_left, exists_and_right, ite_true, ite_false, exists_const, exists_eq, exists_eq', decide_true, decide_false, Bool.not_true, Bool.not_false]; exact ⟨.inl (.inl (by constructor <;> omega)), by first | exact hJ | exact ⟨rfl, hJ⟩⟩
    rw [show (spn a b).map (fun z => D.int (i * z)) = ((spn a b).map fun z => i * z).map D.int by rw [List.map_map]; rfl]
    simp only [wSeq, wNext, wRet, wRetN, wNever, wDrop, wIfS, wAsg, gwName, dv_gtup, dv_gunl, dv_gcons, dv_gnil, wPar, wPar3, wAug, wSetO, wAugO, wApp, wVar, wC, wOp, wUn, asBl, wAnd, wOr, wNot, wAndV, wOrV, wNotV, wIf, wNil, wCons, wTup, wLst, wLstO, wCB, wCall, wCallK1, wMeth, wRel, wMk, wPen0, wPen1, wPen2, wPenS1, wPenS2, wSMeth, dv_make, wRowF, wSl, woNo, woSome, wChain, wYes, wIsi2,
    dv_add_int, dv_add_lst, dv_add_tup, dv_mul_int, dv_mul_lst, dv_mul_tup, rdMulO, dv_i0, dv_i2, rdNeg, rdSl, dv_int_int, dv_int_bl, dv_abs, dv_ne0_lst0, dv_eq0_lst0, rdList, rdListO, rdIsi, dv_eq_row, dv_ne_row, dv_eq_tup, dv_ne_tup, dv_ne_tup0, dv_eq_lst, dv_ne_lst, dv_eq_int, dv_ne_int, dv_eq0_tup, dv_eq0_int, dv_ne0_int, dv_ne0_tup, dv_mk_lst, dv_mk_tup, dv_sum_lst, dv_sum_tup, dv_tuple_lst, dv_tuple_tup, dv_len_lst, dv_len_tup, dv_all, frzL_ints,  rdIs, rdIsNot, Dp.isNon, seqOf, seqI, frz, startD, kg, isiD_non, isiD_bl, isiD_int, isiD_str, isiD_lst, isiD_tup, isiD2_non, isiD2_bl, isiD2_int, isiD2_str, isiD2_lst, isiD2_tup, kb_non_int, kb_bl_int, kb_int_int, kb_str_int, kb_lst_int, kb_tup_int, kb_non_bool, kb_bl_bool, kb_int_bool, kb_str_str, kb_int_str, kb2_non, kb2_bl, kb2_int, kb2_str, kb2_lst, kb2_tup, isi_row_int, isi_row_list, isi_row_tuple, isi_row_str, isi2_row,
    List.map_cons, List.map_nil, List.length_cons, List.length_nil, List.getElem?_cons_zero, List.getElem?_cons_succ, List.set_cons_zero, List.set_cons_succ, List.replicate_succ, List.replicate_zero, List.cons_append, List.nil_append, List.append_nil, Nat.zero_add, Nat.reduceAdd, Nat.reduceSub, List.tail_cons, wipeE, wiRng1, wiRng2, wiSeq, wiEnum, wiZip,
    exists_eq_left, exists_eq_left', exists_eq_right, exists_eq_right', Option.some.injEq, D.int.injEq, D.bl.injEq, D.str.injEq, D.lst.injEq, D.tup.injEq, D.row.injEq, D.own.injEq, D.adr.injEq, D.ty.injEq, reduceCtorEq, List.cons.injEq, true_and, and_true, false_and, and_false, or_false, false_or, exists_false, if_true, if_false, Bool.not_true, Bool.not_false, Bool.false_eq_true, and_self, true_or, or_true, exists_and_left, exists_and_right, ite_true, ite_false, exists_const, exists_eq, exists_eq', decide_true, decide_false, Bool.not_true, Bool.not_false, F_times, lp_cross]
    have swT : Sw (b.map fun x => x * i) := fun x hx => by
      obtain ⟨y, hy, rfl⟩ := List.mem_map.mp hx
      have := mul_bound (sb y hy) ⟨i1, i2⟩
      constructor <;> omega
    have swO : Sw (b.map fun x => 1 - x) := fun x hx => by
      obtain ⟨y, hy, rfl⟩ := List.mem_map.mp hx
      have := sb y hy
      constructor <;> omega
    have mk : Rk (a.map fun x => x * i) := rk_of h1 (by rw [List.length_map])
    refine ⟨h1, by constructor <;> omega, mk, by rw [List.length_map, h2], sm_sw sb, ?_⟩
    rw [spn_mapL h2, if_neg (by simp)]
    refine ⟨hb, by constructor <;> omega, h1, by rw [List.length_map, h2], swT, ?_⟩
    rw [spn_mapR h2, if_neg (by simp)]
    simp only [lp_left, lp_cross]
    refine ⟨h1, rk_of h1 (by rw [List.length_map]), by rw [List.length_map, h2], sm_sw sb, ?_⟩
    refine lc_map (μ1 := []) (n1 := n') (spn a b) (fun z => .int z) (fun z => .int (b.sum - z)) (fun k q => ?_) (by rw [spn_len]; omega) (fun z p acc J _ _ hJ => ?_) ?_
    · simp only [wSeq, wNext, wRet, wRetN, wNever, wDrop, wIfS, wAsg, gwName, dv_gtup, dv_gunl, dv_gcons, dv_gnil, wPar, wPar3, wAug, wSetO, wAugO, wApp, wVar, wC, wOp, wUn, asBl, wAnd, wOr, wNot, wAndV, wOrV, wNotV, wIf, wNil, wCons, wTup, wLst, wLstO, wCB, wCall, wCallK1, wMeth, wRel, wMk, wPen0, wPen1, wPen2, wPenS1, wPenS2, wSMeth, dv_make, wRowF, wSl, woNo, woSome, wChain, wYes, wIsi2,
    dv_add_int, dv_add_lst, dv_add_tup, dv_mul_int, dv_mul_lst, dv_mul_tup, rdMulO, dv_i0, dv_i2, rdNeg, rdSl, dv_int_int, dv_int_bl, dv_abs, dv_ne0_lst0, dv_eq0_lst0, rdList, rdListO, rdIsi, dv_eq_row, dv_ne_row, dv_eq_tup, dv_ne_tup, dv_ne_tup0, dv_eq_lst, dv_ne_lst, dv_eq_int, dv_ne_int, dv_eq0_tup, dv_eq0_int, dv_ne0_int, dv_ne0_tup, dv_mk_lst, dv_mk_tup, dv_sum_lst, dv_sum_tup, dv_tuple_lst, dv_tuple_tup, dv_len_lst, dv_len_tup, dv_all, frzL_ints,  rdIs, rdIsNot, Dp.isNon, seqOf, seqI, frz, startD, kg, isiD_non, isiD_bl, isiD_int, isiD_str, isiD_lst, isiD_tup, isiD2_non, isiD2_bl, isiD2_int, isiD2_str, isiD2_lst, isiD2_tup, kb_non_int, kb_bl_int, kb_int_int, kb_str_int, kb_lst_int, kb_tup_int, kb_non_bool, kb_bl_bool, kb_int_bool, kb_str_str, kb_int_str, kb2_non, kb2_bl, kb2_int, kb2_str, kb2_lst, kb2_tup, isi_row_int, isi_row_list, isi_row_tuple, isi_row_str, isi2_row,
    List.map_cons, List.map_nil, List.length_cons, List.length_nil, List.getElem?_cons_zero, List.getElem?_cons_succ, List.set_cons_zero, List.set_cons_succ, List.replicate_succ, List.replicate_zero, List.cons_append, List.nil_append, List.append_nil, Nat.zero_add, Nat.reduceAdd, Nat.reduceSub, List.tail_cons, wipeE, wiRng1, wiRng2, wiSeq, wiEnum, wiZip,
    exists_eq_left, exists_eq_left', exists_eq_right, exists_eq_right', Option.some.injEq, D.int.injEq, D.bl.injEq, D.str.injEq, D.lst.injEq, D.tup.injEq, D.row.injEq, D.own.injEq, D.adr.injEq, D.ty.injEq, reduceCtorEq, List.cons.injEq, true_and, and_true, false_and, and_false, or_false, false_or, exists_false, if_true, if_false, Bool.not_true, Bool.not_false, Bool.false_eq_true, and_self, true_or, or_true, exists_and_left, exists_and_right, ite_true, ite_false, exists_const, exists_eq, exists_eq', decide_true, decide_false, Bool.not_true, Bool.not_false, wiSeq]; exact q
    · simp only [wSeq, wNext, wRet, wRetN, wNever, wDrop, wIfS, wAsg, gwName, dv_gtup, dv_gunl, dv_gcons, dv_gnil, wPar, wPar3, wAug, wSetO, wAugO, wApp, wVar, wC, wOp, wUn, asBl, wAnd, wOr, wNot, wAndV, wOrV, wNotV, wIf, wNil, wCons, wTup, wLst, wLstO, wCB, wCall, wCallK1, wMeth, wRel, wMk, wPen0, wPen1, wPen2, wPenS1, wPenS2, wSMeth, dv_make, wRowF, wSl, woNo, woSome, wChain, wYes, wIsi2,
    dv_add_int, dv_add_lst, dv_add_tup, dv_mul_int, dv_mul_lst, dv_mul_tup, rdMulO, dv_i0, dv_i2, rdNeg, rdSl, dv_int_int, dv_int_bl, dv_abs, dv_ne0_lst0, dv_eq0_lst0, rdList, rdListO, rdIsi, dv_eq_row, dv_ne_row, dv_eq_tup, dv_ne_tup, dv_ne_tup0, dv_eq_lst, dv_ne_lst, dv_eq_int, dv_ne_int, dv_eq0_tup, dv_eq0_int, dv_ne0_int, dv_ne0_tup, dv_mk_lst, dv_mk_tup, dv_sum_lst, dv_sum_tup, dv_tuple_lst, dv_tuple_tup, dv_len_lst, dv_len_tup, dv_all, frzL_ints,  rdIs, rdIsNot, Dp.isNon, seqOf, seqI, frz, startD, kg, isiD_non, isiD_bl, isiD_int, isiD_str, isiD_lst, isiD_tup, isiD2_non, isiD2_bl, isiD2_int, isiD2_str, isiD2_lst, isiD2_tup, kb_non_int, kb_bl_int, kb_int_int, kb_str_int, kb_lst_int, kb_tup_int, kb_non_bool, kb_bl_bool, kb_int_bool, kb_str_str, kb_int_str, kb2_non, kb2_bl, kb2_int, kb2_str, kb2_lst, kb2_tup, isi_row_int, isi_row_list, isi_row_tuple, isi_row_str, isi2_row,
    List.map_cons, List.map_nil, List.length_cons, List.length_nil, List.getElem?_cons_zero, List.getElem?_cons_succ, List.set_cons_zero, List.set_cons_succ, List.replicate_succ, List.replicate_zero, List.cons_append, List.nil_append, List.append_nil, Nat.zero_add, Nat.reduceAdd, Nat.reduceSub, List.tail_cons, wipeE, wiRng1, wiRng2, wiSeq, wiEnum, wiZip,
    exists_eq_left, exists_eq_left', exists_eq_right, exists_eq_right', Option.some.injEq, D.int.injEq, D.bl.injEq, D.str.injEq, D.lst.injEq, D.tup.injEq, D.row.injEq, D.own.injEq, D.adr.injEq, D.ty.injEq, reduceCtorEq, List.cons.injEq, true_and, and_true, false_and, and_false, or_false, false_or, exists_false, if_true, if_false, Bool.not_true, Bool.not_false, Bool.false_eq_true, and_self, true_or, or_true, exists_and_left, exists_and_right, ite_true, ite_false, exists_const, exists_eq, exists_eq', decide_true, decide_false, Bool.not_true, Bool.not_false]; first | exact hJ | exact ⟨rfl, hJ⟩
    rw [show (spn a b).map (fun z => D.int (b.sum - z)) = ((spn a b).map fun z => b.sum - z).map D.int by rw [List.map_map]; rfl]
    simp only [wSeq, wNext, wRet, wRetN, wNever, wDrop, wIfS, wAsg, gwName, dv_gtup, dv_gunl, dv_gcons, dv_gnil, wPar, wPar3, wAug, wSetO, wAugO, wApp, wVar, wC, wOp, wUn, asBl, wAnd, wOr, wNot, wAndV, wOrV, wNotV, wIf, wNil, wCons, wTup, wLst, wLstO, wCB, wCall, wCallK1, wMeth, wRel, wMk, wPen0, wPen1, wPen2, wPenS1, wPenS2, wSMeth, dv_make, wRowF, wSl, woNo, woSome, wChain, wYes, wIsi2,
    dv_add_int, dv_add_lst, dv_add_tup, dv_mul_int, dv_mul_lst, dv_mul_tup, rdMulO, dv_i0, dv_i2, rdNeg, rdSl, dv_int_int, dv_int_bl, dv_abs, dv_ne0_lst0, dv_eq0_lst0, rdList, rdListO, rdIsi, dv_eq_row, dv_ne_row, dv_eq_tup, dv_ne_tup, dv_ne_tup0, dv_eq_lst, dv_ne_lst, dv_eq_int, dv_ne_int, dv_eq0_tup, dv_eq0_int, dv_ne0_int, dv_ne0_tup, dv_mk_lst, dv_mk_tup, dv_sum_lst, dv_sum_tup, dv_tuple_lst, dv_tuple_tup, dv_len_lst, dv_len_tup, dv_all, frzL_ints,  rdIs, rdIsNot, Dp.isNon, seqOf, seqI, frz, startD, kg, isiD_non, isiD_bl, isiD_int, isiD_str, isiD_lst, isiD_tup, isiD2_non, isiD2_bl, isiD2_int, isiD2_str, isiD2_lst, isiD2_tup, kb_non_int, kb_bl_int, kb_int_int, kb_str_int, kb_lst_int, kb_tup_int, kb_non_bool, kb_bl_bool, kb_int_bool, kb_str_str, kb_int_str, kb2_non, kb2_bl, kb2_int, kb2_str, kb2_lst, kb2_tup, isi_row_int, isi_row_list, isi_row_tuple, isi_row_str, isi2_row,
    List.map_cons, List.map_nil, List.length_cons, List.length_nil, List.getElem?_cons_zero, List.getElem?_cons_succ, List.set_cons_zero, List.set_cons_succ, List.replicate_succ, List.replicate_zero, List.cons_append, List.nil_append, List.append_nil, Nat.zero_add, Nat.reduceAdd, Nat.reduceSub, List.tail_cons, wipeE, wiRng1, wiRng2, wiSeq, wiEnum, wiZip,
    exists_eq_left, exists_eq_left', exists_eq_right, exists_eq_right', Option.some.injEq, D.int.injEq, D.bl.injEq, D.str.injEq, D.lst.injEq, D.tup.injEq, D.row.injEq, D.own.injEq, D.adr.injEq, D.ty.injEq, reduceCtorEq, List.cons.injEq, true_and, and_true, false_and, and_false, or_false, false_or, exists_false, if_true, if_false, Bool.not_true, Bool.not_false, Bool.false_eq_true, and_self, true_or, or_true, exists_and_left, exists_and_right, ite_true, ite_false, exists_const, exists_eq, exists_eq', decide_true, decide_false, Bool.not_true, Bool.not_false, spn_outL h2 (show 0 < a.length by omega), spn_sum h2]
    have sA : -(4800000 : Int) ≤ a.sum ∧ a.sum ≤ 4800000 := sum_small sa (by omega)
    refine ⟨.inl (.inl (by constructor <;> omega)), hb, h1, by rw [List.length_map, h2], swO, ?_⟩
    refine lc_map (μ1 := []) (n1 := n') (spn a b) (fun z => .int z) (fun z => .int (a.sum - z)) (fun k q => ?_) (by rw [spn_len]; omega) (fun z p acc J _ _ hJ => ?_) ?_
    · simp only [wSeq, wNext, wRet, wRetN, wNever, wDrop, wIfS, wAsg, gwName, dv_gtup, dv_gunl, dv_gcons, dv_gnil, wPar, wPar3, wAug, wSetO, wAugO, wApp, wVar, wC, wOp, wUn, asBl, wAnd, wOr, wNot, wAndV, wOrV, wNotV, wIf, wNil, wCons, wTup, wLst, wLstO, wCB, wCall, wCallK1, wMeth, wRel, wMk, wPen0, wPen1, wPen2, wPenS1, wPenS2, wSMeth, dv_make, wRowF, wSl, woNo, woSome, wChain, wYes, wIsi2,
    dv_add_int, dv_add_lst, dv_add_tup, dv_mul_int, dv_mul_lst, dv_mul_tup, rdMulO, dv_i0, dv_i2, rdNeg, rdSl, dv_int_int, dv_int_bl, dv_abs, dv_ne0_lst0, dv_eq0_lst0, rdList, rdListO, rdIsi, dv_eq_row, dv_ne_row, dv_eq_tup, dv_ne_tup, dv_ne_tup0, dv_eq_lst, dv_ne_lst, dv_eq_int, dv_ne_int, dv_eq0_tup, dv_eq0_int, dv_ne0_int, dv_ne0_tup, dv_mk_lst, dv_mk_tup, dv_sum_lst, dv_sum_tup, dv_tuple_lst, dv_tuple_tup, dv_len_lst, dv_len_tup, dv_all, frzL_ints,  rdIs, rdIsNot, Dp.isNon, seqOf, seqI, frz, startD, kg, isiD_non, isiD_bl, isiD_int, isiD_str, isiD_lst, isiD_tup, isiD2_non, isiD2_bl, isiD2_int, isiD2_str, isiD2_lst, isiD2_tup, kb_non_int, kb_bl_int, kb_int_int, kb_str_int, kb_lst_int, kb_tup_int, kb_non_bool, kb_bl_bool, kb_int_bool, kb_str_str, kb_int_str, kb2_non, kb2_bl, kb2_int, kb2_str, kb2_lst, kb2_tup, isi_row_int, isi_row_list, isi_row_tuple, isi_row_str, isi2_row,
    List.map_cons, List.map_nil, List.length_cons, List.length_nil, List.getElem?_cons_zero, List.getElem?_cons_succ, List.set_cons_zero, List.set_cons_succ, List.replicate_succ, List.replicate_zero, List.cons_append, List.nil_append, List.append_nil, Nat.zero_add, Nat.reduceAdd, Nat.reduceSub, List.tail_cons, wipeE, wiRng1, wiRng2, wiSeq, wiEnum, wiZip,
    exists_eq_left, exists_eq_left', exists_eq_right, exists_eq_right', Option.some.injEq, D.int.injEq, D.bl.injEq, D.str.injEq, D.lst.injEq, D.tup.injEq, D.row.injEq, D.own.injEq, D.adr.injEq, D.ty.injEq, reduceCtorEq, List.cons.injEq, true_and, and_true, false_and, and_false, or_false, false_or, exists_false, if_true, if_false, Bool.not_true, Bool.not_false, Bool.false_eq_true, and_self, true_or, or_true, exists_and_left, exists_and_right, ite_true, ite_false, exists_const, exists_eq, exists_eq', decide_true, decide_false, Bool.not_true, Bool.not_false, wiSeq]; exact q
    · simp only [wSeq, wNext, wRet, wRetN, wNever, wDrop, wIfS, wAsg, gwName, dv_gtup, dv_gunl, dv_gcons, dv_gnil, wPar, wPar3, wAug, wSetO, wAugO, wApp, wVar, wC, wOp, wUn, asBl, wAnd, wOr, wNot, wAndV, wOrV, wNotV, wIf, wNil, wCons, wTup, wLst, wLstO, wCB, wCall, wCallK1, wMeth, wRel, wMk, wPen0, wPen1, wPen2, wPenS1, wPenS2, wSMeth, dv_make, wRowF, wSl, woNo, woSome, wChain, wYes, wIsi2,
    dv_add_int, dv_add_lst, dv_add_tup, dv_mul_int, dv_mul_lst, dv_mul_tup, rdMulO, dv_i0, dv_i2, rdNeg, rdSl, dv_int_int, dv_int_bl, dv_abs, dv_ne0_lst0, dv_eq0_lst0, rdList, rdListO, rdIsi, dv_eq_row, dv_ne_row, dv_eq_tup, dv_ne_tup, dv_ne_tup0, dv_eq_lst, dv_ne_lst, dv_eq_int, dv_ne_int, dv_eq0_tup, dv_eq0_int, dv_ne0_int, dv_ne0_tup, dv_mk_lst, dv_mk_tup, dv_sum_lst, dv_sum_tup, dv_tuple_lst, dv_tuple_tup, dv_len_lst, dv_len_tup, dv_all, frzL_ints,  rdIs, rdIsNot, Dp.isNon, seqOf, seqI, frz, startD, kg, isiD_non, isiD_bl, isiD_int, isiD_str, isiD_lst, isiD_tup, isiD2_non, isiD2_bl, isiD2_int, isiD2_str, isiD2_lst, isiD2_tup, kb_non_int, kb_bl_int, kb_int_int, kb_str_int, kb_lst_int, kb_tup_int, kb_non_bool, kb_bl_bool, kb_int_bool, kb_str_str, kb_int_str, kb2_non, kb2_bl, kb2_int, kb2_str, kb2_lst, kb2_tup, isi_row_int, isi_row_list, isi_row_tuple, isi_row_str, isi2_row,
    List.map_cons, List.map_nil, List.length_cons, List.length_nil, List.getElem?_cons_zero, List.getElem?_cons_succ, List.set_cons_zero, List.set_cons_succ, List.replicate_succ, List.replicate_zero, List.cons_append, List.nil_append, List.append_nil, Nat.zero_add, Nat.reduceAdd, Nat.reduceSub, List.tail_cons, wipeE, wiRng1, wiRng2, wiSeq, wiEnum, wiZip,
    exists_eq_left, exists_eq_left', exists_eq_right, exists_eq_right', Option.some.injEq, D.int.injEq, D.bl.injEq, D.str.injEq, D.lst.injEq, D.tup.injEq, D.row.injEq, D.own.injEq, D.adr.injEq, D.ty.injEq, reduceCtorEq, List.cons.injEq, true_and, and_true, false_and, and_false, or_false, false_or, exists_false, if_true, if_false, Bool.not_true, Bool.not_false, Bool.false_eq_true, and_self, true_or, or_true, exists_and_left, exists_and_right, ite_true, ite_false, exists_const, exists_eq, exists_eq', decide_true, decide_false, Bool.not_true, Bool.not_false]; first | exact hJ | exact ⟨rfl, hJ⟩
    rw [show (spn a b).map (fun z => D.int (a.sum - z)) = ((spn a b).map fun z => a.sum - z).map D.int by rw [List.map_map]; rfl]
    simp only [wSeq, wNext, wRet, wRetN, wNever, wDrop, wIfS, wAsg, gwName, dv_gtup, dv_gunl, dv_gcons, dv_gnil, wPar, wPar3, wAug, wSetO, wAugO, wApp, wVar, wC, wOp, wUn, asBl, wAnd, wOr, wNot, wAndV, wOrV, wNotV, wIf, wNil, wCons, wTup, wLst, wLstO, wCB, wCall, wCallK1, wMeth, wRel, wMk, wPen0, wPen1, wPen2, wPenS1, wPenS2, wSMeth, dv_make, wRowF, wSl, woNo, woSome, wChain, wYes, wIsi2,
    dv_add_int, dv_add_lst, dv_add_tup, dv_mul_int, dv_mul_lst, dv_mul_tup, rdMulO, dv_i0, dv_i2, rdNeg, rdSl, dv_int_int, dv_int_bl, dv_abs, dv_ne0_lst0, dv_eq0_lst0, rdList, rdListO, rdIsi, dv_eq_row, dv_ne_row, dv_eq_tup, dv_ne_tup, dv_ne_tup0, dv_eq_lst, dv_ne_lst, dv_eq_int, dv_ne_int, dv_eq0_tup, dv_eq0_int, dv_ne0_int, dv_ne0_tup, dv_mk_lst, dv_mk_tup, dv_sum_lst, dv_sum_tup, dv_tuple_lst, dv_tuple_tup, dv_len_lst, dv_len_tup, dv_all, frzL_ints,  rdIs, rdIsNot, Dp.isNon, seqOf, seqI, frz, startD, kg, isiD_non, isiD_bl, isiD_int, isiD_str, isiD_lst, isiD_tup, isiD2_non, isiD2_bl, isiD2_int, isiD2_str, isiD2_lst, isiD2_tup, kb_non_int, kb_bl_int, kb_int_int, kb_str_int, kb_lst_int, kb_tup_int, kb_non_bool, kb_bl_bool, kb_int_bool, kb_str_str, kb_int_str, kb2_non, kb2_bl, kb2_int, kb2_str, kb2_lst, kb2_tup, isi_row_int, isi_row_list, isi_row_tuple, isi_row_str, isi2_row,
    List.map_cons, List.map_nil, List.length_cons, List.length_nil, List.getElem?_cons_zero, List.getElem?_cons_succ, List.set_cons_zero, List.set_cons_succ, List.replicate_succ, List.replicate_zero, List.cons_append, List.nil_append, List.append_nil, Nat.zero_add, Nat.reduceAdd, Nat.reduceSub, List.tail_cons, wipeE, wiRng1, wiRng2, wiSeq, wiEnum, wiZip,
    exists_eq_left, exists_eq_left', exists_eq_right, exists_eq_right', Option.some.injEq, D.int.injEq, D.bl.injEq, D.str.injEq, D.lst.injEq, D.tup.injEq, D.row.injEq, D.own.injEq, D.adr.injEq, D.ty.injEq, reduceCtorEq, List.cons.injEq, true_and, and_true, false_and, and_false, or_false, false_or, exists_false, if_true, if_false, Bool.not_true, Bool.not_false, Bool.false_eq_true, and_self, true_or, or_true, exists_and_left, exists_and_right, ite_true, ite_false, exists_const, exists_eq, exists_eq', decide_true, decide_false, Bool.not_true, Bool.not_false, spn_outR h2 (show 0 < a.length by omega)]
    exact q n' g3
  · exact h.elim
end
end K14

set_option Elab.async false
set_option linter.all false
set_option maxRecDepth 100000
set_option maxHeartbeats 4000001

namespace K14
open PySem PySem.Spec PyProof.Rows L2 Dp
section
variable {P : Program} {w : World} {mg : Str → Option Value} {base : Heap} {c : Cb} {f : Addr} {fd : FuncData}
def F__law_refused_right : FD
  | [.pen, .row a], n, Q => Rk a ∧ Sm a ∧ 2 ≤ n ∧ ∀ n', n ≤ n' + 2 → Q (.bl true) n'
  | _, _, _ => False
theorem l__law_refused_right : ∀ ds n Q, F__law_refused_right ds n Q → ds.length = 2 := by intro ds n Q h; unfold F__law_refused_right at h; split at h <;> first | rfl | exact h.elim
def lamQ : Str := ("_law_refused_right" ++ ".<locals>.") ++ "<lambda>"
theorem xone {x y : D} {n : Nat} {Q : D → Nat → Prop} {Qx : Addr → List Str → List D → Nat → Prop} (e : erOk c.K x) (h : isiA c.K c.R x c.R = some false) (q : Qx (He.ga c.K "BadRow") ["part"] [.str "one"] n) : X_cross_spans c [x, y] n Q Qx :=
  ⟨x, y, rfl, x, y, rfl, x, "one", false, rfl, by decide, e, h, by rw [if_neg (by decide)]; exact q⟩
theorem xother {a : List Int} {y : D} {n : Nat} {Q : D → Nat → Prop} {Qx : Addr → List Str → List D → Nat → Prop} (T : Tb c mg) (e : erOk c.K y) (h : isiA c.K c.R y c.R = some false) (q : Qx (He.ga c.K "BadRow") ["part"] [.str "other"] n) : X_cross_spans c [.row a, y] n Q Qx :=
  ⟨.row a, y, rfl, .row a, y, rfl, .row a, "one", true, rfl, by decide, trivial, T.row.kit, by rw [if_pos rfl]; exact ⟨y, "other", false, rfl, by decide, e, h, by rw [if_neg (by decide)]; exact q⟩⟩
theorem xmisfit {a b : List Int} {n : Nat} {Q : D → Nat → Prop} {Qx : Addr → List Str → List D → Nat → Prop} (T : Tb c mg) (h : a.length ≠ b.length) (q : Qx (He.ga c.K "Misfit") ["part"] [.str "beats"] n) : X_cross_spans c [.row a, .row b] n Q Qx :=
  ⟨.row a, .row b, rfl, .row a, .row b, rfl, .row a, "one", true, rfl, by decide, trivial, T.row.kit, by rw [if_pos rfl]; exact ⟨.row b, "other", true, rfl, by decide, trivial, T.row.kit, by rw [if_pos rfl]; exact ⟨a, b, rfl, by rw [if_neg h]; exact q⟩⟩⟩
theorem hd_row {y : Str} {n : Nat} {Qd : D → Nat → Prop} (q : Qd (.tup [.str "row", .str y]) n) : (["part"] : List Str) = (["part"] : List Str) ∧ ∃ (y' s : Str), [D.str y] = [D.str y'] ∧ wordOf c.K (He.ga c.K "BadRow") s ∧ Qd (.tup [.str s, .str y']) n := ⟨rfl, y, "row", rfl, .inl ⟨rfl, rfl⟩, q⟩
theorem hd_fit {y : Str} {n : Nat} {Qd : D → Nat → Prop} (q : Qd (.tup [.str "misfit", .str y]) n) : (["part"] : List Str) = (["part"] : List Str) ∧ ∃ (y' s : Str), [D.str y] = [D.str y'] ∧ wordOf c.K (He.ga c.K "Misfit") s ∧ Qd (.tup [.str s, .str y']) n := ⟨rfl, y, "misfit", rfl, .inr (.inr ⟨rfl, rfl⟩), q⟩
section
variable {ds : Dp.Env} {μ : Mu} {n i j : Nat} {x y : D} {Q : KD}
theorem lam_one (hi : ds[i]? = some (some x)) (hj : ds[j]? = some (some y)) (h : erOk c.K x ∧ isiA c.K c.R x c.R = some false) (q : Q (.tup [.str "row", .str "one"]) μ n) : wLamC (H_heard c.K) (fun Wd => wCallX Wd (X_cross_spans c) (wCons (wVar i) (wCons (wVar j) wNil))) ds μ n Q :=
  ⟨x, hi, y, hj, xone (Q := fun _ _ => True) h.1 h.2 (hd_row (c := c) (Qd := fun d n' => Q d μ n') q)⟩
theorem lam_other {a : List Int} (T : Tb c mg) (hi : ds[i]? = some (some (.row a))) (hj : ds[j]? = some (some y)) (h : erOk c.K y ∧ isiA c.K c.R y c.R = some false) (q : Q (.tup [.str "row", .str "other"]) μ n) : wLamC (H_heard c.K) (fun Wd => wCallX Wd (X_cross_spans c) (wCons (wVar i) (wCons (wVar j) wNil))) ds μ n Q :=
  ⟨_, hi, y, hj, xother (Q := fun _ _ => True) T h.1 h.2 (hd_row (c := c) (Qd := fun d n' => Q d μ n') q)⟩
theorem lam_fit {a b : List Int} (T : Tb c mg) (hi : ds[i]? = some (some (.row a))) (hj : ds[j]? = some (some (.row b))) (h : a.length ≠ b.length) (q : Q (.tup [.str "misfit", .str "beats"]) μ n) : wLamC (H_heard c.K) (fun Wd => wCallX Wd (X_cross_spans c) (wCons (wVar i) (wCons (wVar j) wNil))) ds μ n Q :=
  ⟨_, hi, _, hj, xmisfit (Q := fun _ _ => True) T h (hd_fit (c := c) (Qd := fun d n' => Q d μ n') q)⟩
theorem lam_fitW {a b : List Int} (T : Tb c mg) (hi : ds[i]? = some (some (.row a))) (hj : ds[j]? = some (some (.row b))) (h : b.length ≠ a.length) (q : Q (.tup [.str "misfit", .str "beats"]) μ n) : wLamC (H_heard c.K) (fun Wd => wCallWX Wd (X_cross_spans c) (wCons (wVar i) (wCons (wVar j) wNil))) ds μ n Q :=
  ⟨_, hi, _, hj, xmisfit (Q := fun _ _ => True) T h (hd_fit (c := c) (Qd := fun d n' => Q d μ n') q)⟩
end
theorem ok_refused (Fn : FunD c.K "_law_refused_right" "_law_refused_right" (defArgs s__law_refused_right) (defBody s__law_refused_right) (defScope s__law_refused_right) [] [] f fd) (D0 : Ds P w mg base c) (wx_cross_spans : DnW P w c.K mg base (L2.CX P w) "cross_spans" 8 "one" "other" (spX c 2 (X_cross_spans c))) {gH cc Pt : Addr} {gdH : FuncData} (L__law_heard : FunD c.K "_law_heard" "_law_heard" (defArgs s__law_heard) (defBody s__law_heard) (defScope s__law_heard) [] [] gH gdH)
    (g__law_heard : mg "_law_heard" = some (.ref gH)) (bd__law_heard : Binds c.K gdH ["_law_ask"] []) (TB : LamX.TabB base mg cc Pt) (cT : c.T = [(Pt, lamQ)]) (hf : f = He.fAd c.K ("_law_refused_right", none)) (hcc : He.codeOf c.K ("_law_refused_right", none) = cc) :
    FnOk P w c.K mg base CX0 13 f fd ["_law_hand_here", "_law_one"] (spD c 2 F__law_refused_right) := by
  obtain ⟨T, Xf, n_Row, eq_, m_left_out, m_times, m_added, m_turned, m_mirrored, m_stretched, m_product, d_cross_spans, d_spans, x_cross_spans, d__law_take, d__law_pick, d__law_row, d__law_spans, d__law_divides, d__law_turned⟩ := D0
  refine fn_dC Fn sc__law_refused_right hf hcc (fun A outer s H E hr => ⟨_, (pss_cons (ps_asg (pe_tup (pa_cons (pe_d d__law_pick hr (by rfl) (pa_cons (pv 0) (pa_cons (pe_lst (pa_cons pe_non (pa_cons pe_int (pa_cons pe_str (pa_cons (pe_lst (pa_cons pe_int (pa_cons pe_int pa_nil))) (pa_cons (fldK (K := c.K) (pv 1) (by rfl)) pa_nil)))))) pa_nil))) (pa_cons (pe_d d__law_pick hr (by rfl) (pa_cons (pv 0) (pa_cons (pe_lst (pa_cons pe_str (pa_cons (pe_tup pa_nil) (pa_cons pe_int (pa_cons pe_dnewK pa_nil))))) pa_nil))) pa_nil))) (pg_tup rfl (pgs_cons (pg_name (i := 4) sc__law_refused_right.nd rfl (by first | exact .inl rfl | exact .inr rfl)) (pgs_cons (pg_name (i := 5) sc__law_refused_right.nd rfl (by first | exact .inl rfl | exact .inr rfl)) pgs_nil))))
 (pss_cons (ps_set (i := 2) sc__law_refused_right.nd rfl (by first | exact .inl rfl | exact .inr rfl) (pe_n n_Row hr (by rfl) (pa_cons (pe_op (opMulK (K := c.K)) (pe_lst (pa_cons pe_int pa_nil)) (pe_ifExp (pt_cmpR opLt (fldK (K := c.K) (pv 1) (by rfl)) pe_int (nomark _)) (pe_op (opAddK (K := c.K)) (fldK (K := c.K) (pv 1) (by rfl)) pe_int) pe_int)) pa_nil)))
 (pss_cons (ps_set (i := 3) sc__law_refused_right.nd rfl (by first | exact .inl rfl | exact .inr rfl) (pe_lst (pa_cons (pe_lamD (k := 8) rfl L__law_heard g__law_heard bd__law_heard sc__law_heard (fun _ => gv_heard T Xf rfl rfl) TB cT (hr.mono (by decide)) (fun A outer s H E f c' hr2 => (pe_dx x_cross_spans hr2 (by rfl) (takes_of rfl rfl rfl rfl) (pa_cons (pv 4) (pa_cons (pv 5) pa_nil))))) pa_nil)))
 (pss_cons (ps_expr (pe_bm PySem.F.plainAttrs_list PySem.F.slot_list_append PySem.F.type_list_append mt_append (pv 3) (pa_cons (pe_lamD (k := 8) rfl L__law_heard g__law_heard bd__law_heard sc__law_heard (fun _ => gv_heard T Xf rfl rfl) TB cT (hr.mono (by decide)) (fun A outer s H E f c' hr2 => (pe_dx x_cross_spans hr2 (by rfl) (takes_of rfl rfl rfl rfl) (pa_cons (pv 1) (pa_cons (pv 5) pa_nil))))) pa_nil)))
 (pss_cons (ps_expr (pe_bm PySem.F.plainAttrs_list PySem.F.slot_list_append PySem.F.type_list_append mt_append (pv 3) (pa_cons (pe_lamD (k := 8) rfl L__law_heard g__law_heard bd__law_heard sc__law_heard (fun _ => gv_heard T Xf rfl rfl) TB cT (hr.mono (by decide)) (fun A outer s H E f c' hr2 => (pe_dx x_cross_spans hr2 (by rfl) (takes_of rfl rfl rfl rfl) (pa_cons (pv 2) (pa_cons (pv 5) pa_nil))))) pa_nil)))
 (pss_cons (ps_expr (pe_bm PySem.F.plainAttrs_list PySem.F.slot_list_append PySem.F.type_list_append mt_append (pv 3) (pa_cons (pe_lamD (k := 8) rfl L__law_heard g__law_heard bd__law_heard sc__law_heard (fun _ => gv_heard T Xf rfl rfl) TB cT (hr.mono (by decide)) (fun A outer s H E f c' hr2 => (pe_dx x_cross_spans hr2 (by rfl) (takes_of rfl rfl rfl rfl) (pa_cons (pv 1) (pa_cons (pv 2) pa_nil))))) pa_nil)))
 (pss_cons (ps_expr (pe_bm PySem.F.plainAttrs_list PySem.F.slot_list_append PySem.F.type_list_append mt_append (pv 3) (pa_cons (pe_lamD (k := 8) rfl L__law_heard g__law_heard bd__law_heard sc__law_heard (fun _ => gv_heard T Xf rfl rfl) TB cT (hr.mono (by decide)) (fun A outer s H E f c' hr2 => (pe_dwx wx_cross_spans hr2 (by rfl) (takes_of rfl rfl rfl rfl) (pk_cons (pv 1) (pk_cons (pv 2) pk_nil))))) pa_nil)))
 (pss_one (ps_ret (pe_cmpR (eq0K (K := c.K) hr) (pv 3) (pe_lst (pa_cons (pe_tup (pa_cons pe_str (pa_cons pe_str pa_nil))) (pa_cons (pe_tup (pa_cons pe_str (pa_cons pe_str pa_nil))) (pa_cons (pe_tup (pa_cons pe_str (pa_cons pe_str pa_nil))) (pa_cons (pe_tup (pa_cons pe_str (pa_cons pe_str pa_nil))) (pa_cons (pe_tup (pa_cons pe_str (pa_cons pe_str pa_nil))) pa_nil)))))) (nomark _))))))))))), _, (sndS_seq (sndS_asg (snd_tup (sndA_cons (snd_call l__law_pick (sndA_cons snd_var (sndA_cons (snd_lst (sndA_cons snd_non (sndA_cons snd_int (sndA_cons snd_str (sndA_cons (snd_lst (sndA_cons snd_int (sndA_cons snd_int sndA_nil))) (sndA_cons (snd_numbers T.row snd_var) sndA_nil)))))) sndA_nil))) (sndA_cons (snd_call l__law_pick (sndA_cons snd_var (sndA_cons (snd_lst (sndA_cons snd_str (sndA_cons (snd_tup sndA_nil) (sndA_cons snd_int (sndA_cons snd_dic sndA_nil))))) sndA_nil))) sndA_nil))) (sndG_tup (sndGs_cons sndG_name (sndGs_cons sndG_name sndGs_nil))))
 (sndS_seq (sndS_asg (snd_make (sndA_cons (snd_op sndR_mul (snd_lst (sndA_cons snd_int sndA_nil)) (snd_if (sndT_test (snd_op sndR_lt (snd_many T.row snd_var) snd_int)) (snd_op sndR_add (snd_many T.row snd_var) snd_int) snd_int)) sndA_nil)) sndG_name)
 (sndS_seq (sndS_asg (snd_lstO (sndA_cons (snd_lamC fun E Wd => (snd_callE xl_cross_spans (sndA_cons snd_var (sndA_cons snd_var sndA_nil)))) sndA_nil)) sndG_name)
 (sndS_seq (sndS_app snd_var (snd_lamC fun E Wd => (snd_callE xl_cross_spans (sndA_cons snd_var (sndA_cons snd_var sndA_nil)))))
 (sndS_seq (sndS_app snd_var (snd_lamC fun E Wd => (snd_callE xl_cross_spans (sndA_cons snd_var (sndA_cons snd_var sndA_nil)))))
 (sndS_seq (sndS_app snd_var (snd_lamC fun E Wd => (snd_callE xl_cross_spans (sndA_cons snd_var (sndA_cons snd_var sndA_nil)))))
 (sndS_seq (sndS_app snd_var (snd_lamC fun E Wd => (snd_dwx xl_cross_spans (sndA_cons snd_var (sndA_cons snd_var sndA_nil)))))
 (sndS_ret (snd_op sndR_eq0 snd_var (snd_lst (sndA_cons (snd_tup (sndA_cons snd_str (sndA_cons snd_str sndA_nil))) (sndA_cons (snd_tup (sndA_cons snd_str (sndA_cons snd_str sndA_nil))) (sndA_cons (snd_tup (sndA_cons snd_str (sndA_cons snd_str sndA_nil))) (sndA_cons (snd_tup (sndA_cons snd_str (sndA_cons snd_str sndA_nil))) (sndA_cons (snd_tup (sndA_cons snd_str (sndA_cons snd_str sndA_nil))) sndA_nil))))))))))))))), fun ds n Q h hl => ?_⟩)
  unfold F__law_refused_right at h
  split at h
  · rename_i a
    obtain ⟨h1, sa, hn, q⟩ := h
    have h24 := h1.2
    have h02 := h1.1
    simp only [wCallW, sw2_two, wSeq, wNext, wRet, wRetN, wNever, wDrop, wIfS, wAsg, gwName, dv_gtup, dv_gunl, dv_gcons, dv_gnil, wPar, wPar3, wAug, wSetO, wAugO, wApp, wVar, wC, wOp, wUn, asBl, wAnd, wOr, wNot, wAndV, wOrV, wNotV, wIf, wNil, wCons, wTup, wLst, wLstO, wCB, wCall, wCallK1, wMeth, wRel, wMk, wPen0, wPen1, wPen2, wPenS1, wPenS2, wSMeth, dv_make, wRowF, wSl, woNo, woSome, wChain, wYes, wIsi2,
    dv_add_int, dv_add_lst, dv_add_tup, dv_mul_int, dv_mul_lst, dv_mul_tup, rdMulO, dv_i0, dv_i2, rdNeg, rdSl, dv_int_int, dv_int_bl, dv_abs, dv_ne0_lst0, dv_eq0_lst0, rdList, rdListO, rdIsi, dv_eq_row, dv_ne_row, dv_eq_tup, dv_ne_tup, dv_ne_tup0, dv_eq_lst, dv_ne_lst, dv_eq_int, dv_ne_int, dv_eq0_tup, dv_eq0_int, dv_ne0_int, dv_ne0_tup, dv_mk_lst, dv_mk_tup, dv_sum_lst, dv_sum_tup, dv_tuple_lst, dv_tuple_tup, dv_len_lst, dv_len_tup, dv_all, frzL_ints,  rdIs, rdIsNot, Dp.isNon, seqOf, seqI, frz, startD, kg, isiD_non, isiD_bl, isiD_int, isiD_str, isiD_lst, isiD_tup, isiD2_non, isiD2_bl, isiD2_int, isiD2_str, isiD2_lst, isiD2_tup, kb_non_int, kb_bl_int, kb_int_int, kb_str_int, kb_lst_int, kb_tup_int, kb_non_bool, kb_bl_bool, kb_int_bool, kb_str_str, kb_int_str, kb2_non, kb2_bl, kb2_int, kb2_str, kb2_lst, kb2_tup, isi_row_int, isi_row_list, isi_row_tuple, isi_row_str, isi2_row,
    List.map_cons, List.map_nil, List.length_cons, List.length_nil, List.getElem?_cons_zero, List.getElem?_cons_succ, List.set_cons_zero, List.set_cons_succ, List.replicate_succ, List.replicate_zero, List.cons_append, List.nil_append, List.append_nil, Nat.zero_add, Nat.reduceAdd, Nat.reduceSub, List.tail_cons, wipeE, wiRng1, wiRng2, wiSeq, wiEnum, wiZip,
    exists_eq_left, exists_eq_left', exists_eq_right, exists_eq_right', Option.some.injEq, D.int.injEq, D.bl.injEq, D.str.injEq, D.lst.injEq, D.tup.injEq, D.row.injEq, D.own.injEq, D.adr.injEq, D.ty.injEq, reduceCtorEq, List.cons.injEq, true_and, and_true, false_and, and_false, or_false, false_or, exists_false, if_true, if_false, Bool.not_true, Bool.not_false, Bool.false_eq_true, and_self, true_or, or_true, exists_and_left, exists_and_right, ite_true, ite_false, exists_const, exists_eq, exists_eq', decide_true, decide_false, Bool.not_true, Bool.not_false, F__law_pick, wDic]
    repeat (refine ⟨by first | decide | omega, ?_⟩)
    intro x n1 hx g1
    repeat (refine ⟨by first | decide | omega, ?_⟩)
    intro y n2 hy g2
    have bx : erOk c.K x ∧ isiA c.K c.R x c.R = some false := by
      simp only [List.mem_cons, List.not_mem_nil, or_false] at hx
      rcases hx with rfl | rfl | rfl | rfl | rfl <;> refine ⟨trivial, ?_⟩ <;> simp only [isiA, tyName, Option.bind_some, Xf.kr_NoneType, Xf.kr_int, Xf.kr_str, Xf.kr_list, Xf.kr_tuple]
    have by' : erOk c.K y ∧ isiA c.K c.R y c.R = some false := by
      simp only [List.mem_cons, List.not_mem_nil, or_false] at hy
      rcases hy with rfl | rfl | rfl | rfl <;> refine ⟨trivial, ?_⟩ <;> simp only [isiA, tyName, Option.bind_some, Xf.kr_dict, Xf.kr_int, Xf.kr_str, Xf.kr_tuple]
    repeat (refine ⟨by first | decide | omega | rfl, ?_⟩)
    have rep : ∀ k : Nat, (List.replicate k [D.int 1]).flatten = (List.replicate k (1 : Int)).map D.int := fun k => by rw [rep_one, List.map_replicate]
    have lk : ∀ (p : Addr) (xs : List D), List.lookup p [(p, xs)] = some xs := fun p xs => by simp [List.lookup]
    have lk2 : ∀ (p : Addr) (xs ys : List D), List.lookup p (muSet [(p, xs)] p ys) = some ys := fun p xs ys => by rw [muSet_one]; simp [List.lookup]
    by_cases c24 : a.length < 24
    · rw [if_pos (by rw [decide_eq_true (by omega)])]
      rw [rep, show ((a.length : Int) + 1).toNat = a.length + 1 by omega]
      refine ⟨by omega, by omega, by decide, ?_⟩
      rw [dv_mk (ns := List.replicate (a.length + 1) (1 : Int)) rfl]
      have hb : (List.replicate (a.length + 1) (1 : Int)).length ≠ a.length := by rw [List.length_replicate]; omega
      refine ⟨by rw [List.length_replicate]; omega, by rw [List.length_replicate]; omega, ?_⟩
      revert hb
      generalize List.replicate (a.length + 1) (1 : Int) = b
      intro hb
      refine lam_one rfl rfl bx ⟨by decide, fun p hp => ⟨⟨_, lk _ _⟩, lam_other T rfl rfl by' ⟨_, lk _ _, by decide, ⟨_, lk2 _ _ _⟩, ?_⟩⟩⟩
      simp only [muSet_one, List.cons_append, List.nil_append]
      refine lam_other T rfl rfl by' ⟨_, lk _ _, by decide, ⟨_, lk2 _ _ _⟩, ?_⟩
      simp only [muSet_one, List.cons_append, List.nil_append]
      refine lam_fit T rfl rfl hb.symm ⟨_, lk _ _, by decide, ⟨_, lk2 _ _ _⟩, ?_⟩
      simp only [muSet_one, List.cons_append, List.nil_append]
      refine lam_fitW T rfl rfl hb ⟨_, lk _ _, by decide, ?_⟩
      simp only [muSet_one, List.cons_append, List.nil_append]
      repeat (refine ⟨by decide, ?_⟩)
      have ep : ∀ (p : Addr) (xs : List D), pdOf [(p, xs)] (.own p) = pdOf [] (.lst xs) := fun p xs => by simp only [pdOf, lk]; rfl
      refine ⟨true, ⟨.inl ⟨_, _, by rw [ep]; rfl, rfl, by decide +kernel, by decide +kernel, by decide +kernel⟩, fun _ z => by cases z⟩, q _ (by omega)⟩
    · rw [if_neg (by rw [decide_eq_false (by omega)]; decide)]
      rw [rep]
      refine ⟨by omega, by omega, by decide, ?_⟩
      rw [dv_mk (ns := List.replicate (Int.toNat 2) (1 : Int)) rfl]
      have hb : (List.replicate (Int.toNat 2) (1 : Int)).length ≠ a.length := by rw [List.length_replicate]; omega
      refine ⟨by rw [List.length_replicate]; omega, by rw [List.length_replicate]; omega, ?_⟩
      revert hb
      generalize List.replicate (Int.toNat 2) (1 : Int) = b
      intro hb
      refine lam_one rfl rfl bx ⟨by decide, fun p hp => ⟨⟨_, lk _ _⟩, lam_other T rfl rfl by' ⟨_, lk _ _, by decide, ⟨_, lk2 _ _ _⟩, ?_⟩⟩⟩
      simp only [muSet_one, List.cons_append, List.nil_append]
      refine lam_other T rfl rfl by' ⟨_, lk _ _, by decide, ⟨_, lk2 _ _ _⟩, ?_⟩
      simp only [muSet_one, List.cons_append, List.nil_append]
      refine lam_fit T rfl rfl hb.symm ⟨_, lk _ _, by decide, ⟨_, lk2 _ _ _⟩, ?_⟩
      simp only [muSet_one, List.cons_append, List.nil_append]
      refine lam_fitW T rfl rfl hb ⟨_, lk _ _, by decide, ?_⟩
      simp only [muSet_one, List.cons_append, List.nil_append]
      repeat (refine ⟨by decide, ?_⟩)
      have ep : ∀ (p : Addr) (xs : List D), pdOf [(p, xs)] (.own p) = pdOf [] (.lst xs) := fun p xs => by simp only [pdOf, lk]; rfl
      refine ⟨true, ⟨.inl ⟨_, _, by rw [ep]; rfl, rfl, by decide +kernel, by decide +kernel, by decide +kernel⟩, fun _ z => by cases z⟩, q _ (by omega)⟩
  · exact h.elim
end
end K14

set_option Elab.async false
set_option linter.all false
set_option maxRecDepth 100000
set_option maxHeartbeats 4000001

namespace K14
open PySem PySem.Spec PyProof.Rows L2 Dp
abbrev s__law_hand : Stmt := top 37
theorem sc__law_hand : FnScope ["_law_script", "_law_cell"] ["_law_script"] (defScope s__law_hand) := ⟨rfl, rfl, rfl, by decide +kernel, rfl, by decide +kernel, by decide +kernel⟩
abbrev s_law : Stmt := top 48
theorem sc_law : FnScope ["_law_script", "_law_hand_here", "_law_many", "_law_rows", "_law_due", "_law_told", "_law_by", "_law_stretched", "_law_one", "_law_other", "_law_third", "_law_turn", "_law_numbers", "_law_number", "_law_beat"] ["_law_script"] (defScope s_law) := ⟨rfl, rfl, rfl, by decide +kernel, rfl, by decide +kernel, by decide +kernel⟩
section
variable {P : Program} {w : World} {mg : Str → Option Value} {base : Heap} {c : Cb} {f : Addr} {fd : FuncData}
def spPen (K : PySem.W.Frag) : Sp := fun vs H Q _ => ∃ (l : Addr) (ns : List Int), vs = [.ref l] ∧ SqL K H l (ns.map V.int) ∧ ns.length ≤ 63 ∧
  ∀ t a H', H' t = some (.lst [.ref a, .int 0, .int 0]) → H' a = some (.lst ((ns.take 60).map V.int)) → a ≠ t → (∀ b o, H b = some o → H' b = some o) → Q (.ref t) H'
theorem pen_run {K : PySem.W.Frag} {vs : List V} {H : Hp} {Q : VK} {E : XK} (h : spPen K vs H Q E) :
    tRet (tLst (tCons (tLc (iSeq K (tSl (Dp.rSl K) (tVar 0) tNoPart (tPart (tC (.int 60))))) (gName 1) tYes (tCB rInt1 (tCons (tVar 1) tNil)) [1]) (tCons (tC (.int 0)) (tCons (tC (.int 0)) tNil)))) { nx := fun _ H' => Q .non H', rt := Q } (L2.start ["_law_script", "_law_cell"] vs) H := by
  obtain ⟨l, ns, rfl, hS, hl, q⟩ := h
  have hc : cutV (ns.map V.int) none (some 60) = (ns.take 60).map V.int := by
    unfold cutV
    rw [HT.sIx_none, show (some (60 : Int)) = some ((60 : Nat) : Int) from rfl, HT.sIx_nat, List.drop_zero, Nat.sub_zero, List.length_map, List.map_take]
    rcases Nat.lt_or_ge 60 ns.length with h | h
    · rw [Nat.min_eq_left (by omega)]
    · rw [Nat.min_eq_right h, List.take_of_length_le (by simp), List.take_of_length_le (by simp; omega)]
  refine ⟨_, rfl, 60, rfl, .inl ⟨l, _, rfl, hS, fun p hp => ⟨p, rfl, .inl ⟨⟨_, SqL.of upd_same⟩, fun E hE => ?_⟩⟩⟩⟩
  rw [hc] at hE ⊢
  have hpE : p ≠ E := fun z => by rw [← z, upd_same] at hE; cases hE
  have hlen : (ns.take 60).length ≤ 60 := by rw [List.length_take]; omega
  generalize ns.take 60 = cs at *
  have at_p : ∀ xs, upd (upd H p (.lst (cs.map V.int))) E (.lst xs) p = some (.lst (cs.map V.int)) := fun xs => by rw [upd_ne hpE, upd_same]
  refine ⟨fun i m H' => i ≤ cs.length ∧ m = cs.length - i ∧ H' = upd (upd H p (.lst (cs.map V.int))) E (.lst ((cs.take i).map V.int)), ⟨_, Nat.zero_le _, rfl, rfl⟩, ?_⟩
  rintro i m H' ⟨hi, rfl, rfl⟩
  by_cases hlt : i < cs.length
  · have hz := nt_lt hlt
    refine .inr ⟨⟨_, _, SqL.of (at_p _), by rw [List.getElem?_map, hz]; rfl⟩, fun H'' => H'' = upd (upd H p (.lst (cs.map V.int))) E (.lst ((cs.take (i + 1)).map V.int)), fun H'' e => ⟨_, by omega, by omega, rfl, e⟩, ?_⟩
    rintro x H'' ⟨rfl, hx⟩
    have hx := hx _ (SqL.of (at_p _))
    rw [List.getElem?_map, hz] at hx
    cases hx
    refine ⟨rfl, ?_⟩
    simp only [tYes, if_true]
    refine ⟨_, rfl, ?_⟩
    refine .inl ⟨_, rfl, _, upd_same, sz_lt (by rw [List.length_map, List.length_take]; omega), ?_⟩
    rw [L2.upd_upd, ← take_push hz, List.map_append]; rfl
  · refine .inl ⟨⟨_, SqL.of (at_p _), by rw [List.length_map]; omega⟩, by show 3 ≤ sizeLine; decide, fun t ht => ?_⟩
    have hEt : E ≠ t := fun z => by rw [← z, upd_same] at ht; cases ht
    refine q t E _ upd_same ?_ hEt fun b o hb => ?_
    · rw [upd_ne hEt, upd_same, List.take_of_length_le (by omega)]
    · have hbp : b ≠ p := fun z => by rw [z, hp] at hb; cases hb
      have hbE : b ≠ E := fun z => by rw [upd_ne (Ne.symm hpE), ← z, hb] at hE; cases hE
      have hbt : b ≠ t := fun z => by rw [upd_ne (Ne.symm hEt), upd_ne (fun w => hbp (z.trans w)), ← z, hb] at ht; cases ht
      rw [upd_ne hbt, upd_ne hbE, upd_ne hbp]
      exact hb
theorem ok_pen (Fn : FunD c.K "_law_hand" "_law_hand" (defArgs s__law_hand) (defBody s__law_hand) (defScope s__law_hand) [] [] f fd) (T : Tb c mg) : FnOk P w c.K mg base CX0 2 f fd ["_law_script"] (spPen c.K) := by
  refine fn_raw Fn sc__law_hand (fun vs H Q E h => by obtain ⟨l, ns, rfl, _⟩ := h; rfl) fun cdv A outer s H E hr => ⟨_, (pss_one (ps_ret (pe_lst (pa_cons (pe_lc (own := [("_law_cell", 1)]) (g := gName 1) (by rfl) sc__law_hand.nd (pi_seq (pe_slice (slK (K := c.K)) (pv 0) po_none (po_some pe_int))) (blkOk_by (N := ["_law_script", "_law_cell"]) (sc := defScope s__law_hand) (by decide +kernel)) (fun _ _ _ _ _ => (pg_name (i := 1) sc__law_hand.nd rfl (by first | exact .inl rfl | exact .inr rfl))) (fun _ _ _ _ _ => pts_nil) (fun _ _ _ _ _ => (pe_callTy callInt (by rfl) T.b_int (by decide +kernel) (pa_cons (pv 1) pa_nil)))) (pa_cons pe_int (pa_cons pe_int pa_nil)))))), fun vs Q h => pen_run h⟩
theorem lv_lspans {a b : List Int} {n : Nat} {Q : D → Nat → Prop} : F__law_spans [.lst (a.map D.int), .lst (b.map D.int)] n Q = (Rk a ∧ a.length = b.length ∧ Sm a ∧ Q (.tup ((spn a b).map D.int)) n) :=
  propext ⟨fun ⟨a', b', e1, e2, h⟩ => by rw [map_int_inj e1, map_int_inj e2]; exact h, fun h => ⟨a, b, rfl, rfl, h⟩⟩
def lotD (ms : List Int) : D := .lst (ms.map D.int)
/-- the list of the cells alone -/
def onlyA (p : Addr) (o : HO) : Hp := fun b => if b = p then some o else none
theorem onlyA_at {p : Addr} {o : HO} : onlyA p o p = some o := if_pos rfl
theorem onlyA_ne {p b : Addr} {o : HO} (h : b ≠ p) : onlyA p o b = none := if_neg h
def spLaw (K : PySem.W.Frag) (Pt : Addr) : Sp := fun vs H Q _ => ∃ (a : Addr) (ns : List Int), vs = [.ref a] ∧ SqL K H a (ns.map V.int) ∧ ns.length ≤ 63 ∧ H Pt = some (.tbl #[]) ∧ ∀ H', Q (.bl true) H'
abbrev lawN : List Str := ["_law_script", "_law_hand_here", "_law_many", "_law_rows", "_law_due", "_law_told", "_law_by", "_law_stretched", "_law_one", "_law_other", "_law_third", "_law_turn", "_law_numbers", "_law_number", "_law_beat"]
theorem law_body {cdv : Value} {A : Around} {outer : List PySem.Env} {s : Shared} {H : Hp} {E : XK} {Q : VK} {a Pt : Addr} {ns : List Int} (D0 : Ds P w mg base c)
    (d__law_hand : Dn P w c.K mg base "_law_hand" 2 ["_law_script"] (spPen c.K))
    (w_cross_spans : DnW P w c.K mg base CX0 "cross_spans" 8 "one" "other" (spD c 2 F_cross_spans))
    (d__law_doings_right : Dn P w c.K mg base "_law_doings_right" 10 ["_law_hand_here", "_law_one", "_law_other", "_law_due"] (spD c 4 F__law_doings_right))
    (d__law_sums_right : Dn P w c.K mg base "_law_sums_right" 10 ["_law_hand_here", "_law_one", "_law_other", "_law_third", "_law_due"] (spD c 5 F__law_sums_right))
    (d__law_refused_right : Dn P w c.K mg base "_law_refused_right" 13 ["_law_hand_here", "_law_one"] (spD c 2 F__law_refused_right))
    (hr : Room 14 (A.deeper (envOfC "law" (defScope s_law) s.heap.objs.size f cdv))) (hcells : c.cells = ns.take 60) (cT : c.T = [(Pt, lamQ)]) (hS : SqL c.K H a (ns.map V.int)) (hl : ns.length ≤ 63) (hP : H Pt = some (.tbl #[])) (q : ∀ H', Q (.bl true) H') :
    ∃ t, PSs (cxOf CX0 P w c.K mg base lawN "law" (defScope s_law) f cdv A outer s H E).nox (defBody s_law) t ∧ t { nx := fun _ H' => Q .non H', rt := Q } (L2.start lawN [.ref a]) H := by
  obtain ⟨T, Xf, n_Row, eq_, m_left_out, m_times, m_added, m_turned, m_mirrored, m_stretched, m_product, d_cross_spans, d_spans, x_cross_spans, d__law_take, d__law_pick, d__law_row, d__law_spans, d__law_divides, d__law_turned⟩ := D0
  refine ⟨_, (pss_cons (ps_set (i := 1) sc_law.nd rfl (by first | exact .inl rfl | exact .inr rfl) (pe_d d__law_hand hr (by rfl) (pa_cons (pv 0) pa_nil)))
 (pss_cons (ps_set (i := 2) sc_law.nd rfl (by first | exact .inl rfl | exact .inr rfl) (pe_d d__law_pick hr (by rfl) (pa_cons (pv 1) (pa_cons (pe_lst (pa_cons pe_int (pa_cons pe_int (pa_cons pe_int (pa_cons pe_int (pa_cons pe_int (pa_cons pe_int (pa_cons pe_int (pa_cons pe_int (pa_cons pe_int (pa_cons pe_int (pa_cons pe_int (pa_cons pe_int pa_nil))))))))))))) pa_nil))))
 (pss_cons (ps_setLc (i := 3) (own := [("_law_turn", 11)]) (g := gName 11) (by rfl) sc_law.nd rfl rfl (sw_true rfl rfl rfl (by decide +kernel)) (pi_range1 (by rfl) T.b_range (pa_cons pe_int pa_nil)) (blkOk_by (N := ["_law_script", "_law_hand_here", "_law_many", "_law_rows", "_law_due", "_law_told", "_law_by", "_law_stretched", "_law_one", "_law_other", "_law_third", "_law_turn", "_law_numbers", "_law_number", "_law_beat"]) (sc := defScope s_law) (by decide +kernel)) (fun _ _ _ _ _ => (pg_name (i := 11) sc_law.nd rfl (by first | exact .inl rfl | exact .inr rfl))) (fun _ _ _ _ _ => pts_nil) (fun _ _ _ _ _ => (pe_d d__law_row hr (by rfl) (pa_cons (pv 1) (pa_cons (pv 2) pa_nil)))))
 (pss_cons (ps_asg (pe_lc (own := [("_law_numbers", 12)]) (g := gName 12) (by rfl) sc_law.nd (pi_seq (pv 3)) (blkOk_by (N := ["_law_script", "_law_hand_here", "_law_many", "_law_rows", "_law_due", "_law_told", "_law_by", "_law_stretched", "_law_one", "_law_other", "_law_third", "_law_turn", "_law_numbers", "_law_number", "_law_beat"]) (sc := defScope s_law) (by decide +kernel)) (fun _ _ _ _ _ => (pg_name (i := 12) sc_law.nd rfl (by first | exact .inl rfl | exact .inr rfl))) (fun _ _ _ _ _ => pts_nil) (fun _ _ _ _ _ => (pe_n n_Row hr (by rfl) (pa_cons (pv 12) pa_nil)))) (pg_unl rfl (pgs_cons (pg_name (i := 8) sc_law.nd rfl (by first | exact .inl rfl | exact .inr rfl)) (pgs_cons (pg_name (i := 9) sc_law.nd rfl (by first | exact .inl rfl | exact .inr rfl)) (pgs_cons (pg_name (i := 10) sc_law.nd rfl (by first | exact .inl rfl | exact .inr rfl)) pgs_nil)))))
 (pss_cons (ps_set (i := 4) sc_law.nd rfl (by first | exact .inl rfl | exact .inr rfl) (pe_d d__law_spans hr (by rfl) (pa_cons (pe_ix (ixK (K := c.K)) (pv 3) pe_int (fun _ _ => rfl)) (pa_cons (pe_ix (ixK (K := c.K)) (pv 3) pe_int (fun _ _ => rfl)) pa_nil))))
 (pss_cons (ps_set (i := 5) sc_law.nd rfl (by first | exact .inl rfl | exact .inr rfl) (pe_dw w_cross_spans hr (by rfl) (pk_cons (pv 9) (pk_cons (pv 8) pk_nil))))
 (pss_cons (ps_if (PW.pt (pw_or (pt_not (pt_val (pe_callB (isiK (K := c.K)) (by rfl) T.b_isinstance (by decide +kernel) (pa_cons (pv 5) (pa_cons (pe_bltn (v := .ty "tuple") (u := .type "tuple") (by rfl) T.b_tuple (by decide +kernel) rfl) pa_nil))))) (pw_or (pt_cmpR (neK (K := c.K) eq_ hr) (pv 5) (pv 4) (nomark _)) (pw_or1 (pt_cmpR (neK (K := c.K) eq_ hr) (pe_d d_cross_spans hr (by rfl) (pa_cons (pv 8) (pa_cons (pv 9) pa_nil))) (pv 5) (nomark _)))))) (pss_one (ps_ret pe_bl)) pss_nil)
 (pss_cons (ps_if (PW.pt (pw_or (pt_not (pt_val (pe_d d__law_doings_right hr (by rfl) (pa_cons (pv 1) (pa_cons (pv 8) (pa_cons (pv 9) (pa_cons (pv 4) pa_nil))))))) (pw_or1 (pt_not (pt_val (pe_d d__law_sums_right hr (by rfl) (pa_cons (pv 1) (pa_cons (pv 8) (pa_cons (pv 9) (pa_cons (pv 10) (pa_cons (pv 4) pa_nil))))))))))) (pss_one (ps_ret pe_bl)) pss_nil)
 (pss_cons (ps_set (i := 6) sc_law.nd rfl (by first | exact .inl rfl | exact .inr rfl) (pe_d d__law_pick hr (by rfl) (pa_cons (pv 1) (pa_cons (pe_lc (own := [("_law_number", 13)]) (g := gName 13) (by rfl) sc_law.nd (pi_range2 (by rfl) T.b_range (pa_cons pe_int (pa_cons (pv 2) pa_nil))) (blkOk_by (N := ["_law_script", "_law_hand_here", "_law_many", "_law_rows", "_law_due", "_law_told", "_law_by", "_law_stretched", "_law_one", "_law_other", "_law_third", "_law_turn", "_law_numbers", "_law_number", "_law_beat"]) (sc := defScope s_law) (by decide +kernel)) (fun _ _ _ _ _ => (pg_name (i := 13) sc_law.nd rfl (by first | exact .inl rfl | exact .inr rfl))) (fun _ _ _ _ _ => (pts_one (pt_cmpR (eqK (K := c.K) eq_ hr) (pe_d d__law_divides hr (by rfl) (pa_cons (pv 13) (pa_cons (pv 2) pa_nil))) pe_int (nomark _)))) (fun _ _ _ _ _ => (pv 13))) pa_nil))))
 (pss_cons (ps_set (i := 7) sc_law.nd rfl (by first | exact .inl rfl | exact .inr rfl) (pe_d d_cross_spans hr (by rfl) (pa_cons (pe_m m_stretched T.row.cl hr (pv 8) (pa_cons (pv 6) pa_nil)) (pa_cons (pe_m m_stretched T.row.cl hr (pv 9) (pa_cons (pv 6) pa_nil)) pa_nil))))
 (pss_cons (ps_if (pt_cmpR (neK (K := c.K) eq_ hr) (pe_lc (own := [("_law_beat", 14)]) (g := gName 14) (by rfl) sc_law.nd (pi_range1 (by rfl) T.b_range (pa_cons (pv 2) pa_nil)) (blkOk_by (N := ["_law_script", "_law_hand_here", "_law_many", "_law_rows", "_law_due", "_law_told", "_law_by", "_law_stretched", "_law_one", "_law_other", "_law_third", "_law_turn", "_law_numbers", "_law_number", "_law_beat"]) (sc := defScope s_law) (by decide +kernel)) (fun _ _ _ _ _ => (pg_name (i := 14) sc_law.nd rfl (by first | exact .inl rfl | exact .inr rfl))) (fun _ _ _ _ _ => (pts_one (pt_cmpR (neK (K := c.K) eq_ hr) (pe_ix (ixK (K := c.K)) (pv 7) (pe_op opMod (pe_callTy callInt (by rfl) T.b_int (by decide +kernel) (pa_cons (pe_op (opMulK (K := c.K)) (pv 6) (pv 14)) pa_nil)) (pv 2)) (fun _ _ => rfl)) (pe_ix (ixK (K := c.K)) (pv 4) (pv 14) (fun _ _ => rfl)) (nomark _)))) (fun _ _ _ _ _ => (pv 14))) (pe_lst pa_nil) (nomark _)) (pss_one (ps_ret pe_bl)) pss_nil)
 (pss_one (ps_ret (pe_d d__law_refused_right hr (by rfl) (pa_cons (pv 1) (pa_cons (pv 8) pa_nil)))))))))))))))), ?_⟩
  refine ⟨_, rfl, a, ns, rfl, hS, hl, fun t p H' h1 h2 hne hk => ?_⟩
  have hP' := hk _ _ hP
  have pP : Pt ≠ p := fun z => by rw [z, h2] at hP'; cases hP'
  have fx : ∀ b, Fx c t b → b ≠ p := fun b h => by
    rcases h with h | h
    · rw [h]; exact hne.symm
    · rw [cT, List.map_cons, List.map_nil, List.mem_singleton] at h; rw [h]; exact pP
  have nt0 : Nt (.lst (c.cells.map V.int)) := by intro _ z; cases z
  have st : S c.n t H' (onlyA p (.lst (c.cells.map V.int))) H' (onlyA p (.lst (c.cells.map V.int))) [] 400 := by
    refine ⟨Sb.start (fun b o e => ?_) (fun b h => onlyA_ne (fx b h)) ⟨⟨p, 0, 0, h1, onlyA_at, by decide, by decide, by decide⟩, fun e he => ?_, fun b o e => ?_⟩, trivial⟩
    · by_cases hb : b = p
      · subst hb; rw [onlyA_at] at e; cases e; rw [hcells]; exact h2
      · rw [onlyA_ne hb] at e; cases e
    · rw [cT, List.mem_singleton] at he; subst he; exact LamX.TabS.nil hP'
    · by_cases hb : b = p
      · subst hb; rw [onlyA_at] at e; cases e; exact nt0
      · rw [onlyA_ne hb] at e; cases e
  have rs : RpS c t (onlyA p (.lst (c.cells.map V.int))) ((L2.start lawN [V.ref a]).set 1 (some (.ref t))) [none, some .pen, none, none, none, none, none, none, none, none, none, none, none, none, none] := by
    refine ⟨rfl, fun i d h => ?_⟩
    match i, h with
    | 0, h => cases h
    | 1, h => cases h; exact ⟨_, rfl, by simp only [Rp]⟩
    | 2, h => cases h
    | 3, h => cases h
    | 4, h => cases h
    | 5, h => cases h
    | 6, h => cases h
    | 7, h => cases h
    | 8, h => cases h
    | 9, h => cases h
    | 10, h => cases h
    | 11, h => cases h
    | 12, h => cases h
    | 13, h => cases h
    | 14, h => cases h
    | i + 15, h => simp at h
  refine (sndS_seq (sndS_asg (snd_call l__law_pick (sndA_cons snd_var (sndA_cons (snd_lst (sndA_cons snd_int (sndA_cons snd_int (sndA_cons snd_int (sndA_cons snd_int (sndA_cons snd_int (sndA_cons snd_int (sndA_cons snd_int (sndA_cons snd_int (sndA_cons snd_int (sndA_cons snd_int (sndA_cons snd_int (sndA_cons snd_int sndA_nil))))))))))))) sndA_nil))) sndG_name)
 (sndS_seq (sndS_asg (snd_lc (sndI_rng1 (sndA_cons snd_int sndA_nil)) sndG_name (okT_name (by decide)) sndT_yes (snd_call l__law_row (sndA_cons snd_var (sndA_cons snd_var sndA_nil)))) sndG_name)
 (sndS_seq (sndS_asg (snd_lc (sndI_seq snd_var) sndG_name (okT_name (by decide)) sndT_yes (snd_make (sndA_cons snd_var sndA_nil))) (sndG_unl (sndGs_cons sndG_name (sndGs_cons sndG_name (sndGs_cons sndG_name sndGs_nil)))))
 (sndS_seq (sndS_asg (snd_call l__law_spans (sndA_cons (snd_op sndR_ix snd_var snd_int) (sndA_cons (snd_op sndR_ix snd_var snd_int) sndA_nil))) sndG_name)
 (sndS_seq (sndS_asg (snd_dw l_cross_spans (sndA_cons snd_var (sndA_cons snd_var sndA_nil))) sndG_name)
 (sndS_seq (sndS_if (sndT_or (sndT_not (sndT_B (snd_cb (sndC_isi T.row) (sndA_cons snd_var (sndA_cons snd_ty sndA_nil))))) (sndT_or (sndT_test (snd_op sndR_ne snd_var snd_var)) (sndT_test (snd_op sndR_ne (snd_call l_cross_spans (sndA_cons snd_var (sndA_cons snd_var sndA_nil))) snd_var)))) (sndS_ret snd_bl) sndS_next)
 (sndS_seq (sndS_if (sndT_or (sndT_not (sndT_B (snd_call l__law_doings_right (sndA_cons snd_var (sndA_cons snd_var (sndA_cons snd_var (sndA_cons snd_var sndA_nil))))))) (sndT_not (sndT_B (snd_call l__law_sums_right (sndA_cons snd_var (sndA_cons snd_var (sndA_cons snd_var (sndA_cons snd_var (sndA_cons snd_var sndA_nil))))))))) (sndS_ret snd_bl) sndS_next)
 (sndS_seq (sndS_asg (snd_call l__law_pick (sndA_cons snd_var (sndA_cons (snd_lc (sndI_rng2 (sndA_cons snd_int (sndA_cons snd_var sndA_nil))) sndG_name (okT_name (by decide)) (sndT_test (snd_op sndR_eq (snd_call l__law_divides (sndA_cons snd_var (sndA_cons snd_var sndA_nil))) snd_int)) snd_var) sndA_nil))) sndG_name)
 (sndS_seq (sndS_asg (snd_call l_cross_spans (sndA_cons (snd_meth (by decide +kernel) l_stretched snd_var (sndA_cons snd_var sndA_nil)) (sndA_cons (snd_meth (by decide +kernel) l_stretched snd_var (sndA_cons snd_var sndA_nil)) sndA_nil))) sndG_name)
 (sndS_seq (sndS_if (sndT_test (snd_op sndR_ne (snd_lc (sndI_rng1 (sndA_cons snd_var sndA_nil)) sndG_name (okT_name (by decide)) (sndT_test (snd_op sndR_ne (snd_op sndR_ix snd_var (snd_op sndR_mod (snd_cb sndC_int (sndA_cons (snd_op sndR_mul snd_var snd_var) sndA_nil)) snd_var)) (snd_op sndR_ix snd_var snd_var))) snd_var) (snd_lst sndA_nil))) (sndS_ret snd_bl) sndS_next)
 (sndS_ret (snd_call l__law_refused_right (sndA_cons snd_var (sndA_cons snd_var sndA_nil)))))))))))))) t H' _ H' _ _ _ [] 400 ⟨fun _ _ _ => False, fun d _ => d = .bl true, fun _ _ _ => False, fun _ _ _ => False⟩ _ rs st (fun _ _ _ _ _ _ _ _ h => h.elim) (fun v H2 G2 d n2 s2 rv e => ?_) (fun _ _ _ _ _ _ _ _ h => h.elim) (fun _ _ _ _ _ _ _ _ h => h.elim) ?_
  · subst e
    simp only [Rp] at rv
    subst rv
    exact q _
  · simp only [wCallW, sw2_two, wSeq, wNext, wRet, wRetN, wNever, wDrop, wIfS, wAsg, gwName, dv_gtup, dv_gunl, dv_gcons, dv_gnil, wPar, wPar3, wAug, wSetO, wAugO, wApp, wVar, wC, wOp, wUn, asBl, wAnd, wOr, wNot, wAndV, wOrV, wNotV, wIf, wNil, wCons, wTup, wLst, wLstO, wCB, wCall, wCallK1, wMeth, wRel, wMk, wPen0, wPen1, wPen2, wPenS1, wPenS2, wSMeth, dv_make, wRowF, wSl, woNo, woSome, wChain, wYes, wIsi2,
    dv_add_int, dv_add_lst, dv_add_tup, dv_mul_int, dv_mul_lst, dv_mul_tup, rdMulO, dv_i0, dv_i2, rdNeg, rdSl, dv_int_int, dv_int_bl, dv_abs, dv_ne0_lst0, dv_eq0_lst0, rdList, rdListO, rdIsi, dv_eq_row, dv_ne_row, dv_eq_tup, dv_ne_tup, dv_ne_tup0, dv_eq_lst, dv_ne_lst, dv_eq_int, dv_ne_int, dv_eq0_tup, dv_eq0_int, dv_ne0_int, dv_ne0_tup, dv_mk_lst, dv_mk_tup, dv_sum_lst, dv_sum_tup, dv_tuple_lst, dv_tuple_tup, dv_len_lst, dv_len_tup, dv_all, frzL_ints,  rdIs, rdIsNot, Dp.isNon, seqOf, seqI, frz, startD, kg, isiD_non, isiD_bl, isiD_int, isiD_str, isiD_lst, isiD_tup, isiD2_non, isiD2_bl, isiD2_int, isiD2_str, isiD2_lst, isiD2_tup, kb_non_int, kb_bl_int, kb_int_int, kb_str_int, kb_lst_int, kb_tup_int, kb_non_bool, kb_bl_bool, kb_int_bool, kb_str_str, kb_int_str, kb2_non, kb2_bl, kb2_int, kb2_str, kb2_lst, kb2_tup, isi_row_int, isi_row_list, isi_row_tuple, isi_row_str, isi2_row,
    List.map_cons, List.map_nil, List.length_cons, List.length_nil, List.getElem?_cons_zero, List.getElem?_cons_succ, List.set_cons_zero, List.set_cons_succ, List.replicate_succ, List.replicate_zero, List.cons_append, List.nil_append, List.append_nil, Nat.zero_add, Nat.reduceAdd, Nat.reduceSub, List.tail_cons, wipeE, wiRng1, wiRng2, wiSeq, wiEnum, wiZip,
    exists_eq_left, exists_eq_left', exists_eq_right, exists_eq_right', Option.some.injEq, D.int.injEq, D.bl.injEq, D.str.injEq, D.lst.injEq, D.tup.injEq, D.row.injEq, D.own.injEq, D.adr.injEq, D.ty.injEq, reduceCtorEq, List.cons.injEq, true_and, and_true, false_and, and_false, or_false, false_or, exists_false, if_true, if_false, Bool.not_true, Bool.not_false, Bool.false_eq_true, and_self, true_or, or_true, exists_and_left, exists_and_right, ite_true, ite_false, exists_const, exists_eq, exists_eq', decide_true, decide_false, Bool.not_true, Bool.not_false, F__law_pick]
    refine ⟨by decide, by decide, by decide, by decide, fun x n2 hx hn2 => ?_⟩
    obtain ⟨m, rfl, m1, m2⟩ : ∃ m : Nat, x = .int m ∧ 2 ≤ m ∧ m ≤ 24 := by
      simp only [List.mem_cons, List.mem_nil_iff, or_false] at hx
      rcases hx with rfl | rfl | rfl | rfl | rfl | rfl | rfl | rfl | rfl | rfl | rfl | rfl <;> first | exact ⟨3, rfl, by decide, by decide⟩ | exact ⟨2, rfl, by decide, by decide⟩ | exact ⟨4, rfl, by decide, by decide⟩ | exact ⟨5, rfl, by decide, by decide⟩ | exact ⟨6, rfl, by decide, by decide⟩ | exact ⟨8, rfl, by decide, by decide⟩ | exact ⟨12, rfl, by decide, by decide⟩ | exact ⟨7, rfl, by decide, by decide⟩ | exact ⟨9, rfl, by decide, by decide⟩ | exact ⟨24, rfl, by decide, by decide⟩ | exact ⟨10, rfl, by decide, by decide⟩ | exact ⟨15, rfl, by decide, by decide⟩
    refine lc_j (items := rngD 0 3) (μ1 := []) (n1 := n2) (fun i acc n3 => ∃ rs : List (List Int), acc = rs.map lotD ∧ rs.length = i ∧ (∀ a ∈ rs, a.length = m ∧ Sm a) ∧ n2 ≤ n3 + 60 * i) (fun k q => ?_) (by rw [rngD_len]; decide) ⟨[], rfl, rfl, fun a h => (by cases h), by omega⟩ ?_ ?_
    · simp only [wCallW, sw2_two, wSeq, wNext, wRet, wRetN, wNever, wDrop, wIfS, wAsg, gwName, dv_gtup, dv_gunl, dv_gcons, dv_gnil, wPar, wPar3, wAug, wSetO, wAugO, wApp, wVar, wC, wOp, wUn, asBl, wAnd, wOr, wNot, wAndV, wOrV, wNotV, wIf, wNil, wCons, wTup, wLst, wLstO, wCB, wCall, wCallK1, wMeth, wRel, wMk, wPen0, wPen1, wPen2, wPenS1, wPenS2, wSMeth, dv_make, wRowF, wSl, woNo, woSome, wChain, wYes, wIsi2,
    dv_add_int, dv_add_lst, dv_add_tup, dv_mul_int, dv_mul_lst, dv_mul_tup, rdMulO, dv_i0, dv_i2, rdNeg, rdSl, dv_int_int, dv_int_bl, dv_abs, dv_ne0_lst0, dv_eq0_lst0, rdList, rdListO, rdIsi, dv_eq_row, dv_ne_row, dv_eq_tup, dv_ne_tup, dv_ne_tup0, dv_eq_lst, dv_ne_lst, dv_eq_int, dv_ne_int, dv_eq0_tup, dv_eq0_int, dv_ne0_int, dv_ne0_tup, dv_mk_lst, dv_mk_tup, dv_sum_lst, dv_sum_tup, dv_tuple_lst, dv_tuple_tup, dv_len_lst, dv_len_tup, dv_all, frzL_ints,  rdIs, rdIsNot, Dp.isNon, seqOf, seqI, frz, startD, kg, isiD_non, isiD_bl, isiD_int, isiD_str, isiD_lst, isiD_tup, isiD2_non, isiD2_bl, isiD2_int, isiD2_str, isiD2_lst, isiD2_tup, kb_non_int, kb_bl_int, kb_int_int, kb_str_int, kb_lst_int, kb_tup_int, kb_non_bool, kb_bl_bool, kb_int_bool, kb_str_str, kb_int_str, kb2_non, kb2_bl, kb2_int, kb2_str, kb2_lst, kb2_tup, isi_row_int, isi_row_list, isi_row_tuple, isi_row_str, isi2_row,
    List.map_cons, List.map_nil, List.length_cons, List.length_nil, List.getElem?_cons_zero, List.getElem?_cons_succ, List.set_cons_zero, List.set_cons_succ, List.replicate_succ, List.replicate_zero, List.cons_append, List.nil_append, List.append_nil, Nat.zero_add, Nat.reduceAdd, Nat.reduceSub, List.tail_cons, wipeE, wiRng1, wiRng2, wiSeq, wiEnum, wiZip,
    exists_eq_left, exists_eq_left', exists_eq_right, exists_eq_right', Option.some.injEq, D.int.injEq, D.bl.injEq, D.str.injEq, D.lst.injEq, D.tup.injEq, D.row.injEq, D.own.injEq, D.adr.injEq, D.ty.injEq, reduceCtorEq, List.cons.injEq, true_and, and_true, false_and, and_false, or_false, false_or, exists_false, if_true, if_false, Bool.not_true, Bool.not_false, Bool.false_eq_true, and_self, true_or, or_true, exists_and_left, exists_and_right, ite_true, ite_false, exists_const, exists_eq, exists_eq', decide_true, decide_false, Bool.not_true, Bool.not_false]; exact ⟨by decide, by decide, q⟩
    · rintro i d p acc n3 J hd hi hp ⟨rs, rfl, e1, e2, e3⟩ hJ
      rw [rngD_len] at hi
      simp only [wCallW, sw2_two, wSeq, wNext, wRet, wRetN, wNever, wDrop, wIfS, wAsg, gwName, dv_gtup, dv_gunl, dv_gcons, dv_gnil, wPar, wPar3, wAug, wSetO, wAugO, wApp, wVar, wC, wOp, wUn, asBl, wAnd, wOr, wNot, wAndV, wOrV, wNotV, wIf, wNil, wCons, wTup, wLst, wLstO, wCB, wCall, wCallK1, wMeth, wRel, wMk, wPen0, wPen1, wPen2, wPenS1, wPenS2, wSMeth, dv_make, wRowF, wSl, woNo, woSome, wChain, wYes, wIsi2,
    dv_add_int, dv_add_lst, dv_add_tup, dv_mul_int, dv_mul_lst, dv_mul_tup, rdMulO, dv_i0, dv_i2, rdNeg, rdSl, dv_int_int, dv_int_bl, dv_abs, dv_ne0_lst0, dv_eq0_lst0, rdList, rdListO, rdIsi, dv_eq_row, dv_ne_row, dv_eq_tup, dv_ne_tup, dv_ne_tup0, dv_eq_lst, dv_ne_lst, dv_eq_int, dv_ne_int, dv_eq0_tup, dv_eq0_int, dv_ne0_int, dv_ne0_tup, dv_mk_lst, dv_mk_tup, dv_sum_lst, dv_sum_tup, dv_tuple_lst, dv_tuple_tup, dv_len_lst, dv_len_tup, dv_all, frzL_ints,  rdIs, rdIsNot, Dp.isNon, seqOf, seqI, frz, startD, kg, isiD_non, isiD_bl, isiD_int, isiD_str, isiD_lst, isiD_tup, isiD2_non, isiD2_bl, isiD2_int, isiD2_str, isiD2_lst, isiD2_tup, kb_non_int, kb_bl_int, kb_int_int, kb_str_int, kb_lst_int, kb_tup_int, kb_non_bool, kb_bl_bool, kb_int_bool, kb_str_str, kb_int_str, kb2_non, kb2_bl, kb2_int, kb2_str, kb2_lst, kb2_tup, isi_row_int, isi_row_list, isi_row_tuple, isi_row_str, isi2_row,
    List.map_cons, List.map_nil, List.length_cons, List.length_nil, List.getElem?_cons_zero, List.getElem?_cons_succ, List.set_cons_zero, List.set_cons_succ, List.replicate_succ, List.replicate_zero, List.cons_append, List.nil_append, List.append_nil, Nat.zero_add, Nat.reduceAdd, Nat.reduceSub, List.tail_cons, wipeE, wiRng1, wiRng2, wiSeq, wiEnum, wiZip,
    exists_eq_left, exists_eq_left', exists_eq_right, exists_eq_right', Option.some.injEq, D.int.injEq, D.bl.injEq, D.str.injEq, D.lst.injEq, D.tup.injEq, D.row.injEq, D.own.injEq, D.adr.injEq, D.ty.injEq, reduceCtorEq, List.cons.injEq, true_and, and_true, false_and, and_false, or_false, false_or, exists_false, if_true, if_false, Bool.not_true, Bool.not_false, Bool.false_eq_true, and_self, true_or, or_true, exists_and_left, exists_and_right, ite_true, ite_false, exists_const, exists_eq, exists_eq', decide_true, decide_false, Bool.not_true, Bool.not_false, F__law_row]
      refine ⟨by omega, by omega, by omega, fun ns2 n4 l1 l2 l3 => ?_⟩
      exact hJ _ _ ⟨rs ++ [ns2], by rw [List.map_append]; rfl, by rw [List.length_append, e1]; rfl, fun a h => by
        rcases List.mem_append.mp h with h | h
        · exact e2 a h
        · rw [List.mem_singleton] at h; subst h; exact ⟨by omega, l2⟩, by omega⟩
    · rintro acc n3 ⟨rs, rfl, e1, e2, e3⟩
      rw [rngD_len] at e1 e3
      obtain ⟨a, b, e, rfl⟩ : ∃ a b e, rs = [a, b, e] := by
        match rs, e1 with
        | [a, b, e], _ => exact ⟨a, b, e, rfl⟩
      obtain ⟨la, sa⟩ := e2 a (by simp)
      obtain ⟨lb, sb⟩ := e2 b (by simp)
      obtain ⟨le, se⟩ := e2 e (by simp)
      have ra : Rk a := ⟨by omega, by omega⟩
      have rb : Rk b := ⟨by omega, by omega⟩
      have re : Rk e := ⟨by omega, by omega⟩
      have hab : a.length = b.length := by omega
      have hae : a.length = e.length := by omega
      refine lc_map (μ1 := []) (n1 := n3) [a, b, e] lotD D.row (fun k q => ?_) (by show (3 : Nat) < 100000; decide) (fun z p acc J hz _ hJ => ?_) ?_
      · simp only [wCallW, sw2_two, wSeq, wNext, wRet, wRetN, wNever, wDrop, wIfS, wAsg, gwName, dv_gtup, dv_gunl, dv_gcons, dv_gnil, wPar, wPar3, wAug, wSetO, wAugO, wApp, wVar, wC, wOp, wUn, asBl, wAnd, wOr, wNot, wAndV, wOrV, wNotV, wIf, wNil, wCons, wTup, wLst, wLstO, wCB, wCall, wCallK1, wMeth, wRel, wMk, wPen0, wPen1, wPen2, wPenS1, wPenS2, wSMeth, dv_make, wRowF, wSl, woNo, woSome, wChain, wYes, wIsi2,
    dv_add_int, dv_add_lst, dv_add_tup, dv_mul_int, dv_mul_lst, dv_mul_tup, rdMulO, dv_i0, dv_i2, rdNeg, rdSl, dv_int_int, dv_int_bl, dv_abs, dv_ne0_lst0, dv_eq0_lst0, rdList, rdListO, rdIsi, dv_eq_row, dv_ne_row, dv_eq_tup, dv_ne_tup, dv_ne_tup0, dv_eq_lst, dv_ne_lst, dv_eq_int, dv_ne_int, dv_eq0_tup, dv_eq0_int, dv_ne0_int, dv_ne0_tup, dv_mk_lst, dv_mk_tup, dv_sum_lst, dv_sum_tup, dv_tuple_lst, dv_tuple_tup, dv_len_lst, dv_len_tup, dv_all, frzL_ints,  rdIs, rdIsNot, Dp.isNon, seqOf, seqI, frz, startD, kg, isiD_non, isiD_bl, isiD_int, isiD_str, isiD_lst, isiD_tup, isiD2_non, isiD2_bl, isiD2_int, isiD2_str, isiD2_lst, isiD2_tup, kb_non_int, kb_bl_int, kb_int_int, kb_str_int, kb_lst_int, kb_tup_int, kb_non_bool, kb_bl_bool, kb_int_bool, kb_str_str, kb_int_str, kb2_non, kb2_bl, kb2_int, kb2_str, kb2_lst, kb2_tup, isi_row_int, isi_row_list, isi_row_tuple, isi_row_str, isi2_row,
    List.map_cons, List.map_nil, List.length_cons, List.length_nil, List.getElem?_cons_zero, List.getElem?_cons_succ, List.set_cons_zero, List.set_cons_succ, List.replicate_succ, List.replicate_zero, List.cons_append, List.nil_append, List.append_nil, Nat.zero_add, Nat.reduceAdd, Nat.reduceSub, List.tail_cons, wipeE, wiRng1, wiRng2, wiSeq, wiEnum, wiZip,
    exists_eq_left, exists_eq_left', exists_eq_right, exists_eq_right', Option.some.injEq, D.int.injEq, D.bl.injEq, D.str.injEq, D.lst.injEq, D.tup.injEq, D.row.injEq, D.own.injEq, D.adr.injEq, D.ty.injEq, reduceCtorEq, List.cons.injEq, true_and, and_true, false_and, and_false, or_false, false_or, exists_false, if_true, if_false, Bool.not_true, Bool.not_false, Bool.false_eq_true, and_self, true_or, or_true, exists_and_left, exists_and_right, ite_true, ite_false, exists_const, exists_eq, exists_eq', decide_true, decide_false, Bool.not_true, Bool.not_false]; exact q
      · have hz2 := e2 z hz
        unfold lotD
        simp only [wCallW, sw2_two, wSeq, wNext, wRet, wRetN, wNever, wDrop, wIfS, wAsg, gwName, dv_gtup, dv_gunl, dv_gcons, dv_gnil, wPar, wPar3, wAug, wSetO, wAugO, wApp, wVar, wC, wOp, wUn, asBl, wAnd, wOr, wNot, wAndV, wOrV, wNotV, wIf, wNil, wCons, wTup, wLst, wLstO, wCB, wCall, wCallK1, wMeth, wRel, wMk, wPen0, wPen1, wPen2, wPenS1, wPenS2, wSMeth, dv_make, wRowF, wSl, woNo, woSome, wChain, wYes, wIsi2,
    dv_add_int, dv_add_lst, dv_add_tup, dv_mul_int, dv_mul_lst, dv_mul_tup, rdMulO, dv_i0, dv_i2, rdNeg, rdSl, dv_int_int, dv_int_bl, dv_abs, dv_ne0_lst0, dv_eq0_lst0, rdList, rdListO, rdIsi, dv_eq_row, dv_ne_row, dv_eq_tup, dv_ne_tup, dv_ne_tup0, dv_eq_lst, dv_ne_lst, dv_eq_int, dv_ne_int, dv_eq0_tup, dv_eq0_int, dv_ne0_int, dv_ne0_tup, dv_mk_lst, dv_mk_tup, dv_sum_lst, dv_sum_tup, dv_tuple_lst, dv_tuple_tup, dv_len_lst, dv_len_tup, dv_all, frzL_ints,  rdIs, rdIsNot, Dp.isNon, seqOf, seqI, frz, startD, kg, isiD_non, isiD_bl, isiD_int, isiD_str, isiD_lst, isiD_tup, isiD2_non, isiD2_bl, isiD2_int, isiD2_str, isiD2_lst, isiD2_tup, kb_non_int, kb_bl_int, kb_int_int, kb_str_int, kb_lst_int, kb_tup_int, kb_non_bool, kb_bl_bool, kb_int_bool, kb_str_str, kb_int_str, kb2_non, kb2_bl, kb2_int, kb2_str, kb2_lst, kb2_tup, isi_row_int, isi_row_list, isi_row_tuple, isi_row_str, isi2_row,
    List.map_cons, List.map_nil, List.length_cons, List.length_nil, List.getElem?_cons_zero, List.getElem?_cons_succ, List.set_cons_zero, List.set_cons_succ, List.replicate_succ, List.replicate_zero, List.cons_append, List.nil_append, List.append_nil, Nat.zero_add, Nat.reduceAdd, Nat.reduceSub, List.tail_cons, wipeE, wiRng1, wiRng2, wiSeq, wiEnum, wiZip,
    exists_eq_left, exists_eq_left', exists_eq_right, exists_eq_right', Option.some.injEq, D.int.injEq, D.bl.injEq, D.str.injEq, D.lst.injEq, D.tup.injEq, D.row.injEq, D.own.injEq, D.adr.injEq, D.ty.injEq, reduceCtorEq, List.cons.injEq, true_and, and_true, false_and, and_false, or_false, false_or, exists_false, if_true, if_false, Bool.not_true, Bool.not_false, Bool.false_eq_true, and_self, true_or, or_true, exists_and_left, exists_and_right, ite_true, ite_false, exists_const, exists_eq, exists_eq', decide_true, decide_false, Bool.not_true, Bool.not_false]
        exact ⟨by omega, by omega, by first | exact hJ | exact ⟨rfl, hJ⟩⟩
      refine ⟨_, rfl, rfl, ?_⟩
      simp only [wCallW, sw2_two, wSeq, wNext, wRet, wRetN, wNever, wDrop, wIfS, wAsg, gwName, dv_gtup, dv_gunl, dv_gcons, dv_gnil, wPar, wPar3, wAug, wSetO, wAugO, wApp, wVar, wC, wOp, wUn, asBl, wAnd, wOr, wNot, wAndV, wOrV, wNotV, wIf, wNil, wCons, wTup, wLst, wLstO, wCB, wCall, wCallK1, wMeth, wRel, wMk, wPen0, wPen1, wPen2, wPenS1, wPenS2, wSMeth, dv_make, wRowF, wSl, woNo, woSome, wChain, wYes, wIsi2,
    dv_add_int, dv_add_lst, dv_add_tup, dv_mul_int, dv_mul_lst, dv_mul_tup, rdMulO, dv_i0, dv_i2, rdNeg, rdSl, dv_int_int, dv_int_bl, dv_abs, dv_ne0_lst0, dv_eq0_lst0, rdList, rdListO, rdIsi, dv_eq_row, dv_ne_row, dv_eq_tup, dv_ne_tup, dv_ne_tup0, dv_eq_lst, dv_ne_lst, dv_eq_int, dv_ne_int, dv_eq0_tup, dv_eq0_int, dv_ne0_int, dv_ne0_tup, dv_mk_lst, dv_mk_tup, dv_sum_lst, dv_sum_tup, dv_tuple_lst, dv_tuple_tup, dv_len_lst, dv_len_tup, dv_all, frzL_ints,  rdIs, rdIsNot, Dp.isNon, seqOf, seqI, frz, startD, kg, isiD_non, isiD_bl, isiD_int, isiD_str, isiD_lst, isiD_tup, isiD2_non, isiD2_bl, isiD2_int, isiD2_str, isiD2_lst, isiD2_tup, kb_non_int, kb_bl_int, kb_int_int, kb_str_int, kb_lst_int, kb_tup_int, kb_non_bool, kb_bl_bool, kb_int_bool, kb_str_str, kb_int_str, kb2_non, kb2_bl, kb2_int, kb2_str, kb2_lst, kb2_tup, isi_row_int, isi_row_list, isi_row_tuple, isi_row_str, isi2_row,
    List.map_cons, List.map_nil, List.length_cons, List.length_nil, List.getElem?_cons_zero, List.getElem?_cons_succ, List.set_cons_zero, List.set_cons_succ, List.replicate_succ, List.replicate_zero, List.cons_append, List.nil_append, List.append_nil, Nat.zero_add, Nat.reduceAdd, Nat.reduceSub, List.tail_cons, wipeE, wiRng1, wiRng2, wiSeq, wiEnum, wiZip,
    exists_eq_left, exists_eq_left', exists_eq_right, exists_eq_right', Option.some.injEq, D.int.injEq, D.bl.injEq, D.str.injEq, D.lst.injEq, D.tup.injEq, D.row.injEq, D.own.injEq, D.adr.injEq, D.ty.injEq, reduceCtorEq, List.cons.injEq, true_and, and_true, false_and, and_false, or_false, false_or, exists_false, if_true, if_false, Bool.not_true, Bool.not_false, Bool.false_eq_true, and_self, true_or, or_true, exists_and_left, exists_and_right, ite_true, ite_false, exists_const, exists_eq, exists_eq', decide_true, decide_false, Bool.not_true, Bool.not_false, lotD]
      have e1 : decide (spn a b = spn a b) = true := decide_eq_true rfl
      refine dv_ix rfl (atI_nat rfl rfl) (dv_ix rfl (atI_nat rfl rfl) ?_ (fun _ z => by cases z)) (fun _ z => by cases z)
      simp only [wCallW, sw2_two, wSeq, wNext, wRet, wRetN, wNever, wDrop, wIfS, wAsg, gwName, dv_gtup, dv_gunl, dv_gcons, dv_gnil, wPar, wPar3, wAug, wSetO, wAugO, wApp, wVar, wC, wOp, wUn, asBl, wAnd, wOr, wNot, wAndV, wOrV, wNotV, wIf, wNil, wCons, wTup, wLst, wLstO, wCB, wCall, wCallK1, wMeth, wRel, wMk, wPen0, wPen1, wPen2, wPenS1, wPenS2, wSMeth, dv_make, wRowF, wSl, woNo, woSome, wChain, wYes, wIsi2,
    dv_add_int, dv_add_lst, dv_add_tup, dv_mul_int, dv_mul_lst, dv_mul_tup, rdMulO, dv_i0, dv_i2, rdNeg, rdSl, dv_int_int, dv_int_bl, dv_abs, dv_ne0_lst0, dv_eq0_lst0, rdList, rdListO, rdIsi, dv_eq_row, dv_ne_row, dv_eq_tup, dv_ne_tup, dv_ne_tup0, dv_eq_lst, dv_ne_lst, dv_eq_int, dv_ne_int, dv_eq0_tup, dv_eq0_int, dv_ne0_int, dv_ne0_tup, dv_mk_lst, dv_mk_tup, dv_sum_lst, dv_sum_tup, dv_tuple_lst, dv_tuple_tup, dv_len_lst, dv_len_tup, dv_all, frzL_ints,  rdIs, rdIsNot, Dp.isNon, seqOf, seqI, frz, startD, kg, isiD_non, isiD_bl, isiD_int, isiD_str, isiD_lst, isiD_tup, isiD2_non, isiD2_bl, isiD2_int, isiD2_str, isiD2_lst, isiD2_tup, kb_non_int, kb_bl_int, kb_int_int, kb_str_int, kb_lst_int, kb_tup_int, kb_non_bool, kb_bl_bool, kb_int_bool, kb_str_str, kb_int_str, kb2_non, kb2_bl, kb2_int, kb2_str, kb2_lst, kb2_tup, isi_row_int, isi_row_list, isi_row_tuple, isi_row_str, isi2_row,
    List.map_cons, List.map_nil, List.length_cons, List.length_nil, List.getElem?_cons_zero, List.getElem?_cons_succ, List.set_cons_zero, List.set_cons_succ, List.replicate_succ, List.replicate_zero, List.cons_append, List.nil_append, List.append_nil, Nat.zero_add, Nat.reduceAdd, Nat.reduceSub, List.tail_cons, wipeE, wiRng1, wiRng2, wiSeq, wiEnum, wiZip,
    exists_eq_left, exists_eq_left', exists_eq_right, exists_eq_right', Option.some.injEq, D.int.injEq, D.bl.injEq, D.str.injEq, D.lst.injEq, D.tup.injEq, D.row.injEq, D.own.injEq, D.adr.injEq, D.ty.injEq, reduceCtorEq, List.cons.injEq, true_and, and_true, false_and, and_false, or_false, false_or, exists_false, if_true, if_false, Bool.not_true, Bool.not_false, Bool.false_eq_true, and_self, true_or, or_true, exists_and_left, exists_and_right, ite_true, ite_false, exists_const, exists_eq, exists_eq', decide_true, decide_false, Bool.not_true, Bool.not_false, lv_lspans, lp_cross, F__law_doings_right, F__law_sums_right, e1]
      refine ⟨ra, hab, sa, ra, hab, sm_sw sb, true, by decide, ?_⟩
      rw [if_neg (by decide)]
      refine ⟨ra, hab, sm_sw sb, ra, hab, sa, sb, by omega, fun n4 h4 => ⟨ra, hab, hae, sa, sb, se, by omega, fun n5 h5 => ?_⟩⟩
      refine lc_j (items := rngD 1 (m - 1)) (μ1 := []) (n1 := n5) (fun k acc n' => n' = n5 ∧ acc = (strl m k).map D.int) (fun k q => ?_) (by rw [rngD_len]; omega) ⟨rfl, rfl⟩ ?_ ?_
      · simp only [wCallW, sw2_two, wSeq, wNext, wRet, wRetN, wNever, wDrop, wIfS, wAsg, gwName, dv_gtup, dv_gunl, dv_gcons, dv_gnil, wPar, wPar3, wAug, wSetO, wAugO, wApp, wVar, wC, wOp, wUn, asBl, wAnd, wOr, wNot, wAndV, wOrV, wNotV, wIf, wNil, wCons, wTup, wLst, wLstO, wCB, wCall, wCallK1, wMeth, wRel, wMk, wPen0, wPen1, wPen2, wPenS1, wPenS2, wSMeth, dv_make, wRowF, wSl, woNo, woSome, wChain, wYes, wIsi2,
    dv_add_int, dv_add_lst, dv_add_tup, dv_mul_int, dv_mul_lst, dv_mul_tup, rdMulO, dv_i0, dv_i2, rdNeg, rdSl, dv_int_int, dv_int_bl, dv_abs, dv_ne0_lst0, dv_eq0_lst0, rdList, rdListO, rdIsi, dv_eq_row, dv_ne_row, dv_eq_tup, dv_ne_tup, dv_ne_tup0, dv_eq_lst, dv_ne_lst, dv_eq_int, dv_ne_int, dv_eq0_tup, dv_eq0_int, dv_ne0_int, dv_ne0_tup, dv_mk_lst, dv_mk_tup, dv_sum_lst, dv_sum_tup, dv_tuple_lst, dv_tuple_tup, dv_len_lst, dv_len_tup, dv_all, frzL_ints,  rdIs, rdIsNot, Dp.isNon, seqOf, seqI, frz, startD, kg, isiD_non, isiD_bl, isiD_int, isiD_str, isiD_lst, isiD_tup, isiD2_non, isiD2_bl, isiD2_int, isiD2_str, isiD2_lst, isiD2_tup, kb_non_int, kb_bl_int, kb_int_int, kb_str_int, kb_lst_int, kb_tup_int, kb_non_bool, kb_bl_bool, kb_int_bool, kb_str_str, kb_int_str, kb2_non, kb2_bl, kb2_int, kb2_str, kb2_lst, kb2_tup, isi_row_int, isi_row_list, isi_row_tuple, isi_row_str, isi2_row,
    List.map_cons, List.map_nil, List.length_cons, List.length_nil, List.getElem?_cons_zero, List.getElem?_cons_succ, List.set_cons_zero, List.set_cons_succ, List.replicate_succ, List.replicate_zero, List.cons_append, List.nil_append, List.append_nil, Nat.zero_add, Nat.reduceAdd, Nat.reduceSub, List.tail_cons, wipeE, wiRng1, wiRng2, wiSeq, wiEnum, wiZip,
    exists_eq_left, exists_eq_left', exists_eq_right, exists_eq_right', Option.some.injEq, D.int.injEq, D.bl.injEq, D.str.injEq, D.lst.injEq, D.tup.injEq, D.row.injEq, D.own.injEq, D.adr.injEq, D.ty.injEq, reduceCtorEq, List.cons.injEq, true_and, and_true, false_and, and_false, or_false, false_or, exists_false, if_true, if_false, Bool.not_true, Bool.not_false, Bool.false_eq_true, and_self, true_or, or_true, exists_and_left, exists_and_right, ite_true, ite_false, exists_const, exists_eq, exists_eq', decide_true, decide_false, Bool.not_true, Bool.not_false]
        exact ⟨_, _, ⟨rfl, rfl⟩, by decide, by decide, by omega, by omega, by rw [show ((m : Int) - 1).toNat = m - 1 by omega]; exact q⟩
      · rintro k d p acc n' J hd hk hp ⟨rfl, rfl⟩ hJ
        rw [rngD_len] at hk
        rw [rngD_get hk] at hd
        cases hd
        have e2 : (1 : Int) + (k : Int) = ((k + 1 : Nat) : Int) := by omega
        simp only [wCallW, sw2_two, wSeq, wNext, wRet, wRetN, wNever, wDrop, wIfS, wAsg, gwName, dv_gtup, dv_gunl, dv_gcons, dv_gnil, wPar, wPar3, wAug, wSetO, wAugO, wApp, wVar, wC, wOp, wUn, asBl, wAnd, wOr, wNot, wAndV, wOrV, wNotV, wIf, wNil, wCons, wTup, wLst, wLstO, wCB, wCall, wCallK1, wMeth, wRel, wMk, wPen0, wPen1, wPen2, wPenS1, wPenS2, wSMeth, dv_make, wRowF, wSl, woNo, woSome, wChain, wYes, wIsi2,
    dv_add_int, dv_add_lst, dv_add_tup, dv_mul_int, dv_mul_lst, dv_mul_tup, rdMulO, dv_i0, dv_i2, rdNeg, rdSl, dv_int_int, dv_int_bl, dv_abs, dv_ne0_lst0, dv_eq0_lst0, rdList, rdListO, rdIsi, dv_eq_row, dv_ne_row, dv_eq_tup, dv_ne_tup, dv_ne_tup0, dv_eq_lst, dv_ne_lst, dv_eq_int, dv_ne_int, dv_eq0_tup, dv_eq0_int, dv_ne0_int, dv_ne0_tup, dv_mk_lst, dv_mk_tup, dv_sum_lst, dv_sum_tup, dv_tuple_lst, dv_tuple_tup, dv_len_lst, dv_len_tup, dv_all, frzL_ints,  rdIs, rdIsNot, Dp.isNon, seqOf, seqI, frz, startD, kg, isiD_non, isiD_bl, isiD_int, isiD_str, isiD_lst, isiD_tup, isiD2_non, isiD2_bl, isiD2_int, isiD2_str, isiD2_lst, isiD2_tup, kb_non_int, kb_bl_int, kb_int_int, kb_str_int, kb_lst_int, kb_tup_int, kb_non_bool, kb_bl_bool, kb_int_bool, kb_str_str, kb_int_str, kb2_non, kb2_bl, kb2_int, kb2_str, kb2_lst, kb2_tup, isi_row_int, isi_row_list, isi_row_tuple, isi_row_str, isi2_row,
    List.map_cons, List.map_nil, List.length_cons, List.length_nil, List.getElem?_cons_zero, List.getElem?_cons_succ, List.set_cons_zero, List.set_cons_succ, List.replicate_succ, List.replicate_zero, List.cons_append, List.nil_append, List.append_nil, Nat.zero_add, Nat.reduceAdd, Nat.reduceSub, List.tail_cons, wipeE, wiRng1, wiRng2, wiSeq, wiEnum, wiZip,
    exists_eq_left, exists_eq_left', exists_eq_right, exists_eq_right', Option.some.injEq, D.int.injEq, D.bl.injEq, D.str.injEq, D.lst.injEq, D.tup.injEq, D.row.injEq, D.own.injEq, D.adr.injEq, D.ty.injEq, reduceCtorEq, List.cons.injEq, true_and, and_true, false_and, and_false, or_false, false_or, exists_false, if_true, if_false, Bool.not_true, Bool.not_false, Bool.false_eq_true, and_self, true_or, or_true, exists_and_left, exists_and_right, ite_true, ite_false, exists_const, exists_eq, exists_eq', decide_true, decide_false, Bool.not_true, Bool.not_false, e2]
        refine ⟨k + 1, m, rfl, rfl, by omega, by omega, ?_⟩
        simp only [wCallW, sw2_two, wSeq, wNext, wRet, wRetN, wNever, wDrop, wIfS, wAsg, gwName, dv_gtup, dv_gunl, dv_gcons, dv_gnil, wPar, wPar3, wAug, wSetO, wAugO, wApp, wVar, wC, wOp, wUn, asBl, wAnd, wOr, wNot, wAndV, wOrV, wNotV, wIf, wNil, wCons, wTup, wLst, wLstO, wCB, wCall, wCallK1, wMeth, wRel, wMk, wPen0, wPen1, wPen2, wPenS1, wPenS2, wSMeth, dv_make, wRowF, wSl, woNo, woSome, wChain, wYes, wIsi2,
    dv_add_int, dv_add_lst, dv_add_tup, dv_mul_int, dv_mul_lst, dv_mul_tup, rdMulO, dv_i0, dv_i2, rdNeg, rdSl, dv_int_int, dv_int_bl, dv_abs, dv_ne0_lst0, dv_eq0_lst0, rdList, rdListO, rdIsi, dv_eq_row, dv_ne_row, dv_eq_tup, dv_ne_tup, dv_ne_tup0, dv_eq_lst, dv_ne_lst, dv_eq_int, dv_ne_int, dv_eq0_tup, dv_eq0_int, dv_ne0_int, dv_ne0_tup, dv_mk_lst, dv_mk_tup, dv_sum_lst, dv_sum_tup, dv_tuple_lst, dv_tuple_tup, dv_len_lst, dv_len_tup, dv_all, frzL_ints,  rdIs, rdIsNot, Dp.isNon, seqOf, seqI, frz, startD, kg, isiD_non, isiD_bl, isiD_int, isiD_str, isiD_lst, isiD_tup, isiD2_non, isiD2_bl, isiD2_int, isiD2_str, isiD2_lst, isiD2_tup, kb_non_int, kb_bl_int, kb_int_int, kb_str_int, kb_lst_int, kb_tup_int, kb_non_bool, kb_bl_bool, kb_int_bool, kb_str_str, kb_int_str, kb2_non, kb2_bl, kb2_int, kb2_str, kb2_lst, kb2_tup, isi_row_int, isi_row_list, isi_row_tuple, isi_row_str, isi2_row,
    List.map_cons, List.map_nil, List.length_cons, List.length_nil, List.getElem?_cons_zero, List.getElem?_cons_succ, List.set_cons_zero, List.set_cons_succ, List.replicate_succ, List.replicate_zero, List.cons_append, List.nil_append, List.append_nil, Nat.zero_add, Nat.reduceAdd, Nat.reduceSub, List.tail_cons, wipeE, wiRng1, wiRng2, wiSeq, wiEnum, wiZip,
    exists_eq_left, exists_eq_left', exists_eq_right, exists_eq_right', Option.some.injEq, D.int.injEq, D.bl.injEq, D.str.injEq, D.lst.injEq, D.tup.injEq, D.row.injEq, D.own.injEq, D.adr.injEq, D.ty.injEq, reduceCtorEq, List.cons.injEq, true_and, and_true, false_and, and_false, or_false, false_or, exists_false, if_true, if_false, Bool.not_true, Bool.not_false, Bool.false_eq_true, and_self, true_or, or_true, exists_and_left, exists_and_right, ite_true, ite_false, exists_const, exists_eq, exists_eq', decide_true, decide_false, Bool.not_true, Bool.not_false]
        by_cases g : Nat.gcd (k + 1) m = 1
        · rw [if_pos (by rw [g]; decide)]
          exact hJ _ _ ⟨rfl, by rw [show strl m (k + 1) = strl m k ++ [((k + 1 : Nat) : Int)] by rw [strl, if_pos g], List.map_append]; rfl⟩
        · rw [if_neg (by rw [decide_eq_true_iff]; omega)]
          exact hJ _ _ ⟨rfl, by rw [show strl m (k + 1) = strl m k by rw [strl, if_neg g]]⟩
      · rintro acc n' ⟨rfl, rfl⟩
        rw [rngD_len]
        have sl := strl_one (m := m) (i := m - 1) (by omega)
        have sm := strl_len (m := m) (m - 1)
        dsimp only
        refine ⟨by rw [List.length_map]; exact sl, by rw [List.length_map]; omega, by omega, fun x n6 hx h6 => ?_⟩
        obtain ⟨k, rfl, k1, k2, gk⟩ := strl_D hx
        have ea : m = a.length := la.symm
        refine ⟨k, rfl, ra, k1, by omega, by rw [la]; exact gk, fun e1 el1 at1 => ⟨k, rfl, rb, k1, by omega, by rw [lb]; exact gk, fun e2 el2 at2 => ?_⟩⟩
        have s1 : Str a k e1 := ⟨el1, at1⟩
        have s2 : Str b k e2 := ⟨el2, at2⟩
        have sw2 : Sw e2 := fun z hz => sm_sw sb z ((str_mem (by omega) (by omega) (by rw [lb]; exact gk) s2).1 hz)
        dsimp only
        rw [lp_cross]
        refine ⟨rk_of ra el1, by omega, sw2, ?_⟩
        refine lc_j (items := rngD 0 m) (μ1 := []) (n1 := n6) (fun k acc n' => n' = n6 ∧ acc = []) (fun k q => ?_) (by rw [rngD_len]; omega) ⟨rfl, rfl⟩ ?_ ?_
        · simp only [wCallW, sw2_two, wSeq, wNext, wRet, wRetN, wNever, wDrop, wIfS, wAsg, gwName, dv_gtup, dv_gunl, dv_gcons, dv_gnil, wPar, wPar3, wAug, wSetO, wAugO, wApp, wVar, wC, wOp, wUn, asBl, wAnd, wOr, wNot, wAndV, wOrV, wNotV, wIf, wNil, wCons, wTup, wLst, wLstO, wCB, wCall, wCallK1, wMeth, wRel, wMk, wPen0, wPen1, wPen2, wPenS1, wPenS2, wSMeth, dv_make, wRowF, wSl, woNo, woSome, wChain, wYes, wIsi2,
    dv_add_int, dv_add_lst, dv_add_tup, dv_mul_int, dv_mul_lst, dv_mul_tup, rdMulO, dv_i0, dv_i2, rdNeg, rdSl, dv_int_int, dv_int_bl, dv_abs, dv_ne0_lst0, dv_eq0_lst0, rdList, rdListO, rdIsi, dv_eq_row, dv_ne_row, dv_eq_tup, dv_ne_tup, dv_ne_tup0, dv_eq_lst, dv_ne_lst, dv_eq_int, dv_ne_int, dv_eq0_tup, dv_eq0_int, dv_ne0_int, dv_ne0_tup, dv_mk_lst, dv_mk_tup, dv_sum_lst, dv_sum_tup, dv_tuple_lst, dv_tuple_tup, dv_len_lst, dv_len_tup, dv_all, frzL_ints,  rdIs, rdIsNot, Dp.isNon, seqOf, seqI, frz, startD, kg, isiD_non, isiD_bl, isiD_int, isiD_str, isiD_lst, isiD_tup, isiD2_non, isiD2_bl, isiD2_int, isiD2_str, isiD2_lst, isiD2_tup, kb_non_int, kb_bl_int, kb_int_int, kb_str_int, kb_lst_int, kb_tup_int, kb_non_bool, kb_bl_bool, kb_int_bool, kb_str_str, kb_int_str, kb2_non, kb2_bl, kb2_int, kb2_str, kb2_lst, kb2_tup, isi_row_int, isi_row_list, isi_row_tuple, isi_row_str, isi2_row,
    List.map_cons, List.map_nil, List.length_cons, List.length_nil, List.getElem?_cons_zero, List.getElem?_cons_succ, List.set_cons_zero, List.set_cons_succ, List.replicate_succ, List.replicate_zero, List.cons_append, List.nil_append, List.append_nil, Nat.zero_add, Nat.reduceAdd, Nat.reduceSub, List.tail_cons, wipeE, wiRng1, wiRng2, wiSeq, wiEnum, wiZip,
    exists_eq_left, exists_eq_left', exists_eq_right, exists_eq_right', Option.some.injEq, D.int.injEq, D.bl.injEq, D.str.injEq, D.lst.injEq, D.tup.injEq, D.row.injEq, D.own.injEq, D.adr.injEq, D.ty.injEq, reduceCtorEq, List.cons.injEq, true_and, and_true, false_and, and_false, or_false, false_or, exists_false, if_true, if_false, Bool.not_true, Bool.not_false, Bool.false_eq_true, and_self, true_or, or_true, exists_and_left, exists_and_right, ite_true, ite_false, exists_const, exists_eq, exists_eq', decide_true, decide_false, Bool.not_true, Bool.not_false]; exact ⟨by omega, by omega, by rw [Int.toNat_natCast]; exact q⟩
        · rintro j d p acc n' J hd hj hp ⟨rfl, rfl⟩ hJ
          rw [rngD_len] at hj
          rw [rngD_get hj] at hd
          cases hd
          have hm : k * j % m < m := Nat.mod_lt _ (by omega)
          have em : ((k : Int) * (0 + (j : Int))) % (m : Int) = ((k * j % m : Nat) : Int) := by rw [Int.zero_add]; rfl
          have told : nt (spn e1 e2) (k * j % m) = nt (spn a b) j := by
            unfold spn
            rw [el1, la, tab_nt hm, tab_nt hj]
            exact xs_stretch m2 (by omega) gk (fun i hi => by have := at1 i (by omega); rw [la] at this; exact this) (fun i hi => by have := at2 i (by omega); rw [lb] at this; exact this)
          simp only [wCallW, sw2_two, wSeq, wNext, wRet, wRetN, wNever, wDrop, wIfS, wAsg, gwName, dv_gtup, dv_gunl, dv_gcons, dv_gnil, wPar, wPar3, wAug, wSetO, wAugO, wApp, wVar, wC, wOp, wUn, asBl, wAnd, wOr, wNot, wAndV, wOrV, wNotV, wIf, wNil, wCons, wTup, wLst, wLstO, wCB, wCall, wCallK1, wMeth, wRel, wMk, wPen0, wPen1, wPen2, wPenS1, wPenS2, wSMeth, dv_make, wRowF, wSl, woNo, woSome, wChain, wYes, wIsi2,
    dv_add_int, dv_add_lst, dv_add_tup, dv_mul_int, dv_mul_lst, dv_mul_tup, rdMulO, dv_i0, dv_i2, rdNeg, rdSl, dv_int_int, dv_int_bl, dv_abs, dv_ne0_lst0, dv_eq0_lst0, rdList, rdListO, rdIsi, dv_eq_row, dv_ne_row, dv_eq_tup, dv_ne_tup, dv_ne_tup0, dv_eq_lst, dv_ne_lst, dv_eq_int, dv_ne_int, dv_eq0_tup, dv_eq0_int, dv_ne0_int, dv_ne0_tup, dv_mk_lst, dv_mk_tup, dv_sum_lst, dv_sum_tup, dv_tuple_lst, dv_tuple_tup, dv_len_lst, dv_len_tup, dv_all, frzL_ints,  rdIs, rdIsNot, Dp.isNon, seqOf, seqI, frz, startD, kg, isiD_non, isiD_bl, isiD_int, isiD_str, isiD_lst, isiD_tup, isiD2_non, isiD2_bl, isiD2_int, isiD2_str, isiD2_lst, isiD2_tup, kb_non_int, kb_bl_int, kb_int_int, kb_str_int, kb_lst_int, kb_tup_int, kb_non_bool, kb_bl_bool, kb_int_bool, kb_str_str, kb_int_str, kb2_non, kb2_bl, kb2_int, kb2_str, kb2_lst, kb2_tup, isi_row_int, isi_row_list, isi_row_tuple, isi_row_str, isi2_row,
    List.map_cons, List.map_nil, List.length_cons, List.length_nil, List.getElem?_cons_zero, List.getElem?_cons_succ, List.set_cons_zero, List.set_cons_succ, List.replicate_succ, List.replicate_zero, List.cons_append, List.nil_append, List.append_nil, Nat.zero_add, Nat.reduceAdd, Nat.reduceSub, List.tail_cons, wipeE, wiRng1, wiRng2, wiSeq, wiEnum, wiZip,
    exists_eq_left, exists_eq_left', exists_eq_right, exists_eq_right', Option.some.injEq, D.int.injEq, D.bl.injEq, D.str.injEq, D.lst.injEq, D.tup.injEq, D.row.injEq, D.own.injEq, D.adr.injEq, D.ty.injEq, reduceCtorEq, List.cons.injEq, true_and, and_true, false_and, and_false, or_false, false_or, exists_false, if_true, if_false, Bool.not_true, Bool.not_false, Bool.false_eq_true, and_self, true_or, or_true, exists_and_left, exists_and_right, ite_true, ite_false, exists_const, exists_eq, exists_eq', decide_true, decide_false, Bool.not_true, Bool.not_false, em]
          refine ⟨cmulL (by omega) (by omega), by omega, ?_⟩
          refine dv_ixI (ns := spn e1 e2) rfl (atI_nat rfl (nt_lt (by unfold spn; rw [tab_len, el1, la]; exact hm))) ?_ (fun _ z => by cases z)
          refine dv_ixI (ns := spn a b) rfl (atI_nat (show (0 + (j : Int)) = j by omega) (nt_lt (by unfold spn; rw [tab_len, la]; exact hj))) ?_ (fun _ z => by cases z)
          simp only [wCallW, sw2_two, wSeq, wNext, wRet, wRetN, wNever, wDrop, wIfS, wAsg, gwName, dv_gtup, dv_gunl, dv_gcons, dv_gnil, wPar, wPar3, wAug, wSetO, wAugO, wApp, wVar, wC, wOp, wUn, asBl, wAnd, wOr, wNot, wAndV, wOrV, wNotV, wIf, wNil, wCons, wTup, wLst, wLstO, wCB, wCall, wCallK1, wMeth, wRel, wMk, wPen0, wPen1, wPen2, wPenS1, wPenS2, wSMeth, dv_make, wRowF, wSl, woNo, woSome, wChain, wYes, wIsi2,
    dv_add_int, dv_add_lst, dv_add_tup, dv_mul_int, dv_mul_lst, dv_mul_tup, rdMulO, dv_i0, dv_i2, rdNeg, rdSl, dv_int_int, dv_int_bl, dv_abs, dv_ne0_lst0, dv_eq0_lst0, rdList, rdListO, rdIsi, dv_eq_row, dv_ne_row, dv_eq_tup, dv_ne_tup, dv_ne_tup0, dv_eq_lst, dv_ne_lst, dv_eq_int, dv_ne_int, dv_eq0_tup, dv_eq0_int, dv_ne0_int, dv_ne0_tup, dv_mk_lst, dv_mk_tup, dv_sum_lst, dv_sum_tup, dv_tuple_lst, dv_tuple_tup, dv_len_lst, dv_len_tup, dv_all, frzL_ints,  rdIs, rdIsNot, Dp.isNon, seqOf, seqI, frz, startD, kg, isiD_non, isiD_bl, isiD_int, isiD_str, isiD_lst, isiD_tup, isiD2_non, isiD2_bl, isiD2_int, isiD2_str, isiD2_lst, isiD2_tup, kb_non_int, kb_bl_int, kb_int_int, kb_str_int, kb_lst_int, kb_tup_int, kb_non_bool, kb_bl_bool, kb_int_bool, kb_str_str, kb_int_str, kb2_non, kb2_bl, kb2_int, kb2_str, kb2_lst, kb2_tup, isi_row_int, isi_row_list, isi_row_tuple, isi_row_str, isi2_row,
    List.map_cons, List.map_nil, List.length_cons, List.length_nil, List.getElem?_cons_zero, List.getElem?_cons_succ, List.set_cons_zero, List.set_cons_succ, List.replicate_succ, List.replicate_zero, List.cons_append, List.nil_append, List.append_nil, Nat.zero_add, Nat.reduceAdd, Nat.reduceSub, List.tail_cons, wipeE, wiRng1, wiRng2, wiSeq, wiEnum, wiZip,
    exists_eq_left, exists_eq_left', exists_eq_right, exists_eq_right', Option.some.injEq, D.int.injEq, D.bl.injEq, D.str.injEq, D.lst.injEq, D.tup.injEq, D.row.injEq, D.own.injEq, D.adr.injEq, D.ty.injEq, reduceCtorEq, List.cons.injEq, true_and, and_true, false_and, and_false, or_false, false_or, exists_false, if_true, if_false, Bool.not_true, Bool.not_false, Bool.false_eq_true, and_self, true_or, or_true, exists_and_left, exists_and_right, ite_true, ite_false, exists_const, exists_eq, exists_eq', decide_true, decide_false, Bool.not_true, Bool.not_false, told]
          first | exact hJ _ _ ⟨rfl, rfl⟩ | exact ⟨rfl, hJ _ _ ⟨rfl, rfl⟩⟩
        · rintro acc n' ⟨rfl, rfl⟩
          refine ⟨by decide, ?_⟩
          refine ⟨_, eqok_lst (xs := []) (ys := []), _, rfl, ?_⟩
          simp only [wCallW, sw2_two, wSeq, wNext, wRet, wRetN, wNever, wDrop, wIfS, wAsg, gwName, dv_gtup, dv_gunl, dv_gcons, dv_gnil, wPar, wPar3, wAug, wSetO, wAugO, wApp, wVar, wC, wOp, wUn, asBl, wAnd, wOr, wNot, wAndV, wOrV, wNotV, wIf, wNil, wCons, wTup, wLst, wLstO, wCB, wCall, wCallK1, wMeth, wRel, wMk, wPen0, wPen1, wPen2, wPenS1, wPenS2, wSMeth, dv_make, wRowF, wSl, woNo, woSome, wChain, wYes, wIsi2,
    dv_add_int, dv_add_lst, dv_add_tup, dv_mul_int, dv_mul_lst, dv_mul_tup, rdMulO, dv_i0, dv_i2, rdNeg, rdSl, dv_int_int, dv_int_bl, dv_abs, dv_ne0_lst0, dv_eq0_lst0, rdList, rdListO, rdIsi, dv_eq_row, dv_ne_row, dv_eq_tup, dv_ne_tup, dv_ne_tup0, dv_eq_lst, dv_ne_lst, dv_eq_int, dv_ne_int, dv_eq0_tup, dv_eq0_int, dv_ne0_int, dv_ne0_tup, dv_mk_lst, dv_mk_tup, dv_sum_lst, dv_sum_tup, dv_tuple_lst, dv_tuple_tup, dv_len_lst, dv_len_tup, dv_all, frzL_ints,  rdIs, rdIsNot, Dp.isNon, seqOf, seqI, frz, startD, kg, isiD_non, isiD_bl, isiD_int, isiD_str, isiD_lst, isiD_tup, isiD2_non, isiD2_bl, isiD2_int, isiD2_str, isiD2_lst, isiD2_tup, kb_non_int, kb_bl_int, kb_int_int, kb_str_int, kb_lst_int, kb_tup_int, kb_non_bool, kb_bl_bool, kb_int_bool, kb_str_str, kb_int_str, kb2_non, kb2_bl, kb2_int, kb2_str, kb2_lst, kb2_tup, isi_row_int, isi_row_list, isi_row_tuple, isi_row_str, isi2_row,
    List.map_cons, List.map_nil, List.length_cons, List.length_nil, List.getElem?_cons_zero, List.getElem?_cons_succ, List.set_cons_zero, List.set_cons_succ, List.replicate_succ, List.replicate_zero, List.cons_append, List.nil_append, List.append_nil, Nat.zero_add, Nat.reduceAdd, Nat.reduceSub, List.tail_cons, wipeE, wiRng1, wiRng2, wiSeq, wiEnum, wiZip,
    exists_eq_left, exists_eq_left', exists_eq_right, exists_eq_right', Option.some.injEq, D.int.injEq, D.bl.injEq, D.str.injEq, D.lst.injEq, D.tup.injEq, D.row.injEq, D.own.injEq, D.adr.injEq, D.ty.injEq, reduceCtorEq, List.cons.injEq, true_and, and_true, false_and, and_false, or_false, false_or, exists_false, if_true, if_false, Bool.not_true, Bool.not_false, Bool.false_eq_true, and_self, true_or, or_true, exists_and_left, exists_and_right, ite_true, ite_false, exists_const, exists_eq, exists_eq', decide_true, decide_false, Bool.not_true, Bool.not_false, F__law_refused_right]
          exact ⟨ra, sa, by omega, fun _ _ => trivial⟩
theorem ok_law (Fn : FunD c.K "law" "law" (defArgs s_law) (defBody s_law) (defScope s_law) [] [] f fd) {Pt : Addr} (hc : ∀ cells, Ds P w mg base ⟨c.K, c.R, cells, [(Pt, lamQ)]⟩ ∧ Dn P w c.K mg base "_law_hand" 2 ["_law_script"] (spPen c.K) ∧
    DnW P w c.K mg base CX0 "cross_spans" 8 "one" "other" (spD ⟨c.K, c.R, cells, [(Pt, lamQ)]⟩ 2 F_cross_spans) ∧
    Dn P w c.K mg base "_law_doings_right" 10 ["_law_hand_here", "_law_one", "_law_other", "_law_due"] (spD ⟨c.K, c.R, cells, [(Pt, lamQ)]⟩ 4 F__law_doings_right) ∧
    Dn P w c.K mg base "_law_sums_right" 10 ["_law_hand_here", "_law_one", "_law_other", "_law_third", "_law_due"] (spD ⟨c.K, c.R, cells, [(Pt, lamQ)]⟩ 5 F__law_sums_right) ∧
    Dn P w c.K mg base "_law_refused_right" 13 ["_law_hand_here", "_law_one"] (spD ⟨c.K, c.R, cells, [(Pt, lamQ)]⟩ 2 F__law_refused_right)) :
    FnOk P w c.K mg base CX0 15 f fd ["_law_script"] (spLaw c.K Pt) := by
  refine Fn.ok sc_law (fun vs H Q E h => by obtain ⟨a, ns, rfl, _⟩ := h; rfl) fun cdv A outer s H vs Q E hr h => ?_
  obtain ⟨a, ns, rfl, hS, hl, hP, q⟩ := h
  obtain ⟨D0, d1, d2, d3, d4, d5⟩ := hc (ns.take 60)
  obtain ⟨tr, hp, hw⟩ := law_body (c := ⟨c.K, c.R, ns.take 60, [(Pt, lamQ)]⟩) (cdv := cdv) (A := A) (outer := outer) (s := s) (H := H) (E := E) (Q := Q) D0 d1 d2 d3 d4 d5 hr rfl rfl hS hl hP q
  exact ⟨tr, hp.nox, hw⟩
end
end K14

set_option Elab.async false
set_option linter.all false
set_option maxRecDepth 100000
set_option maxHeartbeats 0
namespace K14
open PySem PySem.Spec PyProof.Rows L2 Dp
/-- ValueError.__init__ read from its class -/
def vvB (K : PySem.W.Frag) : Bool := match PySem.W.findCls K (.type "ValueError") (.type "type") "__init__" with
  | some (.val (.builtin b)) => b == "ValueError.__init__"
  | _ => false
theorem vvB_ok {K : PySem.W.Frag} (h : vvB K = true) : PySem.W.findCls K (.type "ValueError") (.type "type") "__init__" = some (.val (.builtin "ValueError.__init__")) := by
  unfold vvB at h
  split at h
  · rename_i b e
    rw [e, eq_of_beq h]
  · cases h
def dd_is_integer : He5.DefA := ⟨fun K => He.fAd K ("is_integer", none), "is_integer", "is_integer", defArgs s_is_integer, defBody s_is_integer, defScope s_is_integer, [], []⟩
def dd_is_within : He5.DefA := ⟨fun K => He.fAd K ("is_within", none), "is_within", "is_within", defArgs s_is_within, defBody s_is_within, defScope s_is_within, [], []⟩
def dd_is_listed : He5.DefA := ⟨fun K => He.fAd K ("is_listed", none), "is_listed", "is_listed", defArgs s_is_listed, defBody s_is_listed, defScope s_is_listed, [], []⟩
def dd_are_integers : He5.DefA := ⟨fun K => He.fAd K ("are_integers", none), "are_integers", "are_integers", defArgs s_are_integers, defBody s_are_integers, defScope s_are_integers, [], []⟩
def dd_Row___init__ : He5.DefA := ⟨fun K => He.fAd K ("Row", some "__init__"), "__init__", "Row.__init__", defArgs s_Row___init__, defBody s_Row___init__, defScope s_Row___init__, [], []⟩
def dd_need_row : He5.DefA := ⟨fun K => He.fAd K ("need_row", none), "need_row", "need_row", defArgs s_need_row, defBody s_need_row, defScope s_need_row, [], []⟩
def dd_need_same_beats : He5.DefA := ⟨fun K => He.fAd K ("need_same_beats", none), "need_same_beats", "need_same_beats", defArgs s_need_same_beats, defBody s_need_same_beats, defScope s_need_same_beats, [], []⟩
def dd_need_rows : He5.DefA := ⟨fun K => He.fAd K ("need_rows", none), "need_rows", "need_rows", defArgs s_need_rows, defBody s_need_rows, defScope s_need_rows, [], []⟩
def dd_ring_product : He5.DefA := ⟨fun K => He.fAd K ("ring_product", none), "ring_product", "ring_product", defArgs s_ring_product, defBody s_ring_product, defScope s_ring_product, [], []⟩
def dd_Row___eq__ : He5.DefA := ⟨fun K => He.fAd K ("Row", some "__eq__"), "__eq__", "Row.__eq__", defArgs s_Row___eq__, defBody s_Row___eq__, defScope s_Row___eq__, [], []⟩
def dd_Row_left_out : He5.DefA := ⟨fun K => He.fAd K ("Row", some "left_out"), "left_out", "Row.left_out", defArgs s_Row_left_out, defBody s_Row_left_out, defScope s_Row_left_out, [], []⟩
def dd_Row_times : He5.DefA := ⟨fun K => He.fAd K ("Row", some "times"), "times", "Row.times", defArgs s_Row_times, defBody s_Row_times, defScope s_Row_times, [], []⟩
def dd_Row_added : He5.DefA := ⟨fun K => He.fAd K ("Row", some "added"), "added", "Row.added", defArgs s_Row_added, defBody s_Row_added, defScope s_Row_added, [], []⟩
def dd_Row_turned : He5.DefA := ⟨fun K => He.fAd K ("Row", some "turned"), "turned", "Row.turned", defArgs s_Row_turned, defBody s_Row_turned, defScope s_Row_turned, [], []⟩
def dd_Row_mirrored : He5.DefA := ⟨fun K => He.fAd K ("Row", some "mirrored"), "mirrored", "Row.mirrored", defArgs s_Row_mirrored, defBody s_Row_mirrored, defScope s_Row_mirrored, [], []⟩
def dd_Row_stretched : He5.DefA := ⟨fun K => He.fAd K ("Row", some "stretched"), "stretched", "Row.stretched", defArgs s_Row_stretched, defBody s_Row_stretched, defScope s_Row_stretched, [], []⟩
def dd_Row_product : He5.DefA := ⟨fun K => He.fAd K ("Row", some "product"), "product", "Row.product", defArgs s_Row_product, defBody s_Row_product, defScope s_Row_product, [], []⟩
def dd_cross_spans : He5.DefA := ⟨fun K => He.fAd K ("cross_spans", none), "cross_spans", "cross_spans", defArgs s_cross_spans, defBody s_cross_spans, defScope s_cross_spans, [], []⟩
def dd_spans : He5.DefA := ⟨fun K => He.fAd K ("spans", none), "spans", "spans", defArgs s_spans, defBody s_spans, defScope s_spans, [], []⟩
def dd_shown : He5.DefA := ⟨fun K => He.fAd K ("shown", none), "shown", "shown", defArgs s_shown, defBody s_shown, defScope s_shown, [], []⟩
def dd_BeatError___init__ : He5.DefA := ⟨fun K => He.fAd K ("BeatError", some "__init__"), "__init__", "BeatError.__init__", defArgs s_BeatError___init__, defBody s_BeatError___init__, defScope s_BeatError___init__, [.str "something is wrong"], []⟩
def dd_BadRow___init__ : He5.DefA := ⟨fun K => He.fAd K ("BadRow", some "__init__"), "__init__", "BadRow.__init__", defArgs s_BadRow___init__, defBody s_BadRow___init__, defScope s_BadRow___init__, [], []⟩
def dd_Misfit___init__ : He5.DefA := ⟨fun K => He.fAd K ("Misfit", some "__init__"), "__init__", "Misfit.__init__", defArgs s_Misfit___init__, defBody s_Misfit___init__, defScope s_Misfit___init__, [], []⟩
def dd__law_take : He5.DefA := ⟨fun K => He.fAd K ("_law_take", none), "_law_take", "_law_take", defArgs s__law_take, defBody s__law_take, defScope s__law_take, [], []⟩
def dd__law_pick : He5.DefA := ⟨fun K => He.fAd K ("_law_pick", none), "_law_pick", "_law_pick", defArgs s__law_pick, defBody s__law_pick, defScope s__law_pick, [], []⟩
def dd__law_row : He5.DefA := ⟨fun K => He.fAd K ("_law_row", none), "_law_row", "_law_row", defArgs s__law_row, defBody s__law_row, defScope s__law_row, [], []⟩
def dd__law_spans : He5.DefA := ⟨fun K => He.fAd K ("_law_spans", none), "_law_spans", "_law_spans", defArgs s__law_spans, defBody s__law_spans, defScope s__law_spans, [], []⟩
def dd__law_divides : He5.DefA := ⟨fun K => He.fAd K ("_law_divides", none), "_law_divides", "_law_divides", defArgs s__law_divides, defBody s__law_divides, defScope s__law_divides, [], []⟩
def dd__law_turned : He5.DefA := ⟨fun K => He.fAd K ("_law_turned", none), "_law_turned", "_law_turned", defArgs s__law_turned, defBody s__law_turned, defScope s__law_turned, [], []⟩
def dd__law_heard : He5.DefA := ⟨fun K => He.fAd K ("_law_heard", none), "_law_heard", "_law_heard", defArgs s__law_heard, defBody s__law_heard, defScope s__law_heard, [], []⟩
def dd__law_hand : He5.DefA := ⟨fun K => He.fAd K ("_law_hand", none), "_law_hand", "_law_hand", defArgs s__law_hand, defBody s__law_hand, defScope s__law_hand, [], []⟩
def dd__law_doings_right : He5.DefA := ⟨fun K => He.fAd K ("_law_doings_right", none), "_law_doings_right", "_law_doings_right", defArgs s__law_doings_right, defBody s__law_doings_right, defScope s__law_doings_right, [], []⟩
def dd__law_sums_right : He5.DefA := ⟨fun K => He.fAd K ("_law_sums_right", none), "_law_sums_right", "_law_sums_right", defArgs s__law_sums_right, defBody s__law_sums_right, defScope s__law_sums_right, [], []⟩
def dd__law_refused_right : He5.DefA := ⟨fun K => He.fAd K ("_law_refused_right", none), "_law_refused_right", "_law_refused_right", defArgs s__law_refused_right, defBody s__law_refused_right, defScope s__law_refused_right, [], []⟩
def dd_law : He5.DefA := ⟨fun K => He.fAd K ("law", none), "law", "law", defArgs s_law, defBody s_law, defScope s_law, [], []⟩
def fn0 : List He5.DefA := [dd_is_integer, dd_is_within, dd_is_listed, dd_are_integers, dd_Row___init__, dd_need_row, dd_need_same_beats, dd_need_rows, dd_ring_product, dd_Row___eq__, dd_Row_left_out, dd_Row_times]
def fn1 : List He5.DefA := [dd_Row_added, dd_Row_turned, dd_Row_mirrored, dd_Row_stretched, dd_Row_product, dd_cross_spans, dd_spans, dd_shown, dd_BeatError___init__, dd_BadRow___init__, dd_Misfit___init__, dd__law_take]
def fn2 : List He5.DefA := [dd__law_pick, dd__law_row, dd__law_spans, dd__law_divides, dd__law_turned, dd__law_heard, dd__law_hand, dd__law_doings_right, dd__law_sums_right, dd__law_refused_right, dd_law]
def fn : List He5.DefA := fn0 ++ fn1 ++ fn2
def fa0 : List He.Fa := [.glo "is_integer", .glo "is_within", .glo "is_listed", .glo "are_integers", .glo "need_row", .glo "need_same_beats", .glo "need_rows", .glo "ring_product", .glo "cross_spans", .glo "spans", .glo "shown", .glo "_law_take"]
def fa1 : List He.Fa := [.glo "_law_pick", .glo "_law_row", .glo "_law_spans", .glo "_law_divides", .glo "_law_turned", .glo "_law_heard", .glo "_law_hand", .glo "_law_doings_right", .glo "_law_sums_right", .glo "_law_refused_right", .glo "law", .glo "BeatError"]
def fa2 : List He.Fa := [.glo "BadRow", .glo "BadNumber", .glo "Misfit", .glo "NoDivisor", .glo "TooMany", .meth "Row" "__eq__", .meth "Row" "left_out", .meth "Row" "times", .meth "Row" "added", .meth "Row" "turned", .meth "Row" "mirrored", .meth "Row" "stretched"]
def fa3 : List He.Fa := [.meth "Row" "product", .free "len", .free "isinstance", .free "int", .free "bool", .free "list", .free "tuple", .free "all", .free "sum", .free "abs", .free "range", .free "enumerate"]
def fa4 : List He.Fa := [.free "zip", .free "max", .free "type", .free "str", .free "ValueError"]
def fa : List He.Fa := faRow ++ (fa0 ++ fa1 ++ fa2 ++ fa3 ++ fa4)
def lo0 : List PySem.Str := [("_wall" : PySem.Str), ("__name__" : PySem.Str), ("shown" : PySem.Str), ("BeatError" : PySem.Str), ("BadRow" : PySem.Str), ("BadNumber" : PySem.Str), ("Misfit" : PySem.Str), ("Missing" : PySem.Str), ("NoBeat" : PySem.Str), ("NoDivisor" : PySem.Str), ("Twice" : PySem.Str), ("TooMany" : PySem.Str)]
def lo1 : List PySem.Str := [("BadText" : PySem.Str), ("DIGITS" : PySem.Str), ("is_integer" : PySem.Str), ("is_within" : PySem.Str), ("is_listed" : PySem.Str), ("are_integers" : PySem.Str), ("first_twice" : PySem.Str), ("need_integer" : PySem.Str), ("need_many" : PySem.Str), ("written" : PySem.Str), ("integer_of" : PySem.Str), ("leading_integers" : PySem.Str)]
def lo2 : List PySem.Str := [("need_row" : PySem.Str), ("need_same_beats" : PySem.Str), ("need_rows" : PySem.Str), ("ring_product" : PySem.Str), ("Row" : PySem.Str), ("cross_spans" : PySem.Str), ("spans" : PySem.Str), ("_law_hand" : PySem.Str), ("_law_take" : PySem.Str), ("_law_pick" : PySem.Str), ("_law_spans" : PySem.Str), ("_law_row" : PySem.Str)]
def lo3 : List PySem.Str := [("_law_heard" : PySem.Str), ("_law_divides" : PySem.Str), ("_law_turned" : PySem.Str), ("_law_doings_right" : PySem.Str), ("_law_sums_right" : PySem.Str), ("_law_refused_right" : PySem.Str)]
def lo : List PySem.Str := lo0 ++ lo1 ++ lo2 ++ lo3
def eb0 : PySem.W.Frag → List Bool := fun K => [erB K (He.ga K "BadRow"), He.eqO (PySem.W.findIn K (.ref (He.ga K "BadRow")) "part") (some none), obB (PySem.W.exmOne K (.ref (He.ga K "BadRow")) (.ref (He.ga K "BeatError"))) true, erB K (He.ga K "BadNumber"), He.eqO (PySem.W.findIn K (.ref (He.ga K "BadNumber")) "part") (some none), obB (PySem.W.exmOne K (.ref (He.ga K "BadNumber")) (.ref (He.ga K "BeatError"))) true, erB K (He.ga K "Misfit"), He.eqO (PySem.W.findIn K (.ref (He.ga K "Misfit")) "part") (some none), obB (PySem.W.exmOne K (.ref (He.ga K "Misfit")) (.ref (He.ga K "BeatError"))) true, obB (PySem.W.kitOne K (.ref (He.ga K "BadRow")) (.ref (He.ga K "BadRow"))) true, obB (PySem.W.kitOne K (.ref (He.ga K "BadRow")) (.ref (He.ga K "BadNumber"))) false, obB (PySem.W.kitOne K (.ref (He.ga K "BadRow")) (.ref (He.ga K "Misfit"))) false]
def eb1 : PySem.W.Frag → List Bool := fun K => [obB (PySem.W.kitOne K (.ref (He.ga K "BadRow")) (.ref (He.ga K "NoDivisor"))) false, obB (PySem.W.kitOne K (.ref (He.ga K "BadRow")) (.ref (He.ga K "TooMany"))) false, obB (PySem.W.kitOne K (.ref (He.ga K "BadNumber")) (.ref (He.ga K "BadRow"))) false, obB (PySem.W.kitOne K (.ref (He.ga K "BadNumber")) (.ref (He.ga K "BadNumber"))) true, obB (PySem.W.kitOne K (.ref (He.ga K "BadNumber")) (.ref (He.ga K "Misfit"))) false, obB (PySem.W.kitOne K (.ref (He.ga K "BadNumber")) (.ref (He.ga K "NoDivisor"))) false, obB (PySem.W.kitOne K (.ref (He.ga K "BadNumber")) (.ref (He.ga K "TooMany"))) false, obB (PySem.W.kitOne K (.ref (He.ga K "Misfit")) (.ref (He.ga K "BadRow"))) false, obB (PySem.W.kitOne K (.ref (He.ga K "Misfit")) (.ref (He.ga K "BadNumber"))) false, obB (PySem.W.kitOne K (.ref (He.ga K "Misfit")) (.ref (He.ga K "Misfit"))) true, obB (PySem.W.kitOne K (.ref (He.ga K "Misfit")) (.ref (He.ga K "NoDivisor"))) false, obB (PySem.W.kitOne K (.ref (He.ga K "Misfit")) (.ref (He.ga K "TooMany"))) false]
def eb2 : PySem.W.Frag → List Bool := fun K => [obB (PySem.W.kitOne K (.type "NoneType") (.ref (He.ga K "BadRow"))) false, obB (PySem.W.kitOne K (.type "NoneType") (.ref (He.ga K "BadNumber"))) false, obB (PySem.W.kitOne K (.type "NoneType") (.ref (He.ga K "Misfit"))) false, obB (PySem.W.kitOne K (.type "NoneType") (.ref (He.ga K "NoDivisor"))) false, obB (PySem.W.kitOne K (.type "NoneType") (.ref (He.ga K "TooMany"))) false, obB (PySem.W.kitOne K (.type "NoneType") (.ref (He.ga K "Row"))) false, obB (PySem.W.kitOne K (.type "int") (.ref (He.ga K "Row"))) false, obB (PySem.W.kitOne K (.type "bool") (.ref (He.ga K "Row"))) false, obB (PySem.W.kitOne K (.type "str") (.ref (He.ga K "Row"))) false, obB (PySem.W.kitOne K (.type "list") (.ref (He.ga K "Row"))) false, obB (PySem.W.kitOne K (.type "tuple") (.ref (He.ga K "Row"))) false, obB (PySem.W.kitOne K (.type "dict") (.ref (He.ga K "Row"))) false]
def eb3 : PySem.W.Frag → List Bool := fun K => [vvB K, crB K (He.ga K "BeatError"), cfnB K (He.ga K "BeatError") "__init__" (He.fAd K ("BeatError", some "__init__")), iniB K (He.ga K "BadRow") (He.fAd K ("BadRow", some "__init__")), iniB K (He.ga K "Misfit") (He.fAd K ("Misfit", some "__init__"))]
def eb : PySem.W.Frag → List Bool := fun K => eb0 K ++ eb1 K ++ eb2 K ++ eb3 K

def xb : PySem.W.Frag → Bool := fun K => rowB K (He.ga K "Row") && (crB K (He.ga K "Row") && (eqClsB K (He.ga K "Row") (He.ma K (He.ga K "Row") "__eq__") && (He.eqO (PySem.W.nsIn K mainGlobals "gcd") (some (some (.builtin "math.gcd"))) && ((eb K).all id && (true)))))
abbrev R : PySem.W.OpenRow := PySem.W.OpenLaw.row PySem.Challenge.rw_spanalike_k14_cross_spans
def tf : List He.Defn := [("_law_refused_right", none)]
abbrev hk : PySem.W.Hook := hookZ fa fn tf xb 6
def ob (s : PySem.W.SharedT) : He.AlD := obsZ fa fn tf xb 6 (HandSHeadRun.getT s)
theorem ob_eq (s : PySem.W.SharedT) : ob s = hk.obs s.abs := obsZ_eq (HandSHeadRun.getT_eq s)
theorem run (w : World) : HandSHeadRun.RunEqI R (PySem.W.view R.prog [0, 48]) hk ob 9000 lo w := by
  unfold HandSHeadRun.RunEqI
  kernel_rfl
end K14

set_option Elab.async false
set_option linter.all false
set_option maxRecDepth 100000
set_option maxHeartbeats 4000000
namespace K14
open PySem PySem.Spec PyProof.Rows L2 Dp
theorem eb_at {K : PySem.W.Frag} {i : Nat} {b : Bool} (h : (eb K).all id = true) (e : (eb K)[i]? = some b) : b = true := List.all_eq_true.mp h b (List.mem_of_getElem? e)
theorem iniB_ok {K : PySem.W.Frag} {C g : Addr} (h : iniB K C g = true) : PySem.W.findIn K (.ref C) "__init__" = some (some (.ref g)) ∧ PySem.W.typeIn K (.ref g) = some (.type "function") := ⟨He.eqO_ok (He.ba h).1, of_decide_eq_true (He.ba h).2⟩
theorem dnx_mk {P : Program} {w : World} {K : PySem.W.Frag} {mg : Str → Option Value} {base : Heap} {x qual : Str} {params : Arguments} {body : List Stmt} {scope : Scope} {f : Addr} {fd : FuncData} {ps : List Str} {k : Nat} {sp : Sp} (Fn : FunD K x qual params body scope [] [] f fd) (hm : mg x = some (.ref f)) (F : FnOk P w K mg base (L2.CX P w) k f fd ps sp) (h : BindH x qual params body scope ps) : DnX P w K mg base x k ps sp :=
  ⟨f, fd, hm, F, Fn.kp, (kb_of Fn h).1, (kb_of Fn h).2.1⟩
theorem facts {P : Program} {w : World} {K : PySem.W.Frag} {h : Heap} {mg : Str → Option Value} {f : Addr} (X : K.In h) (G : h.Ns mainGlobals mg) (hfa : mg ("law" : Str) = some (.ref f)) (c : SaysZ fa fn tf xb h K) :
    ∃ fd : FuncData, (∀ (s : Shared) (v : Value), BindsTo s fd ⟨[v], []⟩ [("_law_script", v)]) ∧ ∀ base : Heap, K.In base → base.Ns mainGlobals mg → LamX.TabB base mg (He.cT K ("_law_refused_right", none)).1 (He.cT K ("_law_refused_right", none)).2 → FnOk P w K mg base CX0 15 f fd ["_law_script"] (spLaw K (He.cT K ("_law_refused_right", none)).2) := by
  obtain ⟨cD, cX⟩ := c.y.d
  obtain ⟨fd_0, Fn_is_integer⟩ := cD.def_ 0 (d := dd_is_integer) rfl
  obtain ⟨fd_1, Fn_is_within⟩ := cD.def_ 1 (d := dd_is_within) rfl
  obtain ⟨fd_2, Fn_is_listed⟩ := cD.def_ 2 (d := dd_is_listed) rfl
  obtain ⟨fd_3, Fn_are_integers⟩ := cD.def_ 3 (d := dd_are_integers) rfl
  obtain ⟨fd_4, Fn_Row___init__⟩ := cD.def_ 4 (d := dd_Row___init__) rfl
  obtain ⟨fd_5, Fn_need_row⟩ := cD.def_ 5 (d := dd_need_row) rfl
  obtain ⟨fd_6, Fn_need_same_beats⟩ := cD.def_ 6 (d := dd_need_same_beats) rfl
  obtain ⟨fd_7, Fn_need_rows⟩ := cD.def_ 7 (d := dd_need_rows) rfl
  obtain ⟨fd_8, Fn_ring_product⟩ := cD.def_ 8 (d := dd_ring_product) rfl
  obtain ⟨fd_9, Fn_Row___eq__⟩ := cD.def_ 9 (d := dd_Row___eq__) rfl
  obtain ⟨fd_10, Fn_Row_left_out⟩ := cD.def_ 10 (d := dd_Row_left_out) rfl
  obtain ⟨fd_11, Fn_Row_times⟩ := cD.def_ 11 (d := dd_Row_times) rfl
  obtain ⟨fd_12, Fn_Row_added⟩ := cD.def_ 12 (d := dd_Row_added) rfl
  obtain ⟨fd_13, Fn_Row_turned⟩ := cD.def_ 13 (d := dd_Row_turned) rfl
  obtain ⟨fd_14, Fn_Row_mirrored⟩ := cD.def_ 14 (d := dd_Row_mirrored) rfl
  obtain ⟨fd_15, Fn_Row_stretched⟩ := cD.def_ 15 (d := dd_Row_stretched) rfl
  obtain ⟨fd_16, Fn_Row_product⟩ := cD.def_ 16 (d := dd_Row_product) rfl
  obtain ⟨fd_17, Fn_cross_spans⟩ := cD.def_ 17 (d := dd_cross_spans) rfl
  obtain ⟨fd_18, Fn_spans⟩ := cD.def_ 18 (d := dd_spans) rfl
  obtain ⟨fd_19, Fn_shown⟩ := cD.def_ 19 (d := dd_shown) rfl
  obtain ⟨fd_20, Fn_BeatError___init__⟩ := cD.def_ 20 (d := dd_BeatError___init__) rfl
  obtain ⟨fd_21, Fn_BadRow___init__⟩ := cD.def_ 21 (d := dd_BadRow___init__) rfl
  obtain ⟨fd_22, Fn_Misfit___init__⟩ := cD.def_ 22 (d := dd_Misfit___init__) rfl
  obtain ⟨fd_23, Fn__law_take⟩ := cD.def_ 23 (d := dd__law_take) rfl
  obtain ⟨fd_24, Fn__law_pick⟩ := cD.def_ 24 (d := dd__law_pick) rfl
  obtain ⟨fd_25, Fn__law_row⟩ := cD.def_ 25 (d := dd__law_row) rfl
  obtain ⟨fd_26, Fn__law_spans⟩ := cD.def_ 26 (d := dd__law_spans) rfl
  obtain ⟨fd_27, Fn__law_divides⟩ := cD.def_ 27 (d := dd__law_divides) rfl
  obtain ⟨fd_28, Fn__law_turned⟩ := cD.def_ 28 (d := dd__law_turned) rfl
  obtain ⟨fd_29, Fn__law_heard⟩ := cD.def_ 29 (d := dd__law_heard) rfl
  obtain ⟨fd_30, Fn__law_hand⟩ := cD.def_ 30 (d := dd__law_hand) rfl
  obtain ⟨fd_31, Fn__law_doings_right⟩ := cD.def_ 31 (d := dd__law_doings_right) rfl
  obtain ⟨fd_32, Fn__law_sums_right⟩ := cD.def_ 32 (d := dd__law_sums_right) rfl
  obtain ⟨fd_33, Fn__law_refused_right⟩ := cD.def_ 33 (d := dd__law_refused_right) rfl
  obtain ⟨fd_34, Fn_law⟩ := cD.def_ 34 (d := dd_law) rfl
  obtain ⟨x1, x2⟩ := He.ba cX
  obtain ⟨x2, x3⟩ := He.ba x2
  obtain ⟨x3, y0⟩ := He.ba x3
  obtain ⟨z0, y1⟩ := He.ba y0
  obtain ⟨z1, y2⟩ := He.ba y1
  have hrow : ∀ f ∈ faRow, f.ok K = true := fun f hf => c.y.facts (List.mem_append_left _ hf)
  have e := hfa.symm.trans (He.glo_ok X G (cD.fact 30 (f := .glo "law") rfl))
  cases e
  have b := FunD.bindsA (ps := ["_law_script"]) Fn_law fun _ _ _ _ _ _ us hl => match us, hl with | [_], _ => rfl
  refine ⟨fd_34, fun s v => b s [v] rfl, fun base _ _ TB => ok_law (c := ⟨K, He.ga K "Row", [], []⟩) Fn_law fun cells => ?_⟩
  have T : Tb ⟨K, He.ga K "Row", cells, [((He.cT K ("_law_refused_right", none)).2, lamQ)]⟩ mg := ⟨rowT_of rfl x1 hrow, (He.free_ok X G (cD.fact 45 (f := .free "len") rfl)), (He.free_ok X G (cD.fact 46 (f := .free "isinstance") rfl)), (He.free_ok X G (cD.fact 47 (f := .free "int") rfl)), (He.free_ok X G (cD.fact 48 (f := .free "bool") rfl)), (He.free_ok X G (cD.fact 49 (f := .free "list") rfl)), (He.free_ok X G (cD.fact 50 (f := .free "tuple") rfl)), (He.free_ok X G (cD.fact 51 (f := .free "all") rfl)), (He.free_ok X G (cD.fact 52 (f := .free "sum") rfl)), (He.free_ok X G (cD.fact 53 (f := .free "abs") rfl)), (He.free_ok X G (cD.fact 54 (f := .free "range") rfl)), (He.free_ok X G (cD.fact 55 (f := .free "enumerate") rfl)), (He.free_ok X G (cD.fact 56 (f := .free "zip") rfl)), (He.free_ok X G (cD.fact 57 (f := .free "max") rfl)), (He.free_ok X G (cD.fact 58 (f := .free "type") rfl)), (He.free_ok X G (cD.fact 59 (f := .free "str") rfl)), (He.free_ok X G (cD.fact 60 (f := .free "ValueError") rfl)), PySem.W.mg_of X G (He.eqO_ok z0)⟩
  have Xf : Ex ⟨K, He.ga K "Row", cells, [((He.cT K ("_law_refused_right", none)).2, lamQ)]⟩ mg := ⟨(He.glo_ok X G (cD.fact 31 (f := .glo "BeatError") rfl)), (He.glo_ok X G (cD.fact 32 (f := .glo "BadRow") rfl)), (He.glo_ok X G (cD.fact 33 (f := .glo "BadNumber") rfl)), (He.glo_ok X G (cD.fact 34 (f := .glo "Misfit") rfl)), (He.glo_ok X G (cD.fact 35 (f := .glo "NoDivisor") rfl)), (He.glo_ok X G (cD.fact 36 (f := .glo "TooMany") rfl)), erB_ok (eb_at z1 (i := 0) rfl), He.eqO_ok (eb_at z1 (i := 1) rfl), obB_ok (eb_at z1 (i := 2) rfl), erB_ok (eb_at z1 (i := 3) rfl), He.eqO_ok (eb_at z1 (i := 4) rfl), obB_ok (eb_at z1 (i := 5) rfl), erB_ok (eb_at z1 (i := 6) rfl), He.eqO_ok (eb_at z1 (i := 7) rfl), obB_ok (eb_at z1 (i := 8) rfl), obB_ok (eb_at z1 (i := 9) rfl), obB_ok (eb_at z1 (i := 10) rfl), obB_ok (eb_at z1 (i := 11) rfl), obB_ok (eb_at z1 (i := 12) rfl), obB_ok (eb_at z1 (i := 13) rfl), obB_ok (eb_at z1 (i := 14) rfl), obB_ok (eb_at z1 (i := 15) rfl), obB_ok (eb_at z1 (i := 16) rfl), obB_ok (eb_at z1 (i := 17) rfl), obB_ok (eb_at z1 (i := 18) rfl), obB_ok (eb_at z1 (i := 19) rfl), obB_ok (eb_at z1 (i := 20) rfl), obB_ok (eb_at z1 (i := 21) rfl), obB_ok (eb_at z1 (i := 22) rfl), obB_ok (eb_at z1 (i := 23) rfl), obB_ok (eb_at z1 (i := 24) rfl), obB_ok (eb_at z1 (i := 25) rfl), obB_ok (eb_at z1 (i := 26) rfl), obB_ok (eb_at z1 (i := 27) rfl), obB_ok (eb_at z1 (i := 28) rfl), obB_ok (eb_at z1 (i := 29) rfl), obB_ok (eb_at z1 (i := 30) rfl), obB_ok (eb_at z1 (i := 31) rfl), obB_ok (eb_at z1 (i := 32) rfl), obB_ok (eb_at z1 (i := 33) rfl), obB_ok (eb_at z1 (i := 34) rfl), obB_ok (eb_at z1 (i := 35) rfl)⟩
  have vV := vvB_ok (eb_at z1 (i := 36) rfl)
  have rB := crB_ok (eb_at z1 (i := 37) rfl)
  have cB := cfnB_ok (eb_at z1 (i := 38) rfl)
  have Fb := ok_beat (P := P) (w := w) (base := base) (c := ⟨K, He.ga K "Row", cells, [((He.cT K ("_law_refused_right", none)).2, lamQ)]⟩) Fn_BeatError___init__ T vV
  have bb : Binds K fd_20 ["self", "wording"] [] := by
    obtain ⟨ds, v, b⟩ := Fn_BeatError___init__.binds1 (ps := ["self", "wording"]) 2 1 (by show [_] ≠ []; exact List.cons_ne_nil _ _) rfl fun _ _ _ _ _ _ _ us its h1 h2 => match us, its, h1, h2 with | [_, _], [_], _, _ => ⟨_, rfl, rfl⟩
    cases v
    exact b
  have d_is_integer := dn_mk (P := P) (w := w) (base := base) Fn_is_integer (He.glo_ok X G (cD.fact 8 (f := .glo "is_integer") rfl)) (ok_is_integer Fn_is_integer T) (fun _ _ _ _ _ _ us hl => match us, hl with | [_], _ => ⟨rfl, rfl, rfl⟩)
  have d_is_within := dn_mk (P := P) (w := w) (base := base) Fn_is_within (He.glo_ok X G (cD.fact 9 (f := .glo "is_within") rfl)) (ok_is_within Fn_is_within T d_is_integer) (fun _ _ _ _ _ _ us hl => match us, hl with | [_, _, _], _ => ⟨rfl, rfl, rfl⟩)
  have d_is_listed := dn_mk (P := P) (w := w) (base := base) Fn_is_listed (He.glo_ok X G (cD.fact 10 (f := .glo "is_listed") rfl)) (ok_is_listed Fn_is_listed T) (fun _ _ _ _ _ _ us hl => match us, hl with | [_], _ => ⟨rfl, rfl, rfl⟩)
  have d_are_integers := dn_mk (P := P) (w := w) (base := base) Fn_are_integers (He.glo_ok X G (cD.fact 11 (f := .glo "are_integers") rfl)) (ok_are_integers Fn_are_integers T d_is_integer d_is_listed) (fun _ _ _ _ _ _ us hl => match us, hl with | [_], _ => ⟨rfl, rfl, rfl⟩)
  have n_Row := nd_mk (P := P) (w := w) (base := base) Fn_Row___init__ (He.glo_ok X G (cD.fact 7 (f := .glo "Row") rfl)) (He.mkr_ok (cD.fact 6 (f := .mkr "Row") rfl)) (ok_init Fn_Row___init__ T d_are_integers) (fun _ _ _ _ _ _ us hl => match us, hl with | [_, _], _ => ⟨rfl, rfl, rfl⟩)
  have d_need_row := dn_mk (P := P) (w := w) (base := base) Fn_need_row (He.glo_ok X G (cD.fact 12 (f := .glo "need_row") rfl)) (ok_need_row Fn_need_row T n_Row) (fun _ _ _ _ _ _ us hl => match us, hl with | [_, _], _ => ⟨rfl, rfl, rfl⟩)
  have d_need_same_beats := dn_mk (P := P) (w := w) (base := base) Fn_need_same_beats (He.glo_ok X G (cD.fact 13 (f := .glo "need_same_beats") rfl)) (ok_need_same_beats Fn_need_same_beats T) (fun _ _ _ _ _ _ us hl => match us, hl with | [_, _], _ => ⟨rfl, rfl, rfl⟩)
  have d_need_rows := dn_mk (P := P) (w := w) (base := base) Fn_need_rows (He.glo_ok X G (cD.fact 14 (f := .glo "need_rows") rfl)) (ok_need_rows Fn_need_rows T d_need_row d_need_same_beats) (fun _ _ _ _ _ _ us hl => match us, hl with | [_, _], _ => ⟨rfl, rfl, rfl⟩)
  have d_ring_product := dn_mk (P := P) (w := w) (base := base) Fn_ring_product (He.glo_ok X G (cD.fact 15 (f := .glo "ring_product") rfl)) (ok_ring_product Fn_ring_product T) (fun _ _ _ _ _ _ us hl => match us, hl with | [_, _], _ => ⟨rfl, rfl, rfl⟩)
  have eq_ := ed_mk (cs := cells) (TT := [((He.cT K ("_law_refused_right", none)).2, lamQ)]) (P := P) (w := w) (base := base) Fn_Row___eq__ (eqCls_of x3) (ok_eq Fn_Row___eq__ T n_Row) (fun _ _ _ _ _ _ us hl => match us, hl with | [_, _], _ => ⟨rfl, rfl, rfl⟩)
  have m_left_out := md_mk (P := P) (w := w) (base := base) Fn_Row_left_out (He.meth_ok (cD.fact 38 (f := .meth "Row" "left_out") rfl)) (ok_left_out Fn_Row_left_out T n_Row) (fun _ _ _ _ _ _ us hl => match us, hl with | [_], _ => ⟨rfl, rfl, rfl⟩)
  have m_times := md_mk (P := P) (w := w) (base := base) Fn_Row_times (He.meth_ok (cD.fact 39 (f := .meth "Row" "times") rfl)) (ok_times Fn_Row_times T d_is_integer n_Row) (fun _ _ _ _ _ _ us hl => match us, hl with | [_, _], _ => ⟨rfl, rfl, rfl⟩)
  have m_added := md_mk (P := P) (w := w) (base := base) Fn_Row_added (He.meth_ok (cD.fact 40 (f := .meth "Row" "added") rfl)) (ok_added Fn_Row_added T d_need_row d_need_same_beats n_Row) (fun _ _ _ _ _ _ us hl => match us, hl with | [_, _], _ => ⟨rfl, rfl, rfl⟩)
  have m_turned := md_mk (P := P) (w := w) (base := base) Fn_Row_turned (He.meth_ok (cD.fact 41 (f := .meth "Row" "turned") rfl)) (ok_turned Fn_Row_turned T d_is_integer n_Row) (fun _ _ _ _ _ _ us hl => match us, hl with | [_, _], _ => ⟨rfl, rfl, rfl⟩)
  have m_mirrored := md_mk (P := P) (w := w) (base := base) Fn_Row_mirrored (He.meth_ok (cD.fact 42 (f := .meth "Row" "mirrored") rfl)) (ok_mirrored Fn_Row_mirrored T n_Row) (fun _ _ _ _ _ _ us hl => match us, hl with | [_], _ => ⟨rfl, rfl, rfl⟩)
  have m_stretched := md_mk (P := P) (w := w) (base := base) Fn_Row_stretched (He.meth_ok (cD.fact 43 (f := .meth "Row" "stretched") rfl)) (ok_stretched Fn_Row_stretched T d_is_within n_Row) (fun _ _ _ _ _ _ us hl => match us, hl with | [_, _], _ => ⟨rfl, rfl, rfl⟩)
  have m_product := md_mk (P := P) (w := w) (base := base) Fn_Row_product (He.meth_ok (cD.fact 44 (f := .meth "Row" "product") rfl)) (ok_product Fn_Row_product T d_need_row d_need_same_beats d_ring_product n_Row) (fun _ _ _ _ _ _ us hl => match us, hl with | [_, _], _ => ⟨rfl, rfl, rfl⟩)
  have d_cross_spans := dn_mk (P := P) (w := w) (base := base) Fn_cross_spans (He.glo_ok X G (cD.fact 16 (f := .glo "cross_spans") rfl)) (ok_cross_spans Fn_cross_spans T d_need_rows d_ring_product m_mirrored) (fun _ _ _ _ _ _ us hl => match us, hl with | [_, _], _ => ⟨rfl, rfl, rfl⟩)
  have d_spans := dn_mk (P := P) (w := w) (base := base) Fn_spans (He.glo_ok X G (cD.fact 17 (f := .glo "spans") rfl)) (ok_spans Fn_spans T d_need_row d_cross_spans) (fun _ _ _ _ _ _ us hl => match us, hl with | [_], _ => ⟨rfl, rfl, rfl⟩)
  have d_shown := dn_mk (P := P) (w := w) (base := base) Fn_shown (He.glo_ok X G (cD.fact 18 (f := .glo "shown") rfl)) (ok_shown Fn_shown T) (fun _ _ _ _ _ _ us hl => match us, hl with | [_], _ => ⟨rfl, rfl, rfl⟩)
  have e_BadRow : ErD P w K mg base "BadRow" (He.ga K "BadRow") 4 (spPart K "part") := ⟨_, fd_21, _, (He.glo_ok X G (cD.fact 32 (f := .glo "BadRow") rfl)), (Xf.er_BadRow).o, (iniB_ok (eb_at z1 (i := 39) rfl)).1, (iniB_ok (eb_at z1 (i := 39) rfl)).2, ok_badrow (fs := 0) (fds := fd_21) Fn_BadRow___init__ T Xf.g_BeatError rB cB Fb bb d_shown, (kb_of Fn_BadRow___init__ (fun _ _ _ _ _ _ us hl => match us, hl with | [_, _], _ => ⟨rfl, rfl, rfl⟩)).1⟩
  have e_Misfit : ErD P w K mg base "Misfit" (He.ga K "Misfit") 4 (spPart K "part") := ⟨_, fd_22, _, (He.glo_ok X G (cD.fact 34 (f := .glo "Misfit") rfl)), (Xf.er_Misfit).o, (iniB_ok (eb_at z1 (i := 40) rfl)).1, (iniB_ok (eb_at z1 (i := 40) rfl)).2, ok_misfit (fs := 0) (fds := fd_22) Fn_Misfit___init__ T Xf.g_BeatError rB cB Fb bb d_shown, (kb_of Fn_Misfit___init__ (fun _ _ _ _ _ _ us hl => match us, hl with | [_, _], _ => ⟨rfl, rfl, rfl⟩)).1⟩
  have x_need_row := dnx_mk (P := P) (w := w) (base := base) Fn_need_row (He.glo_ok X G (cD.fact 12 (f := .glo "need_row") rfl)) (okx_need_row Fn_need_row T Xf n_Row e_BadRow) (fun _ _ _ _ _ _ us hl => match us, hl with | [_, _], _ => ⟨rfl, rfl, rfl⟩)
  have x_need_same_beats := dnx_mk (P := P) (w := w) (base := base) Fn_need_same_beats (He.glo_ok X G (cD.fact 13 (f := .glo "need_same_beats") rfl)) (okx_need_same_beats Fn_need_same_beats T Xf e_Misfit) (fun _ _ _ _ _ _ us hl => match us, hl with | [_, _], _ => ⟨rfl, rfl, rfl⟩)
  have x_need_rows := dnx_mk (P := P) (w := w) (base := base) Fn_need_rows (He.glo_ok X G (cD.fact 14 (f := .glo "need_rows") rfl)) (okx_need_rows Fn_need_rows T x_need_row x_need_same_beats) (fun _ _ _ _ _ _ us hl => match us, hl with | [_, _], _ => ⟨rfl, rfl, rfl⟩)
  have x_cross_spans := dnx_mk (P := P) (w := w) (base := base) Fn_cross_spans (He.glo_ok X G (cD.fact 16 (f := .glo "cross_spans") rfl)) (okx_cross_spans Fn_cross_spans T x_need_rows) (fun _ _ _ _ _ _ us hl => match us, hl with | [_, _], _ => ⟨rfl, rfl, rfl⟩)
  have wx_cross_spans := dnw_mk (P := P) (w := w) (base := base) Fn_cross_spans (He.glo_ok X G (cD.fact 16 (f := .glo "cross_spans") rfl)) (okx_cross_spans Fn_cross_spans T x_need_rows)
  have w_cross_spans := dnw_mk (P := P) (w := w) (base := base) Fn_cross_spans (He.glo_ok X G (cD.fact 16 (f := .glo "cross_spans") rfl)) (ok_cross_spans Fn_cross_spans T d_need_rows d_ring_product m_mirrored)
  have d__law_take := dn_mk (P := P) (w := w) (base := base) Fn__law_take (He.glo_ok X G (cD.fact 19 (f := .glo "_law_take") rfl)) (ok_take Fn__law_take T) (fun _ _ _ _ _ _ us hl => match us, hl with | [_, _], _ => ⟨rfl, rfl, rfl⟩)
  have d__law_pick := dn_mk (P := P) (w := w) (base := base) Fn__law_pick (He.glo_ok X G (cD.fact 20 (f := .glo "_law_pick") rfl)) (ok_pick Fn__law_pick T d__law_take) (fun _ _ _ _ _ _ us hl => match us, hl with | [_, _], _ => ⟨rfl, rfl, rfl⟩)
  have d__law_row := dn_mk (P := P) (w := w) (base := base) Fn__law_row (He.glo_ok X G (cD.fact 21 (f := .glo "_law_row") rfl)) (ok_row Fn__law_row T d__law_take d__law_pick) (fun _ _ _ _ _ _ us hl => match us, hl with | [_, _], _ => ⟨rfl, rfl, rfl⟩)
  have d__law_spans := dn_mk (P := P) (w := w) (base := base) Fn__law_spans (He.glo_ok X G (cD.fact 22 (f := .glo "_law_spans") rfl)) (ok_lspans Fn__law_spans T) (fun _ _ _ _ _ _ us hl => match us, hl with | [_, _], _ => ⟨rfl, rfl, rfl⟩)
  have d__law_divides := dn_mk (P := P) (w := w) (base := base) Fn__law_divides (He.glo_ok X G (cD.fact 23 (f := .glo "_law_divides") rfl)) (ok_divides Fn__law_divides T) (fun _ _ _ _ _ _ us hl => match us, hl with | [_, _], _ => ⟨rfl, rfl, rfl⟩)
  have d__law_turned := dn_mk (P := P) (w := w) (base := base) Fn__law_turned (He.glo_ok X G (cD.fact 24 (f := .glo "_law_turned") rfl)) (ok_lturned Fn__law_turned T) (fun _ _ _ _ _ _ us hl => match us, hl with | [_, _], _ => ⟨rfl, rfl, rfl⟩)
  have D0 : Ds P w mg base ⟨K, He.ga K "Row", cells, [((He.cT K ("_law_refused_right", none)).2, lamQ)]⟩ := ⟨T, Xf, n_Row, eq_, m_left_out, m_times, m_added, m_turned, m_mirrored, m_stretched, m_product, d_cross_spans, d_spans, x_cross_spans, d__law_take, d__law_pick, d__law_row, d__law_spans, d__law_divides, d__law_turned⟩
  have d__law_hand := dn_mk (P := P) (w := w) (base := base) Fn__law_hand (He.glo_ok X G (cD.fact 26 (f := .glo "_law_hand") rfl)) (ok_pen Fn__law_hand T) (fun _ _ _ _ _ _ us hl => match us, hl with | [_], _ => ⟨rfl, rfl, rfl⟩)
  have d__law_doings_right := dn_mk (P := P) (w := w) (base := base) Fn__law_doings_right (He.glo_ok X G (cD.fact 27 (f := .glo "_law_doings_right") rfl)) (ok_doings Fn__law_doings_right D0) (fun _ _ _ _ _ _ us hl => match us, hl with | [_, _, _, _], _ => ⟨rfl, rfl, rfl⟩)
  have d__law_sums_right := dn_mk (P := P) (w := w) (base := base) Fn__law_sums_right (He.glo_ok X G (cD.fact 28 (f := .glo "_law_sums_right") rfl)) (ok_sums Fn__law_sums_right D0) (fun _ _ _ _ _ _ us hl => match us, hl with | [_, _, _, _, _], _ => ⟨rfl, rfl, rfl⟩)
  have bH := (kb_of (ps := ["_law_ask"]) Fn__law_heard (fun _ _ _ _ _ _ us hl => match us, hl with | [_], _ => ⟨rfl, rfl, rfl⟩)).1
  have d__law_refused_right := dn_mk (P := P) (w := w) (base := base) Fn__law_refused_right (He.glo_ok X G (cD.fact 29 (f := .glo "_law_refused_right") rfl)) (ok_refused Fn__law_refused_right D0 wx_cross_spans Fn__law_heard (He.glo_ok X G (cD.fact 25 (f := .glo "_law_heard") rfl)) bH TB rfl rfl rfl) (fun _ _ _ _ _ _ us hl => match us, hl with | [_, _], _ => ⟨rfl, rfl, rfl⟩)
  exact ⟨D0, d__law_hand, w_cross_spans, d__law_doings_right, d__law_sums_right, d__law_refused_right⟩
end K14
open PySem PySem.W PySem.Calls PyProof.Rows
theorem PySem.Challenge.cw_spanalike_k14_cross_spans_holds : PySem.Challenge.rw_spanalike_k14_cross_spans.Holds := by
  w_on; o_law
  refine HandSHeadRun.head_imp (r := OpenLaw.row PySem.Challenge.rw_spanalike_k14_cross_spans) (q := view (OpenLaw.row PySem.Challenge.rw_spanalike_k14_cross_spans).prog [0, 48]) (H := K14.hk) (ob := K14.ob) (M := 9000) (loose := K14.lo) (d := HandSHeadRun.topDef (OpenLaw.row PySem.Challenge.rw_spanalike_k14_cross_spans).prog 48) (kwd := []) K14.ob_eq
    K14.run (by kernel_rfl) (by kernel_rfl) (by kernel_rfl) (by rfl) (by first | assumption | decide +kernel) (by decide +kernel) ⟨rfl, rfl, rfl, rfl, rfl, by decide +kernel⟩ ?hw ?hc
  case hw => w_witness2
  case hc =>
    refine LamX.walk_ofTsE (l := PySem.Challenge.rw_spanalike_k14_cross_spans) (n := 63) (k := 15) (x := "_law_script") (CX := fun _ => L2.CX0) rfl (by decide) (by kernel_rfl) ⟨rfl, by decide, by decide⟩ ?F (fun _ _ _ _ _ z => z)
    intro w mg fa h Y G hmg0
    obtain ⟨K, KX, c⟩ := Y
    have hmg : mg ("law" : PySem.Str) = some (.ref fa) := by
      have e : (HandSHeadRun.topDef (OpenLaw.row PySem.Challenge.rw_spanalike_k14_cross_spans).prog 48).name = ("law" : PySem.Str) := by kernel_rfl
      rw [← e]
      exact hmg0
    obtain ⟨fd, hb, hF⟩ := K14.facts (P := (PySem.Challenge.rw_spanalike_k14_cross_spans).prog) (w := w) KX G hmg c
    have one : (("_law_refused_right", none) : PySem.Str × Option PySem.Str) ∈ K14.tf := List.mem_singleton.mpr rfl
    refine ⟨K, KX, fd, [He.cT K ("_law_refused_right", none)], K14.spLaw K (He.cT K ("_law_refused_right", none)).2, fun p hp => ?_, fun p hp => ?_, fun p hp => ?_, hb, fun H a ns hl _ hT hS => ⟨a, ns, rfl, hS, hl, hT _ (List.mem_singleton.mpr rfl), fun _ => rfl⟩, fun base Kb Nb TB => hF base Kb Nb (TB _ (List.mem_singleton.mpr rfl))⟩
    · rw [List.mem_singleton.mp hp]; exact c.empty _ one
    · rw [List.mem_singleton.mp hp]; exact c.out _ one
    · rw [List.mem_singleton.mp hp]; exact PySem.W.codeHd_of_K KX (c.hd _ one)

import PyProof.Rows.All
import Wide.All
import OpenK.AllK
import Wide.FinOn
import HandS.ExcCtx
import HandS.HotCalls
import HandS.SuiteRaise
import HandS.ForMost
import HandS.ForExc
import HandS.IsInst
import HandS.Flow
import HandS.Defaults
import HandS.CallSlots
import HandS.ExcInit
import HandS.ExcField
import HandS.TryMany
import HandS.Gcd
import HandS.Wide
import HandS.TupAny
import HandS.TupLe
import HandS.Style
import HandS.MakeKw
import PyProof.NoPylong
import Flt.Len
import PyProof.ReprRoads
import PyProof.StrLawsRepr
import HandS.SortRule
import HandS.NamedTupSort
import HandS.TupSets
import HandS.Deep
import HandS.Star
import HandS.Hot
import PyProof.Seq
import PyProof.TupleIter
import HandS.Comp
import HandS.ExcInitHot
import PySem.Challenge.RW_tautparcel_k04_whole_slopes_and_directio
set_option Elab.async false
set_option linter.all false
set_option maxRecDepth 100000
namespace Ez
open L2 PySem PyProof.Rows PySem.Spec

abbrev Ex := L2.Same
theorem Ex.refl (h : Hp) : Ex h h := fun _ _ e => e
theorem Ex.trans {h1 h2 h3 : Hp} (a : Ex h1 h2) (b : Ex h2 h3) : Ex h1 h3 := fun x o e => b x o (a x o e)
theorem Ex.new {p : Addr} {H : Hp} {o : HO} (h : H p = none) : Ex H (upd H p o) := fun a u e => by
  by_cases z : a = p
  · rw [z, h] at e; cases e
  · rw [upd_ne z]; exact e
structure KB where
  K : PySem.W.Frag
  /-- where classes, defs stand; the fields of a class's things, of its errors -/
  cls : Nat → Addr
  fn : Nat → Addr
  fld : Nat → List Str
  xf : Nat → List Str
structure KT extends KB where
  /-- where the hand lies -/
  hand : Addr
instance : Coe KB PySem.W.Frag := ⟨KB.K⟩
instance : Coe KT PySem.W.Frag := ⟨fun k => k.K⟩
/-- plain data of a run -/
inductive D where
  | non
  | bl (b : Bool)
  | int (i : Int)
  | str (x : Str)
  | tup (l : List D)
  | lst (l : List D)
  | ins (c : Nat) (ds : List D)
  | adr (a : Addr)
  | ty (n : String)
  | fn (i : Nat)
  | cls (c : Nat)
  | hand
  | exc (a dx C : Addr) (ns : List Str) (ds : List D)
  | scr (l : List D)

/-- a list, a tuple that may be read for good -/
def LAt (_K : KT) (G : Hp) (a : Addr) (xs : List V) : Prop := G a = some (.lst xs)
def TAt (K : KT) (G : Hp) (a : Addr) (xs : List V) : Prop :=
  G a = some (.tup xs) ∨ ∃ o its n, List.lookup a K.K = some o ∧ o.cls = Value.type "tuple" ∧ o.data = Data.seq its n ∧ its.size ≤ sizeLine ∧ Vals xs its.toList

mutual
def Is (K : KT) (G : Hp) : D → V → Prop
  | .non, v => v = .non
  | .bl b, v => v = .bl b
  | .int i, v => v = .int i
  | .str x, v => v = .str x
  | .tup ds, v => ∃ a xs, v = .ref a ∧ TAt K G a xs ∧ IsL K G ds xs
  | .lst ds, v => ∃ a xs, v = .ref a ∧ LAt K G a xs ∧ IsL K G ds xs
  | .ins c ds, v => ∃ a dx xs, v = .ref a ∧ G a = some (.ins (K.cls c) dx ((K.fld c).zip xs)) ∧ (K.fld c).length = ds.length ∧ IsL K G ds xs
  | .fn i, v => v = .ref (K.fn i)
  | .cls c, v => v = .ref (K.cls c)
  | .hand, v => v = .ref K.hand
  | .adr a, v => v = .ref a
  | .ty n, v => v = .ty n
  | .exc a dx C ns ds, v => ∃ xs, v = .ref a ∧ G dx = some (.xd (ns.zip xs)) ∧ ns.length = ds.length ∧ IsL K G ds xs
  | .scr ds, v => ∃ a xs, v = .ref a ∧ SqL K G a xs ∧ IsL K G ds xs
def IsL (K : KT) (G : Hp) : List D → List V → Prop
  | [], xs => xs = []
  | d :: ds, xs => ∃ x r, xs = x :: r ∧ Is K G d x ∧ IsL K G ds r
end

section
variable {K : KT} {G G' H H' : Hp}
theorem LAt.mono (e : Ex G G') {a : Addr} {xs : List V} (h : LAt K G a xs) : LAt K G' a xs := e _ _ h
theorem TAt.mono (e : Ex G G') {a : Addr} {xs : List V} (h : TAt K G a xs) : TAt K G' a xs := h.imp (e _ _) id
theorem LAt.sq (e : Ex G H) {a : Addr} {xs : List V} (h : LAt K G a xs) : SqL K H a xs := .inl (.inl (e _ _ h))
theorem TAt.sq (e : Ex G H) {a : Addr} {xs : List V} (h : TAt K G a xs) : SqT K H a xs := h.elim (fun z => .inl (.inl (e _ _ z))) .inr
mutual
theorem Is.mono (e : Ex G G') : ∀ (d : D) {v : V}, Is K G d v → Is K G' d v
  | .non, _, h => h
  | .bl _, _, h => h
  | .int _, _, h => h
  | .str _, _, h => h
  | .adr _, _, h => h
  | .ty _, _, h => h
  | .tup ds, _, ⟨a, xs, p, q, r⟩ => ⟨a, xs, p, q.mono e, IsL.mono e ds r⟩
  | .lst ds, _, ⟨a, xs, p, q, r⟩ => ⟨a, xs, p, q.mono e, IsL.mono e ds r⟩
  | .fn _, _, h => h
  | .cls _, _, h => h
  | .hand, _, h => h
  | .ins c ds, _, ⟨a, dx, xs, p, q, z, r⟩ => ⟨a, dx, xs, p, e _ _ q, z, IsL.mono e ds r⟩
  | .exc a dx C ns ds, _, ⟨xs, p, q, z, r⟩ => ⟨xs, p, e _ _ q, z, IsL.mono e ds r⟩
  | .scr ds, _, ⟨a, xs, p, q, r⟩ => ⟨a, xs, p, q.imp (fun q => q.imp (e _ _) fun ⟨o, z⟩ => ⟨o, e _ _ z⟩) id, IsL.mono e ds r⟩
theorem IsL.mono (e : Ex G G') : ∀ (ds : List D) {xs : List V}, IsL K G ds xs → IsL K G' ds xs
  | [], _, h => h
  | d :: ds, _, ⟨x, r, p, q, t⟩ => ⟨x, r, p, Is.mono e d q, IsL.mono e ds t⟩
end
theorem IsL.len : ∀ {ds : List D} {xs : List V}, IsL K G ds xs → xs.length = ds.length
  | [], _, h => by cases (show _ = [] from h); rfl
  | d :: ds, _, ⟨x, r, p, q, t⟩ => by rw [p, List.length_cons, List.length_cons, IsL.len t]
theorem IsL.get : ∀ {ds : List D} {xs : List V} {i : Nat} {d : D}, IsL K G ds xs → ds[i]? = some d → ∃ x, xs[i]? = some x ∧ Is K G d x
  | [], _, i, _, _, h => by simp at h
  | e :: ds, _, 0, d, ⟨x, r, p, q, t⟩, h => by
    have z : e = d := by simpa using h
    subst z; exact ⟨x, by rw [p]; rfl, q⟩
  | e :: ds, _, i + 1, d, ⟨x, r, p, q, t⟩, h => by
    obtain ⟨y, a, b⟩ := IsL.get (i := i) t (by simpa using h)
    exact ⟨y, by rw [p]; simpa using a, b⟩
theorem IsL.back : ∀ {ds : List D} {xs : List V} {i : Nat} {x : V}, IsL K G ds xs → xs[i]? = some x → ∃ d, ds[i]? = some d ∧ Is K G d x
  | [], _, i, x, h, k => by cases (show _ = [] from h); simp at k
  | e :: ds, _, 0, x, ⟨y, r, p, q, t⟩, h => by
    rw [p] at h
    have z : y = x := by simpa using h
    subst z; exact ⟨e, rfl, q⟩
  | e :: ds, _, i + 1, x, ⟨y, r, p, q, t⟩, h => by
    rw [p] at h
    obtain ⟨d, a, b⟩ := IsL.back (i := i) t (by simpa using h)
    exact ⟨d, by simpa using a, b⟩
theorem IsL.app : ∀ {ds es : List D} {xs ys : List V}, IsL K G ds xs → IsL K G es ys → IsL K G (ds ++ es) (xs ++ ys)
  | [], _, _, _, h, k => by cases (show _ = [] from h); exact k
  | d :: ds, es, _, ys, ⟨x, r, p, q, t⟩, k => ⟨x, r ++ ys, by rw [p]; rfl, q, IsL.app t k⟩
theorem IsL.one {d : D} {v : V} (h : Is K G d v) : IsL K G [d] [v] := ⟨v, [], rfl, h, rfl⟩
theorem IsL.take : ∀ {ds : List D} {xs : List V} (n : Nat), IsL K G ds xs → IsL K G (ds.take n) (xs.take n)
  | ds, xs, 0, h => rfl
  | [], _, n + 1, h => by cases (show _ = [] from h); exact rfl
  | d :: ds, _, n + 1, ⟨x, r, p, q, t⟩ => ⟨x, r.take n, by rw [p]; rfl, q, IsL.take n t⟩
theorem IsL.drop : ∀ {ds : List D} {xs : List V} (n : Nat), IsL K G ds xs → IsL K G (ds.drop n) (xs.drop n)
  | ds, xs, 0, h => h
  | [], _, n + 1, h => by cases (show _ = [] from h); exact rfl
  | d :: ds, _, n + 1, ⟨x, r, p, q, t⟩ => by rw [p]; exact IsL.drop n t
end

/-! ### the world: what may be written while all else stands -/
structure Wd where
  M : Addr → Prop
  J : Hp → Hp → Prop
  stb : ∀ {G H G' H' : Hp}, J G H → Ex G G' → (∀ a, M a → H' a = H a) → J G' H'
/-- nothing is written -/
def W0 : Wd := ⟨fun _ => False, fun _ _ => True, fun _ _ _ => trivial⟩
structure Ok (W : Wd) (G H : Hp) : Prop where
  sub : Ex G H
  cln : ∀ a, W.M a → G a = none
  liv : ∀ a, W.M a → ∃ o, H a = some o
  inv : W.J G H
structure Stp (W : Wd) (G H G' H' : Hp) : Prop where
  ok : Ok W G' H'
  ex : Ex G G'
  fresh : ∀ a o, G' a = some o → G a = some o ∨ H a = none
  kp : ∀ a o, ¬ W.M a → H a = some o → H' a = some o
  th : ∀ a o, H a = some o → ∃ o', H' a = some o'
section
variable {W : Wd} {G H G1 H1 G2 H2 G0 H0 : Hp} {p : Addr} {o : HO}
theorem Stp.refl (h : Ok W G H) : Stp W G H G H := ⟨h, Ex.refl G, fun _ _ e => .inl e, fun _ _ _ e => e, fun _ o e => ⟨o, e⟩⟩
theorem none_of_th {H H' : Hp} (th : ∀ a o, H a = some o → ∃ o', H' a = some o') {a : Addr} (h : H' a = none) : H a = none := by
  cases e : H a with
  | none => rfl
  | some o => obtain ⟨o', z⟩ := th a o e; rw [h] at z; cases z
theorem Stp.trans (s : Stp W G H G1 H1) (t : Stp W G1 H1 G2 H2) : Stp W G H G2 H2 :=
  ⟨t.ok, s.ex.trans t.ex, fun a o e => (t.fresh a o e).elim (fun z => s.fresh a o z) fun z => .inr (none_of_th s.th z), fun a o n e => t.kp a o n (s.kp a o n e), fun a o e => let ⟨o1, e1⟩ := s.th a o e; t.th a o1 e1⟩
theorem Ok.notM (h : Ok W G H) (e : H p = none) : ¬ W.M p := fun m => by obtain ⟨o, z⟩ := h.liv p m; rw [e] at z; cases z
theorem Ex.upd2 (e : Ex G H) (h : H p = none) : Ex (upd G p o) (upd H p o) := fun a u q => by
  by_cases z : a = p
  · subst z; rw [upd_same] at q ⊢; exact q
  · rw [upd_ne z] at q ⊢; exact e a u q
/-- a new object, kept for good -/
theorem Stp.lay (s : Stp W G0 H0 G H) (h : H p = none) : Stp W G0 H0 (upd G p o) (upd H p o) where
  ok := ⟨Ex.upd2 s.ok.sub h, fun a m => by
      have z : a ≠ p := fun e => s.ok.notM h (e ▸ m)
      rw [upd_ne z]; exact s.ok.cln a m, fun a m => by
      have z : a ≠ p := fun e => s.ok.notM h (e ▸ m)
      rw [upd_ne z]; exact s.ok.liv a m, W.stb s.ok.inv (Ex.new (none_of_th (fun a o e => ⟨o, s.ok.sub a o e⟩) h)) fun a m => upd_ne fun e => s.ok.notM h (e ▸ m)⟩
  ex := s.ex.trans (Ex.new (none_of_th (fun a o e => ⟨o, s.ok.sub a o e⟩) h))
  fresh := fun a u e => by
    by_cases z : a = p
    · subst z; exact .inr (none_of_th s.th h)
    · rw [upd_ne z] at e; exact s.fresh a u e
  kp := fun a u n e => by
    have z : a ≠ p := fun q => by
      have := none_of_th s.th h
      rw [q, this] at e; cases e
    rw [upd_ne z]; exact s.kp a u n e
  th := fun a u e => by
    by_cases z : a = p
    · subst z; exact ⟨o, upd_same⟩
    · rw [upd_ne z]; exact s.th a u e
/-- an own object is written (or a new one made), not kept for good -/
theorem Stp.put (s : Stp W G0 H0 G H) (h0 : H0 p = none) (hg : G p = none) (hm : ¬ W.M p) : Stp W G0 H0 G (upd H p o) where
  ok := ⟨fun a u e => by
      have z : a ≠ p := fun q => by rw [q, hg] at e; cases e
      rw [upd_ne z]; exact s.ok.sub a u e, s.ok.cln, fun a m => by
      have z : a ≠ p := fun e => hm (e ▸ m)
      rw [upd_ne z]; exact s.ok.liv a m, W.stb s.ok.inv (Ex.refl G) fun a m => upd_ne fun e => hm (e ▸ m)⟩
  ex := s.ex
  fresh := s.fresh
  kp := fun a u n e => by
    have z : a ≠ p := fun q => by rw [q, h0] at e; cases e
    rw [upd_ne z]; exact s.kp a u n e
  th := fun a u e => by
    have z : a ≠ p := fun q => by rw [q, h0] at e; cases e
    rw [upd_ne z]; exact s.th a u e
/-- an own object is kept for good from here on -/
theorem Stp.keep (s : Stp W G0 H0 G H) (h0 : H0 p = none) (hg : G p = none) (hh : H p = some o) (hm : ¬ W.M p) : Stp W G0 H0 (upd G p o) H where
  ok := ⟨fun a u e => by
      by_cases z : a = p
      · subst z; rw [upd_same] at e; cases e; exact hh
      · rw [upd_ne z] at e; exact s.ok.sub a u e, fun a m => by
      have z : a ≠ p := fun e => hm (e ▸ m)
      rw [upd_ne z]; exact s.ok.cln a m, s.ok.liv, W.stb s.ok.inv (fun a u e => by
        by_cases z : a = p
        · subst z
          have := s.ok.sub _ _ e
          rw [hh] at this; cases this
          exact upd_same
        · rw [upd_ne z]; exact e) fun a m => rfl⟩
  ex := fun a u e => by
    have z : a ≠ p := fun q => by
      have e1 := s.ex a u e
      rw [q, hg] at e1; cases e1
    rw [upd_ne z]; exact s.ex a u e
  fresh := fun a u e => by
    by_cases z : a = p
    · subst z; exact .inr h0
    · rw [upd_ne z] at e; exact s.fresh a u e
  kp := s.kp
  th := s.th
end
end Ez

set_option Elab.async false
set_option linter.all false
set_option maxRecDepth 100000
namespace Ez
open L2 PySem PyProof.Rows PySem.Spec

/-- what is known of a name: nothing; a datum; a list that this run alone holds -/
inductive Sl where
  | unk
  | dat (d : D)
  | own (p : Addr) (ds : List D)

structure Rel (K : KT) (W : Wd) (H0 G H : Hp) (s : L2.St) (q : List Sl) : Prop where
  len : s.length = q.length
  dat : ∀ (i : Nat) (d : D), q[i]? = some (Sl.dat d) → ∃ v, s[i]? = some (some v) ∧ Is K G d v
  own : ∀ (i : Nat) (p : Addr) (ds : List D), q[i]? = some (Sl.own p ds) → ∃ xs, s[i]? = some (some (.ref p)) ∧ H p = some (.lst xs) ∧ G p = none ∧ H0 p = none ∧ ¬ W.M p ∧ IsL K G ds xs
  sep : ∀ (i j : Nat) (a b : List D) (p : Addr), i ≠ j → q[i]? = some (Sl.own p a) → q[j]? = some (Sl.own p b) → False
section
variable {K : KT} {W : Wd} {G0 H0 G H G' H' : Hp} {s : L2.St} {q : List Sl} {v : V} {d : D} {i : Nat} {p : Addr}
theorem set_get {α : Type} {l : List α} {i j : Nat} {x y : α} (h : (l.set i x)[j]? = some y) : (i = j ∧ x = y) ∨ (i ≠ j ∧ l[j]? = some y) := by
  by_cases e : i = j
  · subst e
    by_cases hi : i < l.length
    · rw [List.getElem?_set_self hi] at h; exact .inl ⟨rfl, Option.some.inj h⟩
    · rw [List.getElem?_eq_none (by simpa using hi)] at h; cases h
  · rw [List.getElem?_set_ne e] at h; exact .inr ⟨e, h⟩
theorem Rel.step (r : Rel K W H0 G H s q) (t : Stp W G H G' H') : Rel K W H0 G' H' s q where
  len := r.len
  dat := fun i d e => let ⟨v, a, b⟩ := r.dat i d e; ⟨v, a, Is.mono t.ex d b⟩
  own := fun i p ds e => by
    obtain ⟨xs, a, b, cc, d, m, f⟩ := r.own i p ds e
    refine ⟨xs, a, t.kp p _ m b, ?_, d, m, IsL.mono t.ex ds f⟩
    cases z : G' p with
    | none => rfl
    | some o =>
      rcases t.fresh p o z with y | y
      · rw [cc] at y; cases y
      · rw [b] at y; cases y
  sep := r.sep
theorem Rel.setD (r : Rel K W H0 G H s q) (h : Is K G d v) (hi : i < q.length) : Rel K W H0 G H (s.set i (some v)) (q.set i (.dat d)) where
  len := by simp [r.len]
  dat := fun j e z => by
    rcases set_get z with ⟨a, b⟩ | ⟨a, b⟩
    · subst a; cases b
      exact ⟨v, List.getElem?_set_self (by rw [r.len]; exact hi), h⟩
    · rw [List.getElem?_set_ne a]; exact r.dat j e b
  own := fun j p e z => by
    rcases set_get z with ⟨a, b⟩ | ⟨a, b⟩
    · cases b
    · rw [List.getElem?_set_ne a]; exact r.own j p e b
  sep := fun j k a b p n za zb => (set_get za).elim (fun ⟨_, b⟩ => by cases b) fun ⟨_, e2⟩ => (set_get zb).elim (fun ⟨_, b⟩ => by cases b) fun ⟨_, e4⟩ => r.sep j k a b p n e2 e4
theorem Rel.setN (r : Rel K W H0 G H s q) : Rel K W H0 G H (s.set i none) (q.set i .unk) where
  len := by simp [r.len]
  dat := fun j e z => by
    rcases set_get z with ⟨a, b⟩ | ⟨a, b⟩
    · cases b
    · rw [List.getElem?_set_ne a]; exact r.dat j e b
  own := fun j p e z => by
    rcases set_get z with ⟨a, b⟩ | ⟨a, b⟩
    · cases b
    · rw [List.getElem?_set_ne a]; exact r.own j p e b
  sep := fun j k a b p n za zb => (set_get za).elim (fun ⟨_, b⟩ => by cases b) fun ⟨_, e2⟩ => (set_get zb).elim (fun ⟨_, b⟩ => by cases b) fun ⟨_, e4⟩ => r.sep j k a b p n e2 e4
/-- a slot's knowledge is dropped -/
theorem Rel.drop (r : Rel K W H0 G H s q) : Rel K W H0 G H s (q.set i .unk) where
  len := by simp [r.len]
  dat := fun j e z => (set_get z).elim (fun ⟨_, b⟩ => by cases b) fun ⟨_, b⟩ => r.dat j e b
  own := fun j p e z => (set_get z).elim (fun ⟨_, b⟩ => by cases b) fun ⟨_, b⟩ => r.own j p e b
  sep := fun j k a b p n za zb => (set_get za).elim (fun ⟨_, b⟩ => by cases b) fun ⟨_, e2⟩ => (set_get zb).elim (fun ⟨_, b⟩ => by cases b) fun ⟨_, e4⟩ => r.sep j k a b p n e2 e4
/-- a new own list -/
theorem Rel.setO (r : Rel K W H0 G H s q) (hp : H p = none) (h0 : H0 p = none) (hg : G p = none) (hm : ¬ W.M p) {xs : List V} {ds : List D} (hl : IsL K G ds xs) (hi : i < q.length) :
    Rel K W H0 G (upd H p (.lst xs)) (s.set i (some (.ref p))) (q.set i (.own p ds)) where
  len := by simp [r.len]
  dat := fun j e z => by
    rcases set_get z with ⟨a, b⟩ | ⟨a, b⟩
    · cases b
    · rw [List.getElem?_set_ne a]; exact r.dat j e b
  own := fun j p' e z => by
    rcases set_get z with ⟨a, b⟩ | ⟨a, b⟩
    · subst a; cases b
      exact ⟨xs, List.getElem?_set_self (by rw [r.len]; exact hi), upd_same, hg, h0, hm, hl⟩
    · rw [List.getElem?_set_ne a]
      obtain ⟨xs', q1, q2, q3, q4, q5, q6⟩ := r.own j p' e b
      exact ⟨xs', q1, by rw [upd_ne (ne_of_none q2 hp)]; exact q2, q3, q4, q5, q6⟩
  sep := fun j k a b p' n za zb => by
    have no : ∀ {k : Nat} {b : List D}, q[k]? = some (Sl.own p b) → False := fun {k b} e => by
      obtain ⟨xs2, q1, q2, _⟩ := r.own k p b e
      rw [hp] at q2; cases q2
    rcases set_get za with ⟨e1, e2⟩ | ⟨e1, e2⟩
    · subst e1; cases e2
      rcases set_get zb with ⟨e3, e4⟩ | ⟨e3, e4⟩
      · exact n e3
      · exact no e4
    · rcases set_get zb with ⟨e3, e4⟩ | ⟨e3, e4⟩
      · subst e3; cases e4
        exact no e2
      · exact r.sep j k a b p' n e2 e4
/-- an own list is written -/
theorem Rel.putO (r : Rel K W H0 G H s q) {ds es : List D} {ys : List V} (hi : q[i]? = some (.own p ds)) (hl : IsL K G es ys) :
    Rel K W H0 G (upd H p (.lst ys)) s (q.set i (.own p es)) where
  len := by simp [r.len]
  dat := fun j e z => by
    rcases set_get z with ⟨a, b⟩ | ⟨a, b⟩
    · cases b
    · exact r.dat j e b
  own := fun j p' e z => by
    rcases set_get z with ⟨a, b⟩ | ⟨a, b⟩
    · subst a; cases b
      obtain ⟨xs', q1, q2, q3, q4, q5, q6⟩ := r.own i p ds hi
      exact ⟨ys, q1, upd_same, q3, q4, q5, hl⟩
    · obtain ⟨xs', q1, q2, q3, q4, q5, q6⟩ := r.own j p' e b
      refine ⟨xs', q1, ?_, q3, q4, q5, q6⟩
      rw [upd_ne (show p' ≠ p from fun z => r.sep i j ds e p a hi (by rw [← z]; exact b))]
      exact q2
  sep := fun j k a b p' n za zb => by
    have f : ∀ {j p2 a}, (q.set i (Sl.own p es))[j]? = some (Sl.own p2 a) → ∃ a', q[j]? = some (Sl.own p2 a') := fun {j p2 a} z => by
      rcases set_get z with ⟨e1, e2⟩ | ⟨e1, e2⟩
      · cases e2; exact ⟨ds, e1 ▸ hi⟩
      · exact ⟨a, e2⟩
    obtain ⟨a', ea⟩ := f za
    obtain ⟨b', eb⟩ := f zb
    exact r.sep j k a' b' p' n ea eb
/-- an own list is kept for good from here on -/
theorem Rel.keepO (r : Rel K W H0 G H s q) (t : Stp W G0 H0 G H) {ds : List D} (hi : q[i]? = some (.own p ds)) : ∃ G', Ex G G' ∧ Stp W G0 H0 G' H ∧ Rel K W H0 G' H s (q.set i (.dat (.lst ds))) := by
  obtain ⟨xs, q1, q2, q3, q4, q5, q6⟩ := r.own i p ds hi
  have e : Ex G (upd G p (.lst xs)) := Ex.new q3
  have hl : i < q.length := (List.getElem?_eq_some_iff.mp hi).1
  refine ⟨upd G p (.lst xs), e, t.keep q4 q3 q2 q5, ⟨by simp [r.len], fun j d' z => ?_, fun j p' e' z => ?_, fun j k a b p' n za zb => (set_get za).elim (fun ⟨_, b⟩ => by cases b) fun ⟨_, e2⟩ => (set_get zb).elim (fun ⟨_, b⟩ => by cases b) fun ⟨_, e4⟩ => r.sep j k a b p' n e2 e4⟩⟩
  · rcases set_get z with ⟨a, b⟩ | ⟨a, b⟩
    · subst a; cases b
      exact ⟨_, q1, p, xs, rfl, upd_same, IsL.mono e ds q6⟩
    · obtain ⟨v, a1, a2⟩ := r.dat j d' b
      exact ⟨v, a1, Is.mono e d' a2⟩
  · rcases set_get z with ⟨a, b⟩ | ⟨a, b⟩
    · cases b
    · obtain ⟨xs', w1, w2, w3, w4, w5, w6⟩ := r.own j p' e' b
      refine ⟨xs', w1, w2, ?_, w4, w5, IsL.mono e e' w6⟩
      rw [upd_ne (show p' ≠ p from fun z => r.sep i j ds e' p a hi (by rw [← z]; exact b))]
      exact w3
end

/-! ### what is fixed within a def's run -/
structure Cn where
  K : KT
  W : Wd
  G0 : Hp
  H0 : Hp
abbrev Cn.S (c : Cn) (G H : Hp) : Prop := Stp c.W c.G0 c.H0 G H
abbrev Cn.R (c : Cn) (G H : Hp) (s : L2.St) (q : List Sl) : Prop := Rel c.K c.W c.H0 G H s q
def wpE (c : Cn) (te : TE) (q : List Sl) (P : D → Prop) : Prop :=
  ∀ G H s, c.S G H → c.R G H s q → ∀ Q : VK, (∀ G' H' v d, P d → Stp c.W G H G' H' → Is c.K G' d v → Q v H') → te s H Q
def wpT (c : Cn) (tt : TT) (q : List Sl) (P : Bool → Prop) : Prop :=
  ∀ G H s, c.S G H → c.R G H s q → ∀ Q : Bool → Hp → Prop, (∀ G' H' b, P b → Stp c.W G H G' H' → Q b H') → tt s H Q
def wpA (c : Cn) (ta : TA) (q : List Sl) (P : List D → Prop) : Prop :=
  ∀ G H s, c.S G H → c.R G H s q → ∀ Q : List V → Hp → Prop, (∀ G' H' vs ds, P ds → Stp c.W G H G' H' → IsL c.K G' ds vs → Q vs H') → ta s H Q
def wpO (c : Cn) (to : TO) (q : List Sl) (P : Option Int → Prop) : Prop :=
  ∀ G H s, c.S G H → c.R G H s q → ∀ Q : Option Int → Hp → Prop, (∀ G' H' o, P o → Stp c.W G H G' H' → Q o H') → to s H Q
structure Fn where
  nx : List Sl → Prop
  rt : List Sl → D → Prop
  bk : List Sl → Prop := fun _ => False
  ct : List Sl → Prop := fun _ => False
structure Post (c : Cn) (D' : Ends) (F : Fn) (G : Hp) : Prop where
  nx : ∀ s' H' G' q', F.nx q' → Ex G G' → c.S G' H' → c.R G' H' s' q' → D'.nx s' H'
  rt : ∀ v H' G' d s' q', F.rt q' d → Ex G G' → c.S G' H' → Is c.K G' d v → c.R G' H' s' q' → D'.rt v H'
  bk : ∀ s' H' G' q', F.bk q' → Ex G G' → c.S G' H' → c.R G' H' s' q' → D'.bk s' H'
  ct : ∀ s' H' G' q', F.ct q' → Ex G G' → c.S G' H' → c.R G' H' s' q' → D'.ct s' H'
def wpS (c : Cn) (ts : TS) (q : List Sl) (F : Fn) : Prop :=
  ∀ (D' : Ends) s G H, c.S G H → c.R G H s q → Post c D' F G → ts D' s H
def wpG (c : Cn) (g : TG) (d : D) (q : List Sl) (N : List Sl → Prop) : Prop :=
  ∀ G H s v, c.S G H → c.R G H s q → Is c.K G d v → ∀ Q : L2.St → Hp → Prop, (∀ s' H' G' q', N q' → Ex G G' → c.S G' H' → c.R G' H' s' q' → Q s' H') → g v s H Q
def wpGs (c : Cn) (g : TGs) (ds : List D) (q : List Sl) (N : List Sl → Prop) : Prop :=
  ∀ G H s vs, c.S G H → c.R G H s q → IsL c.K G ds vs → ∀ Q : L2.St → Hp → Prop, (∀ s' H' G' q', N q' → Ex G G' → c.S G' H' → c.R G' H' s' q' → Q s' H') → g vs s H Q
/-- an operation upon two values, upon one, upon some -/
def opD (c : Cn) (r : R2) (x y : D) (P : D → Prop) : Prop :=
  ∀ G H vx vy, Ok c.W G H → Is c.K G x vx → Is c.K G y vy → ∀ Q : VK, (∀ G' H' v d, P d → Stp c.W G H G' H' → Is c.K G' d v → Q v H') → r vx vy H Q
def unD (c : Cn) (r : V → Hp → VK → Prop) (x : D) (P : D → Prop) : Prop :=
  ∀ G H vx, Ok c.W G H → Is c.K G x vx → ∀ Q : VK, (∀ G' H' v d, P d → Stp c.W G H G' H' → Is c.K G' d v → Q v H') → r vx H Q
def cbD (c : Cn) (r : List V → Hp → VK → Prop) (ds : List D) (P : D → Prop) : Prop :=
  ∀ G H vs, Ok c.W G H → IsL c.K G ds vs → ∀ Q : VK, (∀ G' H' v d, P d → Stp c.W G H G' H' → Is c.K G' d v → Q v H') → r vs H Q

section
variable {c : Cn} {q : List Sl} {P : D → Prop} {ta tb te : TE} {t u : TT}
theorem wp_var {i : Nat} {d : D} (h : q[i]? = some (.dat d)) (k : P d) : wpE c (tVar i) q P := fun G H s S R Q hq =>
  let ⟨v, e, h1⟩ := R.dat i d h
  ⟨v, e, hq G H v d k (Stp.refl S.ok) h1⟩
theorem wp_int {i : Int} (k : P (.int i)) : wpE c (tC (.int i)) q P := fun G H s S R Q hq => hq G H _ _ k (Stp.refl S.ok) rfl
theorem wp_bl {b : Bool} (k : P (.bl b)) : wpE c (tC (.bl b)) q P := fun G H s S R Q hq => hq G H _ _ k (Stp.refl S.ok) rfl
theorem wp_str {x : Str} (k : P (.str x)) : wpE c (tC (.str x)) q P := fun G H s S R Q hq => hq G H _ _ k (Stp.refl S.ok) rfl
theorem wp_ty {n : String} (k : P (.ty n)) : wpE c (tC (.ty n)) q P := fun G H s S R Q hq => hq G H _ _ k (Stp.refl S.ok) rfl
theorem wp_non (k : P .non) : wpE c (tC .non) q P := fun G H s S R Q hq => hq G H _ _ k (Stp.refl S.ok) rfl
theorem wp_ref {a : Addr} {d : D} (h : ∀ G, Is c.K G d (.ref a)) (k : P d) : wpE c (tC (.ref a)) q P := fun G H s S R Q hq => hq G H _ _ k (Stp.refl S.ok) (h G)
theorem wp_op {r : R2} (h : wpE c ta q fun x => wpE c tb q fun y => opD c r x y P) : wpE c (tOp r ta tb) q P := fun G H s S R Q hq =>
  h G H s S R _ fun G1 H1 vx x h1 T1 i1 => h1 G1 H1 s (S.trans T1) (R.step T1) _ fun G2 H2 vy y h2 T2 i2 =>
    h2 G2 H2 vx vy T2.ok (Is.mono T2.ex x i1) i2 Q fun G3 H3 v d p T3 i3 => hq G3 H3 v d p ((T1.trans T2).trans T3) i3
theorem wp_un {r : V → Hp → VK → Prop} (h : wpE c ta q fun x => unD c r x P) : wpE c (tUn r ta) q P := fun G H s S R Q hq =>
  h G H s S R _ fun G1 H1 vx x h1 T1 i1 => h1 G1 H1 vx T1.ok i1 Q fun G3 H3 v d p T3 i3 => hq G3 H3 v d p (T1.trans T3) i3
theorem wp_if (h : wpT c t q fun b => (b = true → wpE c ta q P) ∧ (b = false → wpE c tb q P)) : wpE c (tIf t ta tb) q P := fun G H s S R Q hq =>
  h G H s S R _ fun G1 H1 b h1 T1 => by
    cases b with
    | true => exact h1.1 rfl G1 H1 s (S.trans T1) (R.step T1) Q fun G2 H2 v d p T2 i => hq G2 H2 v d p (T1.trans T2) i
    | false => exact h1.2 rfl G1 H1 s (S.trans T1) (R.step T1) Q fun G2 H2 v d p T2 i => hq G2 H2 v d p (T1.trans T2) i
theorem wp_andV (h : wpE c ta q fun x => ∃ b, x = .bl b ∧ (b = true → wpE c tb q P) ∧ (b = false → P (.bl false))) : wpE c (tAndV ta tb) q P := fun G H s S R Q hq =>
  h G H s S R _ fun G1 H1 v x h1 T1 i1 => by
    obtain ⟨b, rfl, h2, h3⟩ := h1
    refine ⟨b, i1, ?_⟩
    cases b with
    | true => exact h2 rfl G1 H1 s (S.trans T1) (R.step T1) Q fun G2 H2 v d p T2 i => hq G2 H2 v d p (T1.trans T2) i
    | false => exact hq G1 H1 _ _ (h3 rfl) T1 rfl
theorem wp_orV (h : wpE c ta q fun x => ∃ b, x = .bl b ∧ (b = false → wpE c tb q P) ∧ (b = true → P (.bl true))) : wpE c (tOrV ta tb) q P := fun G H s S R Q hq =>
  h G H s S R _ fun G1 H1 v x h1 T1 i1 => by
    obtain ⟨b, rfl, h2, h3⟩ := h1
    refine ⟨b, i1, ?_⟩
    cases b with
    | false => exact h2 rfl G1 H1 s (S.trans T1) (R.step T1) Q fun G2 H2 v d p T2 i => hq G2 H2 v d p (T1.trans T2) i
    | true => exact hq G1 H1 _ _ (h3 rfl) T1 rfl
theorem wp_notV (h : wpE c ta q fun x => ∃ b, x = .bl b ∧ P (.bl (!b))) : wpE c (tNotV ta) q P := fun G H s S R Q hq =>
  h G H s S R _ fun G1 H1 v x h1 T1 i1 => by
    obtain ⟨b, rfl, h2⟩ := h1
    exact ⟨b, i1, hq G1 H1 _ _ h2 T1 rfl⟩
def D.isNon : D → Bool
  | .non => true
  | _ => false
theorem Is.non {K : KT} {G : Hp} : ∀ {d : D} {v : V}, Is K G d v → decide (v = .non) = d.isNon
  | .non, _, h => by cases (show _ = V.non from h); rfl
  | .bl _, _, h => by cases (show _ = V.bl _ from h); rfl
  | .int _, _, h => by cases (show _ = V.int _ from h); rfl
  | .str _, _, h => by cases (show _ = V.str _ from h); rfl
  | .adr _, _, h => by cases (show _ = V.ref _ from h); rfl
  | .ty _, _, h => by cases (show _ = V.ty _ from h); rfl
  | .tup ds, _, ⟨a, xs, p, _⟩ => by rw [p]; rfl
  | .lst ds, _, ⟨a, xs, p, _⟩ => by rw [p]; rfl
  | .ins _ _, _, ⟨a, dx, xs, p, _⟩ => by rw [p]; rfl
  | .fn _, _, h => by cases (show _ = V.ref _ from h); rfl
  | .cls _, _, h => by cases (show _ = V.ref _ from h); rfl
  | .hand, _, h => by cases (show _ = V.ref _ from h); rfl
  | .exc _ _ _ _ _, _, ⟨xs, p, _⟩ => by rw [p]; rfl
  | .scr _, _, ⟨a, xs, p, _⟩ => by rw [p]; rfl
theorem wp_isN (h : wpE c ta q fun x => P (.bl x.isNon)) : wpE c (tIsN ta) q P := fun G H s S R Q hq =>
  h G H s S R _ fun G1 H1 v x h1 T1 i1 => by rw [Is.non i1]; exact hq G1 H1 _ _ h1 T1 rfl
theorem wp_notN (h : wpE c ta q fun x => P (.bl (!x.isNon))) : wpE c (tNotN ta) q P := fun G H s S R Q hq =>
  h G H s S R _ fun G1 H1 v x h1 T1 i1 => by rw [Is.non i1]; exact hq G1 H1 _ _ h1 T1 rfl
theorem wp_nil {P : List D → Prop} (h : P []) : wpA c tNil q P := fun G H s S R Q hq => hq G H [] [] h (Stp.refl S.ok) rfl
theorem wp_cons {P : List D → Prop} {tr : TA} (h : wpE c ta q fun x => wpA c tr q fun xs => P (x :: xs)) : wpA c (tCons ta tr) q P := fun G H s S R Q hq =>
  h G H s S R _ fun G1 H1 v x h1 T1 i1 => h1 G1 H1 s (S.trans T1) (R.step T1) _ fun G2 H2 vs xs h2 T2 i2 =>
    hq G2 H2 _ _ h2 (T1.trans T2) ⟨v, vs, rfl, Is.mono T2.ex x i1, i2⟩
theorem none_of_sub {G H : Hp} (e : Ex G H) {p : Addr} (h : H p = none) : G p = none := none_of_th (fun a o z => ⟨o, e a o z⟩) h
theorem wp_tup {ta : TA} (h : wpA c ta q fun xs => xs.length ≤ 10000 ∧ P (.tup xs)) : wpE c (tTup ta) q P := fun G H s S R Q hq =>
  h G H s S R _ fun G1 H1 vs xs h1 T1 i1 => by
    refine ⟨by rw [IsL.len i1]; exact Nat.le_trans h1.1 (by decide), fun p hp => ?_⟩
    exact hq (upd G1 p (.tup vs)) _ _ _ h1.2 (T1.lay hp) ⟨p, vs, rfl, .inl upd_same, IsL.mono (Ex.new (none_of_sub T1.ok.sub hp)) xs i1⟩
theorem wp_lst {ta : TA} (h : wpA c ta q fun xs => xs.length ≤ 10000 ∧ P (.lst xs)) : wpE c (tLst ta) q P := fun G H s S R Q hq =>
  h G H s S R _ fun G1 H1 vs xs h1 T1 i1 => by
    refine ⟨by rw [IsL.len i1]; exact Nat.le_trans h1.1 (by decide), fun p hp => ?_⟩
    exact hq (upd G1 p (.lst vs)) _ _ _ h1.2 (T1.lay hp) ⟨p, vs, rfl, upd_same, IsL.mono (Ex.new (none_of_sub T1.ok.sub hp)) xs i1⟩
theorem wp_cb {r : List V → Hp → VK → Prop} {ta : TA} (h : wpA c ta q fun xs => cbD c r xs P) : wpE c (tCB r ta) q P := fun G H s S R Q hq =>
  h G H s S R _ fun G1 H1 vs xs h1 T1 i1 => h1 G1 H1 vs T1.ok i1 Q fun G3 H3 v d p T3 i3 => hq G3 H3 v d p (T1.trans T3) i3
theorem wp_mono {P' : D → Prop} (h : wpE c te q P) (k : ∀ d, P d → P' d) : wpE c te q P' := fun G H s S R Q hq => h G H s S R Q fun G' H' v d p => hq G' H' v d (k d p)
/-! tests -/
variable {B : Bool → Prop}
theorem wt_test (h : wpE c ta q fun x => ∃ b, x = .bl b ∧ B b) : wpT c (tTest ta) q B := fun G H s S R Q hq =>
  h G H s S R _ fun G1 H1 v x h1 T1 i1 => by
    obtain ⟨b, rfl, h2⟩ := h1
    exact ⟨b, i1, hq G1 H1 b h2 T1⟩
theorem wt_B (h : wpE c ta q fun x => ∃ b, x = .bl b ∧ B b) : wpT c (tB ta) q B := fun G H s S R Q hq =>
  h G H s S R _ fun G1 H1 v x h1 T1 i1 => by
    obtain ⟨b, rfl, h2⟩ := h1
    exact ⟨b, i1, hq G1 H1 b h2 T1⟩
theorem wt_and (h : wpT c t q fun a => (a = true → wpT c u q B) ∧ (a = false → B false)) : wpT c (tAnd t u) q B := fun G H s S R Q hq =>
  h G H s S R _ fun G1 H1 b h1 T1 => by
    cases b with
    | true => exact h1.1 rfl G1 H1 s (S.trans T1) (R.step T1) Q fun G2 H2 b p T2 => hq G2 H2 b p (T1.trans T2)
    | false => exact hq G1 H1 false (h1.2 rfl) T1
theorem wt_or (h : wpT c t q fun a => (a = false → wpT c u q B) ∧ (a = true → B true)) : wpT c (tOr t u) q B := fun G H s S R Q hq =>
  h G H s S R _ fun G1 H1 b h1 T1 => by
    cases b with
    | false => exact h1.1 rfl G1 H1 s (S.trans T1) (R.step T1) Q fun G2 H2 b p T2 => hq G2 H2 b p (T1.trans T2)
    | true => exact hq G1 H1 true (h1.2 rfl) T1
theorem wt_not (h : wpT c t q fun a => B (!a)) : wpT c (tNot t) q B := fun G H s S R Q hq =>
  h G H s S R _ fun G1 H1 b h1 T1 => hq G1 H1 _ h1 T1
theorem wt_mono {B' : Bool → Prop} (h : wpT c t q B) (k : ∀ b, B b → B' b) : wpT c t q B' := fun G H s S R Q hq => h G H s S R Q fun G' H' b p => hq G' H' b (k b p)
/-! statements -/
variable {F : Fn} {ts tu tw : TS} {g : TG}
theorem Post.more {D' : Ends} {G G' : Hp} (p : Post c D' F G) (e : Ex G G') : Post c D' F G' :=
  ⟨fun s H G1 q a b => p.nx s H G1 q a (e.trans b), fun v H G1 d s' q' a b => p.rt v H G1 d s' q' a (e.trans b), fun s H G1 q a b => p.bk s H G1 q a (e.trans b), fun s H G1 q a b => p.ct s H G1 q a (e.trans b)⟩
theorem ws_seq (h : wpS c ts q { F with nx := fun q' => wpS c tu q' F }) : wpS c (tSeq ts tu) q F := fun D' s G H S R p =>
  h { D' with nx := tu D' } s G H S R ⟨fun s' H' G' q' a b S' R' => a D' s' G' H' S' R' (p.more b), p.rt, p.bk, p.ct⟩
theorem ws_next (h : F.nx q) : wpS c tNext q F := fun D' s G H S R p => p.nx s H G q h (Ex.refl G) S R
theorem ws_brk (h : F.bk q) : wpS c tBreak q F := fun D' s G H S R p => p.bk s H G q h (Ex.refl G) S R
theorem ws_cont (h : F.ct q) : wpS c tCont q F := fun D' s G H S R p => p.ct s H G q h (Ex.refl G) S R
theorem ws_asg (h : wpE c te q fun d => wpG c g d q F.nx) : wpS c (tAsg te g) q F := fun D' s G H S R p =>
  h G H s S R _ fun G1 H1 v d h1 T1 i1 => h1 G1 H1 s v (S.trans T1) (R.step T1) i1 _ fun s' H' G' q' a b => p.nx s' H' G' q' a (T1.ex.trans b)
theorem ws_ret (h : wpE c te q (F.rt q)) : wpS c (tRet te) q F := fun D' s G H S R p =>
  h G H s S R _ fun G1 H1 v d h1 T1 i1 => p.rt v H1 G1 d s q h1 T1.ex (S.trans T1) i1 (R.step T1)
theorem ws_retN (h : F.rt q .non) : wpS c tRetN q F := fun D' s G H S R p => p.rt .non H G .non s q h (Ex.refl G) S rfl R
theorem ws_drop (h : wpE c te q fun _ => F.nx q) : wpS c (tDrop te) q F := fun D' s G H S R p =>
  h G H s S R _ fun G1 H1 v d h1 T1 i1 => p.nx s H1 G1 q h1 T1.ex (S.trans T1) (R.step T1)
theorem ws_if (h : wpT c t q fun b => (b = true → wpS c ts q F) ∧ (b = false → wpS c tu q F)) : wpS c (tIfS t ts tu) q F := fun D' s G H S R p =>
  h G H s S R _ fun G1 H1 b h1 T1 => by
    cases b with
    | true => exact h1.1 rfl D' s G1 H1 (S.trans T1) (R.step T1) (p.more T1.ex)
    | false => exact h1.2 rfl D' s G1 H1 (S.trans T1) (R.step T1) (p.more T1.ex)
theorem ws_imp {F' : Fn} (h : wpS c ts q F') (k1 : ∀ q', F'.nx q' → F.nx q') (k2 : ∀ q' d, F'.rt q' d → F.rt q' d) (k3 : ∀ q', F'.bk q' → F.bk q') (k4 : ∀ q', F'.ct q' → F.ct q') : wpS c ts q F := fun D' s G H S R p =>
  h D' s G H S R ⟨fun a b d e f => p.nx a b d e (k1 _ f), fun a b d e m n f => p.rt a b d e m n (k2 _ _ f), fun a b d e f => p.bk a b d e (k3 _ f), fun a b d e f => p.ct a b d e (k4 _ f)⟩
/-- a word between a statement and the rest -/
theorem ws_cut (Mid : List Sl → Prop) (h : wpS c ts q { F with nx := Mid }) (k : ∀ q', Mid q' → wpS c tu q' F) : wpS c (tSeq ts tu) q F :=
  ws_seq (ws_imp h k (fun _ _ z => z) (fun _ z => z) fun _ z => z)
theorem ws_keep {i : Nat} {a : Addr} {ds : List D} (hi : q[i]? = some (.own a ds)) (h : wpS c ts (q.set i (.dat (.lst ds))) F) : wpS c ts q F := fun D' s G H S R p => by
  obtain ⟨G', e, S', R'⟩ := R.keepO S hi
  exact h D' s G' H S' R' (p.more e)
theorem wg_name {i : Nat} {d : D} {N : List Sl → Prop} (hi : i < q.length) (h : N (q.set i (.dat d))) : wpG c (gName i) d q N := fun G H s v S R hv Q hq =>
  hq _ _ G _ h (Ex.refl G) S (R.setD hv hi)
theorem wg_nil {N : List Sl → Prop} (h : N q) : wpGs c gNil [] q N := fun G H s vs S R hv Q hq => ⟨hv, hq _ _ G _ h (Ex.refl G) S R⟩
theorem wg_cons {gs : TGs} {d : D} {ds : List D} {N : List Sl → Prop} (h : wpG c g d q fun q' => wpGs c gs ds q' N) : wpGs c (gCons g gs) (d :: ds) q N := fun G H s vs S R hv Q hq => by
  obtain ⟨x, r, rfl, h1, h2⟩ := hv
  exact ⟨x, r, rfl, h G H s x S R h1 _ fun s' H' G' q' a e S' R' => a G' H' s' r S' R' (IsL.mono e ds h2) Q fun s2 H2 G2 q2 b e2 => hq s2 H2 G2 q2 b (e.trans e2)⟩
theorem wg_tup {gs : TGs} {n : Nat} {ds : List D} {N : List Sl → Prop} (hn : ds.length = n) (h : wpGs c gs ds q N) : wpG c (gTup c.K n gs) (.tup ds) q N := fun G H s v S R hv Q hq => by
  obtain ⟨a, xs, rfl, h1, h2⟩ := hv
  exact ⟨a, xs, rfl, h1.sq S.ok.sub, by rw [IsL.len h2, hn], h G H s xs S R h2 Q hq⟩
end
end Ez

set_option Elab.async false
set_option linter.all false
set_option maxRecDepth 100000
namespace Ez
open L2 PySem PyProof.Rows PySem.Spec

mutual
def D.py : D → PyData
  | .bl b => .bool b
  | .int i => .int i
  | .str x => .str x
  | .tup l => .tuple (D.pyL l)
  | .lst l => .list (D.pyL l)
  | _ => .none
def D.pyL : List D → List PyData
  | [] => []
  | d :: r => D.py d :: D.pyL r
end
mutual
/-- data of numbers, texts, tuples, lists alone -/
def D.pur : D → Bool
  | .non => true
  | .bl _ => true
  | .int _ => true
  | .str x => PySem.PyData.strOk x
  | .tup l => D.purL l
  | .lst l => D.purL l
  | _ => false
def D.purL : List D → Bool
  | [] => true
  | d :: r => D.pur d && D.purL r
end
mutual
def D.dep : D → Nat
  | .tup l => D.depL l + 1
  | .lst l => D.depL l + 1
  | _ => 0
def D.depL : List D → Nat
  | [] => 0
  | d :: r => max (D.dep d) (D.depL r)
end
section
variable {K : KT} {G H : Hp}
mutual
theorem Is.dp (e : Ex G H) : ∀ (d : D) {v : V}, D.pur d = true → Is K G d v → L2.Dp K H v d.py
  | .non, _, _, h => by cases (show _ = V.non from h); exact .non
  | .bl b, _, _, h => by cases (show _ = V.bl b from h); exact .bl b
  | .int b, _, _, h => by cases (show _ = V.int b from h); exact .int b
  | .str b, _, _, h => by cases (show _ = V.str b from h); exact .str b
  | .tup ds, _, p, ⟨a, xs, e1, h1, h2⟩ => by
    rw [e1]; exact .tup (h1.sq e) (IsL.dp e ds p h2)
  | .lst ds, _, p, ⟨a, xs, e1, h1, h2⟩ => by
    rw [e1]; exact .lst (h1.sq e) (IsL.dp e ds p h2)
  | .ins _ _, _, p, _ => by cases p
  | .fn _, _, p, _ => by cases p
  | .cls _, _, p, _ => by cases p
  | .hand, _, p, _ => by cases p
  | .adr _, _, p, _ => by cases p
  | .ty _, _, p, _ => by cases p
  | .exc _ _ _ _ _, _, p, _ => by cases p
theorem IsL.dp (e : Ex G H) : ∀ (ds : List D) {xs : List V}, D.purL ds = true → IsL K G ds xs → L2.DpAll K H xs (D.pyL ds)
  | [], _, _, h => by cases (show _ = [] from h); exact .nil
  | d :: ds, _, p, ⟨x, r, e1, h1, h2⟩ => by
    have q := Bool.and_eq_true_iff.mp (show (D.pur d && D.purL ds) = true from p)
    rw [e1]; exact .cons (Is.dp e d q.1 h1) (IsL.dp e ds q.2 h2)
end
mutual
theorem D.lay : ∀ (d : D), D.pur d = true → d.py.canLay0 = true
  | .non, _ => rfl
  | .bl b, _ => rfl
  | .int b, _ => rfl
  | .str b, p => p
  | .tup ds, p => D.layL ds p
  | .lst ds, p => D.layL ds p
  | .ins _ _, p => by cases p
  | .fn _, p => by cases p
  | .cls _, p => by cases p
  | .hand, p => by cases p
  | .adr _, p => by cases p
  | .ty _, p => by cases p
  | .exc _ _ _ _ _, p => by cases p
theorem D.layL : ∀ (ds : List D), D.purL ds = true → PyData.canLayAll0 (D.pyL ds) = true
  | [], _ => rfl
  | d :: ds, p => by
    have q := Bool.and_eq_true_iff.mp (show (D.pur d && D.purL ds) = true from p)
    show (d.py.canLay0 && PyData.canLayAll0 (D.pyL ds)) = true
    rw [D.lay d q.1, D.layL ds q.2]; rfl
end
mutual
theorem D.deq : ∀ (d : D), d.py.depth = d.dep
  | .non => rfl
  | .bl b => rfl
  | .int b => rfl
  | .str b => rfl
  | .tup ds => congrArg (· + 1) (D.deqL ds)
  | .lst ds => congrArg (· + 1) (D.deqL ds)
  | .ins _ _ => rfl
  | .fn _ => rfl
  | .cls _ => rfl
  | .hand => rfl
  | .adr _ => rfl
  | .ty _ => rfl
  | .exc _ _ _ _ _ => rfl
  | .scr _ => rfl
theorem D.deqL : ∀ (ds : List D), PyData.depthAll (D.pyL ds) = D.depL ds
  | [] => rfl
  | d :: ds => by
    show max d.py.depth (PyData.depthAll (D.pyL ds)) = max d.dep (D.depL ds)
    rw [D.deq d, D.deqL ds]
end
/-- what == may be asked of -/
def D.cmp (d : D) : Bool := D.pur d && decide (d.dep ≤ 64)
theorem D.shp {d : D} (h : D.cmp d = true) : SeqAt.shaped d.py = true := by
  have q := Bool.and_eq_true_iff.mp h
  show (d.py.canLay0 && decide (d.py.depth ≤ 64)) = true
  rw [D.lay d q.1, D.deq d, q.2]; rfl
def D.eqv (x y : D) : Bool := PyData.eqv x.py y.py
end

section
variable {c : Cn} {q : List Sl} {P : D → Prop} {ta tb te : TE} {t u : TT}
theorem od_eq {x y : D} (hx : D.cmp x = true) (hy : D.cmp y = true) (k : P (.bl (D.eqv x y))) : opD c (rEqD c.K) x y P := fun G H vx vy o i j Q hq =>
  ⟨x.py, y.py, Is.dp o.sub x (Bool.and_eq_true_iff.mp hx).1 i, Is.dp o.sub y (Bool.and_eq_true_iff.mp hy).1 j, D.shp hx, D.shp hy, hq G H _ _ k (Stp.refl o) rfl⟩
theorem od_ne {x y : D} (hx : D.cmp x = true) (hy : D.cmp y = true) (k : P (.bl (!D.eqv x y))) : opD c (rNeD c.K) x y P := fun G H vx vy o i j Q hq =>
  ⟨x.py, y.py, Is.dp o.sub x (Bool.and_eq_true_iff.mp hx).1 i, Is.dp o.sub y (Bool.and_eq_true_iff.mp hy).1 j, D.shp hx, D.shp hy, hq G H _ _ k (Stp.refl o) rfl⟩
theorem od_i {f : Int → Int → Int} {i j : Int} (k : P (.int (f i j))) : opD c (rI0 fun i j => .int (f i j)) (.int i) (.int j) P := fun G H vx vy o a b Q hq => by
  cases (show vx = V.int i from a); cases (show vy = V.int j from b)
  exact ⟨i, j, rfl, rfl, hq G H _ _ k (Stp.refl o) rfl⟩
theorem od_b {f : Int → Int → Bool} {i j : Int} (k : P (.bl (f i j))) : opD c (rI0 fun i j => .bl (f i j)) (.int i) (.int j) P := fun G H vx vy o a b Q hq => by
  cases (show vx = V.int i from a); cases (show vy = V.int j from b)
  exact ⟨i, j, rfl, rfl, hq G H _ _ k (Stp.refl o) rfl⟩
theorem od_ci {C : Int → Int → Prop} {f : Int → Int → Int} {i j : Int} (h : C i j) (k : P (.int (f i j))) : opD c (rI C fun i j => .int (f i j)) (.int i) (.int j) P := fun G H vx vy o a b Q hq => by
  cases (show vx = V.int i from a); cases (show vy = V.int j from b)
  exact ⟨i, j, rfl, rfl, h, hq G H _ _ k (Stp.refl o) rfl⟩
theorem atI_is {K : KT} {G : Hp} {ds : List D} {xs : List V} (h : IsL K G ds xs) {i : Int} {d : D} (e : atI ds i = some d) : ∃ x, atI xs i = some x ∧ Is K G d x := by
  unfold atI at e ⊢
  rw [IsL.len h]
  cases z : ixN ds.length i with
  | none => rw [z] at e; cases e
  | some j =>
    rw [z] at e
    exact IsL.get h e
theorem od_ixT {ds : List D} {i : Int} {d : D} (e : atI ds i = some d) (k : P d) : opD c (rIx c.K) (.tup ds) (.int i) P := fun G H vx vy o a b Q hq => by
  obtain ⟨p, xs, rfl, h1, h2⟩ := a
  cases (show vy = V.int i from b)
  obtain ⟨x, e2, h3⟩ := atI_is h2 e
  exact .inr (.inl ⟨p, xs, i, x, rfl, rfl, h1.sq o.sub, e2, hq G H _ d k (Stp.refl o) h3⟩)
theorem od_ixL {ds : List D} {i : Int} {d : D} (e : atI ds i = some d) (k : P d) : opD c (rIx c.K) (.lst ds) (.int i) P := fun G H vx vy o a b Q hq => by
  obtain ⟨p, xs, rfl, h1, h2⟩ := a
  cases (show vy = V.int i from b)
  obtain ⟨x, e2, h3⟩ := atI_is h2 e
  exact .inl ⟨p, xs, i, x, rfl, rfl, h1.sq o.sub, e2, hq G H _ d k (Stp.refl o) h3⟩
theorem IsL.isNil {K : KT} {G : Hp} {ds : List D} {xs : List V} (h : IsL K G ds xs) : xs = [] ↔ ds = [] := by
  have := IsL.len h
  constructor
  · intro e; rw [e] at this; exact List.length_eq_zero_iff.mp this.symm
  · intro e; rw [e] at this; exact List.length_eq_zero_iff.mp this
theorem od_catL {ds es : List D} (hl : ds.length + es.length ≤ 10000) (k : P (.lst (ds ++ es))) : opD c rCat (.lst ds) (.lst es) P := fun G H vx vy o a b Q hq => by
  obtain ⟨p, xs, rfl, h1, h2⟩ := a
  obtain ⟨p', ys, rfl, h3, h4⟩ := b
  refine ⟨p, p', xs, ys, rfl, rfl, o.sub _ _ h1, o.sub _ _ h3, by rw [IsL.len h2, IsL.len h4]; exact Nat.le_trans hl (by decide), fun n hn => ?_⟩
  exact hq _ _ _ _ k ((Stp.refl o).lay hn) ⟨n, _, rfl, upd_same, IsL.mono (Ex.new (none_of_sub o.sub hn)) _ (IsL.app h2 h4)⟩
theorem od_catT {ds es : List D} (hl : ds.length + es.length ≤ 10000) (k : P (.tup (ds ++ es))) : opD c (rCatA c.K) (.tup ds) (.tup es) P := fun G H vx vy o a b Q hq => by
  obtain ⟨p, xs, rfl, h1, h2⟩ := a
  obtain ⟨p', ys, rfl, h3, h4⟩ := b
  refine ⟨p, p', xs, ys, rfl, rfl, h1.sq o.sub, h3.sq o.sub, by rw [IsL.len h2, IsL.len h4]; exact Nat.le_trans hl (by decide), fun e => ?_, fun e1 e2 => ?_, fun e1 e2 n hn => ?_⟩
  · refine hq G H _ _ k (Stp.refl o) ⟨p', ys, rfl, h3, ?_⟩
    rw [(IsL.isNil h2).mp e]; exact h4
  · refine hq G H _ _ k (Stp.refl o) ⟨p, xs, rfl, h1, ?_⟩
    rw [(IsL.isNil h4).mp e2, List.append_nil]; exact h2
  · exact hq _ _ _ _ k ((Stp.refl o).lay hn) ⟨n, _, rfl, .inl upd_same, IsL.mono (Ex.new (none_of_sub o.sub hn)) _ (IsL.app h2 h4)⟩
theorem ud_neg {f : Int → Int} {i : Int} (k : P (.int (f i))) : unD c (rU fun i => .int (f i)) (.int i) P := fun G H vx o a Q hq => by
  cases (show vx = V.int i from a)
  exact ⟨i, rfl, hq G H _ _ k (Stp.refl o) rfl⟩
theorem IsL.one_of {K : KT} {G : Hp} {d : D} {vs : List V} (h : IsL K G [d] vs) : ∃ v, vs = [v] ∧ Is K G d v := by
  obtain ⟨x, r, rfl, h1, h2⟩ := h
  cases (show r = [] from h2)
  exact ⟨x, rfl, h1⟩
theorem IsL.two_of {K : KT} {G : Hp} {d e : D} {vs : List V} (h : IsL K G [d, e] vs) : ∃ v w, vs = [v, w] ∧ Is K G d v ∧ Is K G e w := by
  obtain ⟨x, r, rfl, h1, h2⟩ := h
  obtain ⟨y, rfl, h3⟩ := IsL.one_of h2
  exact ⟨x, y, rfl, h1, h3⟩
theorem cb_lenT {ds : List D} (k : P (.int ds.length)) : cbD c (fun zs H Q => ∃ p ys, zs = [.ref p] ∧ (SqL c.K H p ys ∨ SqT c.K H p ys) ∧ Q (.int ys.length) H) [.tup ds] P := fun G H vs o a Q hq => by
  obtain ⟨v, rfl, p, xs, rfl, h1, h2⟩ := IsL.one_of a
  refine ⟨p, xs, rfl, .inr (h1.sq o.sub), ?_⟩
  rw [IsL.len h2]; exact hq G H _ _ k (Stp.refl o) rfl
theorem cb_lenL {ds : List D} (k : P (.int ds.length)) : cbD c (fun zs H Q => ∃ p ys, zs = [.ref p] ∧ (SqL c.K H p ys ∨ SqT c.K H p ys) ∧ Q (.int ys.length) H) [.lst ds] P := fun G H vs o a Q hq => by
  obtain ⟨v, rfl, p, xs, rfl, h1, h2⟩ := IsL.one_of a
  refine ⟨p, xs, rfl, .inl (h1.sq o.sub), ?_⟩
  rw [IsL.len h2]; exact hq G H _ _ k (Stp.refl o) rfl
theorem cb_abs {i : Int} (k : P (.int (if i < 0 then -i else i))) : cbD c (fun zs H Q => ∃ i, zs = [.int i] ∧ Q (.int (if i < 0 then -i else i)) H) [.int i] P := fun G H vs o a Q hq => by
  obtain ⟨v, rfl, h⟩ := IsL.one_of a
  cases (show v = V.int i from h)
  exact ⟨i, rfl, hq G H _ _ k (Stp.refl o) rfl⟩
theorem cb_int {i : Int} (k : P (.int i)) : cbD c (fun zs H Q => (∃ i, zs = [.int i] ∧ Q (.int i) H) ∨ ∃ k, zs = [.bl k] ∧ Q (.int (if k then 1 else 0)) H) [.int i] P := fun G H vs o a Q hq => by
  obtain ⟨v, rfl, h⟩ := IsL.one_of a
  cases (show v = V.int i from h)
  exact .inl ⟨i, rfl, hq G H _ _ k (Stp.refl o) rfl⟩
theorem cb_gcd {i j : Int} (k : P (.int ((Nat.gcd i.natAbs j.natAbs : Nat) : Int))) : cbD c rGcd [.int i, .int j] P := fun G H vs o a Q hq => by
  obtain ⟨v, w, rfl, h, h'⟩ := IsL.two_of a
  cases (show v = V.int i from h); cases (show w = V.int j from h')
  exact ⟨i, j, rfl, hq G H _ _ k (Stp.refl o) rfl⟩
theorem cb_min {i j : Int} (k : P (.int (if j < i then j else i))) : cbD c (fun zs H Q => ∃ i j, zs = [.int i, .int j] ∧ Q (.int (if j < i then j else i)) H) [.int i, .int j] P := fun G H vs o a Q hq => by
  obtain ⟨v, w, rfl, h, h'⟩ := IsL.two_of a
  cases (show v = V.int i from h); cases (show w = V.int j from h')
  exact ⟨i, j, rfl, hq G H _ _ k (Stp.refl o) rfl⟩
theorem cb_max {i j : Int} (k : P (.int (if j > i then j else i))) : cbD c (fun zs H Q => ∃ i j, zs = [.int i, .int j] ∧ Q (.int (if j > i then j else i)) H) [.int i, .int j] P := fun G H vs o a Q hq => by
  obtain ⟨v, w, rfl, h, h'⟩ := IsL.two_of a
  cases (show v = V.int i from h); cases (show w = V.int j from h')
  exact ⟨i, j, rfl, hq G H _ _ k (Stp.refl o) rfl⟩
/-- list(..), tuple(..) of a list or a tuple -/
theorem cb_listT {ds : List D} (k : P (.lst ds)) : cbD c (fun zs H Q => ∃ p ys, zs = [.ref p] ∧ (SqL c.K H p ys ∨ SqT c.K H p ys) ∧ ∀ l, H l = none → Q (.ref l) (upd H l (.lst ys))) [.tup ds] P := fun G H vs o a Q hq => by
  obtain ⟨v, rfl, p, xs, rfl, h1, h2⟩ := IsL.one_of a
  exact ⟨p, xs, rfl, .inr (h1.sq o.sub), fun n hn => hq _ _ _ _ k ((Stp.refl o).lay hn) ⟨n, xs, rfl, upd_same, IsL.mono (Ex.new (none_of_sub o.sub hn)) _ h2⟩⟩
theorem cb_listL {ds : List D} (k : P (.lst ds)) : cbD c (fun zs H Q => ∃ p ys, zs = [.ref p] ∧ (SqL c.K H p ys ∨ SqT c.K H p ys) ∧ ∀ l, H l = none → Q (.ref l) (upd H l (.lst ys))) [.lst ds] P := fun G H vs o a Q hq => by
  obtain ⟨v, rfl, p, xs, rfl, h1, h2⟩ := IsL.one_of a
  exact ⟨p, xs, rfl, .inl (h1.sq o.sub), fun n hn => hq _ _ _ _ k ((Stp.refl o).lay hn) ⟨n, xs, rfl, upd_same, IsL.mono (Ex.new (none_of_sub o.sub hn)) _ h2⟩⟩
theorem cb_tupT {ds : List D} (k : P (.tup ds)) : cbD c (fun zs H Q => ∃ p ys, zs = [.ref p] ∧ ((SqL c.K H p ys ∧ ∀ l, H l = none → Q (.ref l) (upd H l (.tup ys))) ∨ (SqT c.K H p ys ∧ Q (.ref p) H))) [.tup ds] P := fun G H vs o a Q hq => by
  obtain ⟨v, rfl, p, xs, rfl, h1, h2⟩ := IsL.one_of a
  exact ⟨p, xs, rfl, .inr ⟨h1.sq o.sub, hq G H _ _ k (Stp.refl o) ⟨p, xs, rfl, h1, h2⟩⟩⟩
theorem cb_tupL {ds : List D} (k : P (.tup ds)) : cbD c (fun zs H Q => ∃ p ys, zs = [.ref p] ∧ ((SqL c.K H p ys ∧ ∀ l, H l = none → Q (.ref l) (upd H l (.tup ys))) ∨ (SqT c.K H p ys ∧ Q (.ref p) H))) [.lst ds] P := fun G H vs o a Q hq => by
  obtain ⟨v, rfl, p, xs, rfl, h1, h2⟩ := IsL.one_of a
  exact ⟨p, xs, rfl, .inl ⟨h1.sq o.sub, fun n hn => hq _ _ _ _ k ((Stp.refl o).lay hn) ⟨n, xs, rfl, .inl upd_same, IsL.mono (Ex.new (none_of_sub o.sub hn)) _ h2⟩⟩⟩
/-! isinstance -/
def D.tyn : D → Option String
  | .non => some "NoneType"
  | .bl _ => some "bool"
  | .int _ => some "int"
  | .str _ => some "str"
  | .tup _ => some "tuple"
  | .lst _ => some "list"
  | _ => none
theorem Is.ty {K : KT} {G H : Hp} (e : Ex G H) : ∀ {d : D} {v : V} {n : String}, D.tyn d = some n → Is K G d v → TyX K H v (.type n)
  | .non, _, _, h, i => by cases h; cases (show _ = V.non from i); exact .base .non
  | .bl b, _, _, h, i => by cases h; cases (show _ = V.bl b from i); exact .base (.bl b)
  | .int b, _, _, h, i => by cases h; cases (show _ = V.int b from i); exact .base (.int b)
  | .str b, _, _, h, i => by cases h; cases (show _ = V.str b from i); exact .base (.str b)
  | .tup ds, _, _, h, ⟨a, xs, e1, h1, h2⟩ => by
    cases h; rw [e1]
    rcases h1 with h1 | ⟨o, its, n, h1, h3, _⟩
    · exact .base (.tup (e _ _ h1))
    · exact .kTuple h1 h3
  | .lst ds, _, _, h, ⟨a, xs, e1, h1, h2⟩ => by
    cases h; rw [e1]; exact .base (.lst (e _ _ h1))
theorem cb_isi {d : D} {t n : String} {b : Bool} (ht : D.tyn d = some t) (hk : kitB t n = some b) (k : P (.bl b)) : cbD c (rIsi c.K) [d, .ty n] P := fun G H vs o a Q hq => by
  obtain ⟨v, w, rfl, h, h'⟩ := IsL.two_of a
  cases (show w = V.ty n from h')
  exact ⟨v, _, _, _, b, rfl, .ty n, Is.ty o.sub ht h, kit_ty hk, hq G H _ _ k (Stp.refl o) rfl⟩
theorem kany2 {K : KT} {t n1 n2 : String} {b1 b2 : Bool} (h1 : kitB t n1 = some b1) (h2 : kitB t n2 = some b2) : PySem.W.kitAny K (.type t) [.type n1, .type n2] = some (b1 || b2) := by
  refine kitAny_cons (kit_ty h1) (fun e => ?_) fun e => by rw [e]; rfl
  rw [e]
  refine kitAny_cons (kit_ty h2) (fun e2 => ?_) fun e2 => by rw [e2]; rfl
  rw [e2]; exact kitAny_nil
/-- isinstance(e, (T1, T2)), the tuple written there -/
theorem wp_isi2 {n1 n2 : String} (h : wpE c ta q fun d => ∃ t b1 b2, D.tyn d = some t ∧ kitB t n1 = some b1 ∧ kitB t n2 = some b2 ∧ P (.bl (b1 || b2))) :
    wpE c (tCB (rIsiT c.K) (tCons ta (tCons (tTup (tCons (tC (.ty n1)) (tCons (tC (.ty n2)) tNil))) tNil))) q P := fun G H s S R Q hq =>
  h G H s S R _ fun G1 H1 v d h1 T1 i1 => by
    obtain ⟨t, b1, b2, ht, k1, k2, hp⟩ := h1
    refine ⟨(by decide : 2 ≤ sizeLine), fun p hp0 => ?_⟩
    have T2 := T1.lay (o := .tup [.ty n1, .ty n2]) hp0
    exact ⟨v, p, _, _, _, _, rfl, upd_same, .cons (.ty n1) (.cons (.ty n2) .nil), Is.ty (Ex.trans T1.ok.sub (Ex.new hp0)) ht i1, kany2 k1 k2, hq _ _ _ _ hp T2 rfl⟩
/-! slices -/
theorem wo_none {B : Option Int → Prop} (h : B none) : wpO c tNoPart q B := fun G H s S R Q hq => hq G H none h (Stp.refl S.ok)
theorem wo_some {B : Option Int → Prop} (h : wpE c te q fun x => ∃ i, x = .int i ∧ B (some i)) : wpO c (tPart te) q B := fun G H s S R Q hq =>
  h G H s S R _ fun G1 H1 v d h1 T1 i1 => by
    obtain ⟨i, rfl, h2⟩ := h1
    exact ⟨i, i1, hq G1 H1 _ h2 T1⟩
def cutD (xs : List D) (lo hi : Option Int) : List D := (xs.drop (HT.sIx xs.length 0 lo)).take (HT.sIx xs.length xs.length hi - HT.sIx xs.length 0 lo)
theorem IsL.cut {K : KT} {G : Hp} {ds : List D} {xs : List V} (h : IsL K G ds xs) (lo hi : Option Int) : IsL K G (cutD ds lo hi) (cutV xs lo hi) := by
  unfold cutD cutV
  rw [IsL.len h]
  exact IsL.take _ (IsL.drop _ h)
theorem wp_slL {tl th : TO} (h : wpE c te q fun x => wpO c tl q fun lo => wpO c th q fun hi => ∃ ds, x = .lst ds ∧ P (.lst (cutD ds lo hi))) : wpE c (tSl (rSlL c.K) te tl th) q P := fun G H s S R Q hq =>
  h G H s S R _ fun G1 H1 v d h1 T1 i1 => h1 G1 H1 s (S.trans T1) (R.step T1) _ fun G2 H2 lo h2 T2 => h2 G2 H2 s ((S.trans T1).trans T2) ((R.step T1).step T2) _ fun G3 H3 hi h3 T3 => by
    obtain ⟨ds, rfl, hp⟩ := h3
    obtain ⟨a, xs, rfl, a1, a2⟩ := i1
    have e := T2.ex.trans T3.ex
    refine ⟨a, xs, rfl, (a1.mono e).sq T3.ok.sub, fun p hp0 => ?_⟩
    have T := ((T1.trans T2).trans T3).lay (o := .lst (cutV xs lo hi)) hp0
    exact hq _ _ _ _ hp T ⟨p, _, rfl, upd_same, IsL.mono (Ex.new (none_of_sub T3.ok.sub hp0)) _ (IsL.mono e _ (IsL.cut a2 lo hi))⟩
theorem IsL.whole {K : KT} {G : Hp} {ds : List D} {xs : List V} (h : IsL K G ds xs) {lo hi : Option Int} (e1 : HT.sIx xs.length 0 lo = 0) (e2 : HT.sIx xs.length xs.length hi = xs.length) : cutD ds lo hi = ds := by
  unfold cutD
  rw [← IsL.len h, e1, e2, List.drop_zero, Nat.sub_zero, IsL.len h, List.take_length]
theorem wp_slT {tl th : TO} (h : wpE c te q fun x => wpO c tl q fun lo => wpO c th q fun hi => ∃ ds, x = .tup ds ∧ P (.tup (cutD ds lo hi))) : wpE c (tSl (rSlA c.K) te tl th) q P := fun G H s S R Q hq =>
  h G H s S R _ fun G1 H1 v d h1 T1 i1 => h1 G1 H1 s (S.trans T1) (R.step T1) _ fun G2 H2 lo h2 T2 => h2 G2 H2 s ((S.trans T1).trans T2) ((R.step T1).step T2) _ fun G3 H3 hi h3 T3 => by
    obtain ⟨ds, rfl, hp⟩ := h3
    obtain ⟨a, xs, rfl, a1, a2⟩ := i1
    have e := T2.ex.trans T3.ex
    have TT := (T1.trans T2).trans T3
    refine ⟨a, xs, rfl, (a1.mono e).sq T3.ok.sub, fun z => ?_, fun _ p hp0 => ?_⟩
    · rw [IsL.whole a2 z.1 z.2] at hp
      exact hq _ _ _ _ hp TT ⟨a, xs, rfl, a1.mono e, IsL.mono e _ a2⟩
    · exact hq _ _ _ _ hp (TT.lay hp0) ⟨p, _, rfl, .inl upd_same, IsL.mono (Ex.new (none_of_sub T3.ok.sub hp0)) _ (IsL.mono e _ (IsL.cut a2 lo hi))⟩
/-- e is True, e is not False, of truth values -/
theorem od_bb {f : Bool → Bool → Bool} {a b : Bool} (k : P (.bl (f a b))) : opD c (fun x y H Q => ∃ a b, x = .bl a ∧ y = .bl b ∧ Q (.bl (f a b)) H) (.bl a) (.bl b) P := fun G H vx vy o i j Q hq => by
  cases (show vx = V.bl a from i); cases (show vy = V.bl b from j)
  exact ⟨a, b, rfl, rfl, hq G H _ _ k (Stp.refl o) rfl⟩
theorem wp_chain {r r' : R2} {tc : TE} (h : wpE c ta q fun x => wpE c tb q fun y => opD c r x y fun z => ∃ b, z = .bl b ∧ (b = true → wpE c tc q fun w => opD c r' y w P) ∧ (b = false → P (.bl false))) : wpE c (tChain r r' ta tb tc) q P := fun G H s S R Q hq =>
  h G H s S R _ fun G1 H1 vx x h1 T1 i1 => h1 G1 H1 s (S.trans T1) (R.step T1) _ fun G2 H2 vy y h2 T2 i2 =>
    h2 G2 H2 vx vy T2.ok (Is.mono T2.ex x i1) i2 _ fun G3 H3 v d p T3 i3 => by
      obtain ⟨b, rfl, k1, k2⟩ := p
      have T := (T1.trans T2).trans T3
      refine ⟨b, i3, ?_⟩
      cases b with
      | false =>
        first
          | exact hq G3 H3 _ _ (k2 rfl) T rfl
          | (rw [if_neg (by decide)]; exact hq G3 H3 _ _ (k2 rfl) T rfl)
          | (rw [if_pos (by decide)]; exact hq G3 H3 _ _ (k2 rfl) T rfl)
      | true =>
        have g := k1 rfl G3 H3 s (S.trans T) (R.step T) (fun w H4 => r' vy w H4 Q) fun G4 H4 vw w h4 T4 i4 =>
          h4 G4 H4 vy vw T4.ok (Is.mono (T3.ex.trans T4.ex) y i2) i4 Q fun G5 H5 v5 d5 p5 T5 i5 => hq G5 H5 v5 d5 p5 ((T.trans T4).trans T5) i5
        first
          | exact g
          | (rw [if_neg (by decide)]; exact g)
          | (rw [if_pos (by decide)]; exact g)
end
end Ez

set_option Elab.async false
set_option linter.all false
set_option maxRecDepth 100000
namespace Ez
open L2 PySem PyProof.Rows PySem.Spec

section
variable {c : Cn} {q : List Sl} {P : D → Prop} {ta tb te : TE} {t u : TT} {F : Fn} {ts tu tw : TS} {g : TG}
/-! ### loops -/
/-- a state of a loop: some slots by the loop's word, what was kept at G1 kept -/
def LpAt (c : Cn) (G1 : Hp) (I : List Sl → Prop) (s : L2.St) (H : Hp) : Prop := ∃ G q', I q' ∧ Ex G1 G ∧ c.S G H ∧ c.R G H s q'
theorem turn_at {tb : TS} {I J : List Sl → Prop} {G1 : Hp} {D' : Ends} {x : D} {v : V} {s : L2.St} {H G : Hp} {q' : List Sl} (p : Post c D' F G1) (e : Ex G1 G) (S : c.S G H) (R : c.R G H s q') (iv : Is c.K G x v)
    (h : wpG c g x q' fun q2 => wpS c tb q2 { F with nx := I, ct := J, bk := F.nx }) : g v s H fun s2 H2 => tb { D' with nx := LpAt c G1 I, ct := LpAt c G1 J, bk := D'.nx } s2 H2 :=
  h G H s v S R iv _ fun s2 H2 G2 q2 w e2 S2 R2 => w _ s2 G2 H2 S2 R2
    ⟨fun s3 H3 G3 q3 a b S3 R3 => ⟨G3, q3, a, (e.trans e2).trans b, S3, R3⟩, fun v H3 G3 d m n a b => p.rt v H3 G3 d m n a ((e.trans e2).trans b), fun s3 H3 G3 q3 a b => p.nx s3 H3 G3 q3 a ((e.trans e2).trans b), fun s3 H3 G3 q3 a b S3 R3 => ⟨G3, q3, a, (e.trans e2).trans b, S3, R3⟩⟩
theorem ws_forL {tb : TS} (h : wpE c ta q fun d => ∃ ds, d = .lst ds ∧ ∃ I : Nat → List Sl → Prop, I 0 q ∧
      (∀ i x q', ds[i]? = some x → I i q' → wpG c g x q' fun q2 => wpS c tb q2 { F with nx := I (i + 1), ct := I (i + 1), bk := F.nx }) ∧ ∀ q', I ds.length q' → F.nx q') :
    wpS c (tFor (iList c.K ta) g tb) q F := fun D' s G H S R p =>
  h G H s S R _ fun G1 H1 v d h1 T1 i1 => by
    obtain ⟨ds, rfl, I, h0, hs, hd⟩ := h1
    obtain ⟨a, xs, rfl, l1, l2⟩ := i1
    have p1 := p.more T1.ex
    refine ⟨a, rfl, ⟨xs, l1.sq T1.ok.sub⟩, for_list (xs := xs) (fun i => LpAt c G1 (I i)) ⟨G1, q, h0, Ex.refl G1, S.trans T1, R.step T1⟩ (fun i s' H' _ z => ?_) (fun i x s' H' e z => ?_) fun s' H' z => ?_⟩
    · obtain ⟨G2, q2, _, e2, S2, _⟩ := z
      exact (l1.mono e2).sq S2.ok.sub
    · obtain ⟨G2, q2, w, e2, S2, R2⟩ := z
      obtain ⟨d, ed, id⟩ := IsL.back l2 e
      exact turn_at p1 e2 S2 R2 (Is.mono e2 d id) (hs i d q2 ed w)
    · obtain ⟨G2, q2, w, e2, S2, R2⟩ := z
      rw [IsL.len l2] at w
      exact p1.nx s' H' G2 q2 (hd q2 w) e2 S2 R2
theorem ws_forT {tb : TS} (h : wpE c ta q fun d => ∃ ds, d = .tup ds ∧ ∃ I : Nat → List Sl → Prop, I 0 q ∧
      (∀ i x q', ds[i]? = some x → I i q' → wpG c g x q' fun q2 => wpS c tb q2 { F with nx := I (i + 1), ct := I (i + 1), bk := F.nx }) ∧ ∀ q', I ds.length q' → F.nx q') :
    wpS c (tFor (iTup c.K ta) g tb) q F := fun D' s G H S R p =>
  h G H s S R _ fun G1 H1 v d h1 T1 i1 => by
    obtain ⟨ds, rfl, I, h0, hs, hd⟩ := h1
    obtain ⟨a, xs, rfl, l1, l2⟩ := i1
    have p1 := p.more T1.ex
    refine ⟨a, rfl, ⟨xs, l1.sq T1.ok.sub⟩, for_tup (xs := xs) (fun i => LpAt c G1 (I i)) ⟨G1, q, h0, Ex.refl G1, S.trans T1, R.step T1⟩ (fun i s' H' _ z => ?_) (fun i x s' H' e z => ?_) fun s' H' z => ?_⟩
    · obtain ⟨G2, q2, _, e2, S2, _⟩ := z
      exact (l1.mono e2).sq S2.ok.sub
    · obtain ⟨G2, q2, w, e2, S2, R2⟩ := z
      obtain ⟨d, ed, id⟩ := IsL.back l2 e
      exact turn_at p1 e2 S2 R2 (Is.mono e2 d id) (hs i d q2 ed w)
    · obtain ⟨G2, q2, w, e2, S2, R2⟩ := z
      rw [IsL.len l2] at w
      exact p1.nx s' H' G2 q2 (hd q2 w) e2 S2 R2
theorem ws_forR1 {tb : TS} {ta : TA} (h : wpA c ta q fun ds => ∃ n : Int, ds = [.int n] ∧ -(2 ^ 62) ≤ n ∧ n < 2 ^ 62 ∧ ∃ I : Nat → List Sl → Prop, I 0 q ∧
      (∀ (i : Nat) q', (i : Int) < n → I i q' → wpG c g (.int i) q' fun q2 => wpS c tb q2 { F with nx := I (i + 1), ct := I (i + 1), bk := F.nx }) ∧ ∀ q', I n.toNat q' → F.nx q') :
    wpS c (tFor (iRng1 ta) g tb) q F := fun D' s G H S R p =>
  h G H s S R _ fun G1 H1 vs ds h1 T1 i1 => by
    obtain ⟨n, rfl, n1, n2, I, h0, hs, hd⟩ := h1
    obtain ⟨v, rfl, iv⟩ := IsL.one_of i1
    cases (show v = V.int n from iv)
    have p1 := p.more T1.ex
    refine ⟨n, rfl, n1, n2, for_range (lo := 0) (n := n.toNat) (fun i => LpAt c G1 (I i)) ⟨G1, q, h0, Ex.refl G1, S.trans T1, R.step T1⟩ (fun i s' H' hi z => ?_) fun s' H' z => ?_⟩
    · obtain ⟨G2, q2, w, e2, S2, R2⟩ := z
      rw [show (0 : Int) + (i : Int) = (i : Int) from Int.zero_add _]
      exact turn_at p1 e2 S2 R2 (show Is c.K G2 (.int (i : Int)) (V.int (i : Int)) from rfl) (hs i q2 (by omega) w)
    · obtain ⟨G2, q2, w, e2, S2, R2⟩ := z
      exact p1.nx s' H' G2 q2 (hd q2 w) e2 S2 R2
theorem ws_forR2 {tb : TS} {ta : TA} (h : wpA c ta q fun ds => ∃ lo n : Int, ds = [.int lo, .int n] ∧ (-(2 ^ 62) ≤ lo ∧ lo < 2 ^ 62 ∧ -(2 ^ 62) ≤ n ∧ n < 2 ^ 62) ∧ ∃ I : Nat → List Sl → Prop, I 0 q ∧
      (∀ (i : Nat) q', lo + (i : Int) < n → I i q' → wpG c g (.int (lo + i)) q' fun q2 => wpS c tb q2 { F with nx := I (i + 1), ct := I (i + 1), bk := F.nx }) ∧ ∀ q', I (n - lo).toNat q' → F.nx q') :
    wpS c (tFor (iRng2 ta) g tb) q F := fun D' s G H S R p =>
  h G H s S R _ fun G1 H1 vs ds h1 T1 i1 => by
    obtain ⟨lo, n, rfl, hb, I, h0, hs, hd⟩ := h1
    obtain ⟨v, w, rfl, iv, iw⟩ := IsL.two_of i1
    cases (show v = V.int lo from iv)
    cases (show w = V.int n from iw)
    have p1 := p.more T1.ex
    refine ⟨lo, n, rfl, hb, for_range (lo := lo) (n := (n - lo).toNat) (fun i => LpAt c G1 (I i)) ⟨G1, q, h0, Ex.refl G1, S.trans T1, R.step T1⟩ (fun i s' H' hi z => ?_) fun s' H' z => ?_⟩
    · obtain ⟨G2, q2, w, e2, S2, R2⟩ := z
      exact turn_at p1 e2 S2 R2 (show Is c.K G2 (.int (lo + (i : Int))) (V.int (lo + (i : Int))) from rfl) (hs i q2 (by omega) w)
    · obtain ⟨G2, q2, w, e2, S2, R2⟩ := z
      exact p1.nx s' H' G2 q2 (hd q2 w) e2 S2 R2
theorem ws_while {tb : TS} (I : Nat → List Sl → Prop) (h0 : ∃ m, I m q) (h : ∀ m q', I m q' → wpT c t q' fun b =>
      (b = true → wpS c tb q' { F with nx := fun q2 => ∃ m', m' < m ∧ I m' q2, ct := fun q2 => ∃ m', m' < m ∧ I m' q2, bk := F.nx }) ∧ (b = false → F.nx q')) : wpS c (tWhile t tb) q F := fun D' s G H S R p => by
  obtain ⟨m, h0⟩ := h0
  refine ⟨fun m => LpAt c G (I m), ⟨m, G, q, h0, Ex.refl G, S, R⟩, fun m s1 H1 w => ?_⟩
  obtain ⟨G1, q1, w, e1, S1, R1⟩ := w
  refine h m q1 w G1 H1 s1 S1 R1 _ fun G2 H2 b h2 T2 => ?_
  cases b with
  | false =>
    have z := p.nx s1 H2 G2 q1 (h2.2 rfl) (e1.trans T2.ex) (S1.trans T2) (R1.step T2)
    first
      | exact z
      | (rw [if_neg (by decide)]; exact z)
  | true =>
    have z : ∃ N : L2.St → Hp → Prop, (∀ s' H', N s' H' → ∃ m', m' < m ∧ LpAt c G (I m') s' H') ∧ tb { D' with nx := N, ct := N, bk := D'.nx } s1 H2 := by
      refine ⟨fun s' H' => ∃ m', m' < m ∧ LpAt c G (I m') s' H', fun _ _ z => z, ?_⟩
      refine h2.1 rfl _ s1 G2 H2 (S1.trans T2) (R1.step T2) ⟨fun s3 H3 G3 q3 a b S3 R3 => ?_, fun v H3 G3 d m n a b => p.rt v H3 G3 d m n a ((e1.trans T2.ex).trans b), fun s3 H3 G3 q3 a b => p.nx s3 H3 G3 q3 a ((e1.trans T2.ex).trans b), fun s3 H3 G3 q3 a b S3 R3 => ?_⟩
      · obtain ⟨m', lt, a⟩ := a
        exact ⟨m', lt, G3, q3, a, (e1.trans T2.ex).trans b, S3, R3⟩
      · obtain ⟨m', lt, a⟩ := a
        exact ⟨m', lt, G3, q3, a, (e1.trans T2.ex).trans b, S3, R3⟩
    first
      | exact z
      | (rw [if_pos rfl]; exact z)
theorem ws_par {i j : Nat} {ta : TA} (h : wpA c ta q fun ds => ∃ x y, ds = [x, y] ∧ i < q.length ∧ j < q.length ∧ F.nx ((q.set i (.dat x)).set j (.dat y))) : wpS c (tPar i j ta) q F := fun D' s G H S R p =>
  h G H s S R _ fun G1 H1 vs ds h1 T1 i1 => by
    obtain ⟨x, y, rfl, hi, hj, k⟩ := h1
    obtain ⟨v, w, rfl, iv, iw⟩ := IsL.two_of i1
    exact ⟨v, w, rfl, p.nx _ _ G1 _ k T1.ex (S.trans T1) (((R.step T1).setD iv hi).setD iw (by simpa using hj))⟩
/-! ### own lists -/
/-- a new list that nobody else holds -/
def wpF (c : Cn) (te : TE) (q : List Sl) (P : List D → Prop) : Prop :=
  ∀ G H s, c.S G H → c.R G H s q → ∀ Q : VK, (∀ G' H1 p xs ds, P ds → Stp c.W G H G' H1 → H1 p = none → IsL c.K G' ds xs → Q (.ref p) (upd H1 p (.lst xs))) → te s H Q
theorem wf_lst {ta : TA} {P : List D → Prop} (h : wpA c ta q fun xs => xs.length ≤ 10000 ∧ P xs) : wpF c (tLst ta) q P := fun G H s S R Q hq =>
  h G H s S R _ fun G1 H1 vs xs h1 T1 i1 => ⟨by rw [IsL.len i1]; exact Nat.le_trans h1.1 (by decide), fun p hp => hq G1 H1 p vs xs h1.2 T1 hp i1⟩
theorem wf_listT {ta : TA} {P : List D → Prop} (h : wpA c ta q fun xs => ∃ ds, (xs = [.tup ds] ∨ xs = [.lst ds]) ∧ P ds) : wpF c (tCB (fun zs H Q => ∃ p ys, zs = [.ref p] ∧ (SqL c.K H p ys ∨ SqT c.K H p ys) ∧ ∀ l, H l = none → Q (.ref l) (upd H l (.lst ys))) ta) q P := fun G H s S R Q hq =>
  h G H s S R _ fun G1 H1 vs xs h1 T1 i1 => by
    obtain ⟨ds, e, k⟩ := h1
    rcases e with rfl | rfl
    · obtain ⟨v, rfl, p, ys, rfl, h2, h3⟩ := IsL.one_of i1
      exact ⟨p, ys, rfl, .inr (h2.sq T1.ok.sub), fun l hl => hq G1 H1 l ys ds k T1 hl h3⟩
    · obtain ⟨v, rfl, p, ys, rfl, h2, h3⟩ := IsL.one_of i1
      exact ⟨p, ys, rfl, .inl (h2.sq T1.ok.sub), fun l hl => hq G1 H1 l ys ds k T1 hl h3⟩
theorem ws_asgF {i : Nat} (hl : i < q.length) (h : wpF c te q fun ds => ∀ a, F.nx (q.set i (.own a ds))) : wpS c (tAsg te (gName i)) q F := fun D' s G H S R p =>
  h G H s S R _ fun G1 H1 a xs ds h1 T1 hn hx => by
    have S1 := S.trans T1
    have hg := none_of_sub T1.ok.sub hn
    exact p.nx _ _ G1 _ (h1 a) T1.ex (S1.put (none_of_th S1.th hn) hg (T1.ok.notM hn)) ((R.step T1).setO hn (none_of_th S1.th hn) hg (T1.ok.notM hn) hx hl)
theorem ws_app {i : Nat} {a : Addr} {ds : List D} (hi : q[i]? = some (.own a ds)) (h : wpE c te q fun d => ds.length ≤ 10000 ∧ F.nx (q.set i (.own a (ds ++ [d])))) : wpS c (tDrop (tBM c.K "list" rAppend (tVar i) (tCons te tNil))) q F := fun D' s G H S R p => by
  obtain ⟨xs, e1, e2, e3, e4, e5, e6⟩ := R.own i a ds hi
  refine ⟨_, e1, Or.inl ⟨rfl, _, Or.inl (Or.inl e2)⟩, ?_⟩
  refine h G H s S R _ fun G1 H1 v d h1 T1 i1 => ?_
  exact ⟨a, xs, v, rfl, rfl, T1.kp a _ e5 e2, by rw [IsL.len e6]; exact Nat.lt_of_le_of_lt h1.1 (by decide), p.nx _ _ G1 _ h1.2 T1.ex ((S.trans T1).put e4 ((R.step T1).own i a ds hi).choose_spec.2.2.1 e5) ((R.step T1).putO hi (IsL.app (IsL.mono T1.ex _ e6) (IsL.one i1)))⟩
theorem ixN_lt {n : Nat} {i : Int} {j : Nat} (h : ixN n i = some j) : j < n := (ixN_seq h).2.1
theorem IsL.set {K : KT} {G : Hp} {d : D} {v : V} (hv : Is K G d v) : ∀ {ds : List D} {xs : List V} (j : Nat), IsL K G ds xs → IsL K G (ds.set j d) (xs.set j v)
  | [], _, j, h => by cases (show _ = [] from h); exact rfl
  | e :: ds, _, 0, ⟨x, r, p, a, b⟩ => ⟨v, r, by rw [p]; rfl, hv, b⟩
  | e :: ds, _, j + 1, ⟨x, r, p, a, b⟩ => ⟨x, r.set j v, by rw [p]; rfl, a, IsL.set hv j b⟩
/-- an index that may be read, stored at -/
def IxD (x : D) (ds : List D) (P : D → Prop) : Prop := ∃ k d, x = .int k ∧ atI ds k = some d ∧ P d
def StD (x : D) (n : Nat) (P : Nat → Prop) : Prop := ∃ k j, x = .int k ∧ ixN n k = some j ∧ P j
theorem ix_of {ds : List D} {P : D → Prop} {k : Int} {d : D} (h : atI ds k = some d) (p : P d) : IxD (.int k) ds P := ⟨k, d, rfl, h, p⟩
theorem st_of {n : Nat} {P : Nat → Prop} {k : Int} {j : Nat} (h : ixN n k = some j) (p : P j) : StD (.int k) n P := ⟨k, j, rfl, h, p⟩
theorem ws_setO {i : Nat} {a : Addr} {ds : List D} {ti : TE} (hi : q[i]? = some (.own a ds)) (h : wpE c te q fun d => wpE c ti q fun x => StD x ds.length fun j => F.nx (q.set i (.own a (ds.set j d)))) : wpS c (tAsg te (gSub (tVar i) ti rSetL)) q F := fun D' s G H S R p => by
  refine h G H s S R _ fun G1 H1 v d h1 T1 i1 => ?_
  have R1 := R.step T1
  obtain ⟨xs, e1, e2, e3, e4, e5, e6⟩ := R1.own i a ds hi
  refine ⟨_, e1, h1 G1 H1 s (S.trans T1) R1 _ fun G2 H2 v2 d2 h2 T2 i2 => ?_⟩
  obtain ⟨k, j, rfl, ej, hn⟩ := h2
  have R2 := R1.step T2
  obtain ⟨xs', f1, f2, f3, f4, f5, f6⟩ := R2.own i a ds hi
  refine ⟨a, xs', k, j, rfl, i2, f2, by rw [IsL.len f6]; exact ej, ?_⟩
  exact p.nx _ _ G2 _ hn (T1.ex.trans T2.ex) (((S.trans T1).trans T2).put f4 f3 f5) (R2.putO hi (IsL.set (Is.mono T2.ex d i1) j f6))
/-- len, an item of an own list -/
theorem wp_lenO {i : Nat} {a : Addr} {ds : List D} (hi : q[i]? = some (.own a ds)) (k : P (.int ds.length)) : wpE c (tCB (fun zs H Q => ∃ p ys, zs = [.ref p] ∧ (SqL c.K H p ys ∨ SqT c.K H p ys) ∧ Q (.int ys.length) H) (tCons (tVar i) tNil)) q P := fun G H s S R Q hq => by
  obtain ⟨xs, e1, e2, e3, e4, e5, e6⟩ := R.own i a ds hi
  refine ⟨_, e1, a, xs, rfl, .inl (.inl (.inl e2)), ?_⟩
  rw [IsL.len e6]; exact hq G H _ _ k (Stp.refl S.ok) rfl
theorem wp_ixO {i : Nat} {a : Addr} {ds : List D} (hi : q[i]? = some (.own a ds)) (h : wpE c te q fun x => IxD x ds P) : wpE c (tOp (rIx c.K) (tVar i) te) q P := fun G H s S R Q hq => by
  obtain ⟨xs, e1, e2, e3, e4, e5, e6⟩ := R.own i a ds hi
  refine ⟨_, e1, h G H s S R _ fun G1 H1 v d h1 T1 i1 => ?_⟩
  obtain ⟨k, d2, rfl, hk, hp⟩ := h1
  obtain ⟨xs', f1, f2, f3, f4, f5, f6⟩ := (R.step T1).own i a ds hi
  obtain ⟨x, e7, h3⟩ := atI_is f6 hk
  exact .inl ⟨a, xs', k, x, rfl, i1, .inl (.inl f2), e7, hq G1 H1 _ d2 hp T1 h3⟩
theorem wp_tupO {i : Nat} {a : Addr} {ds : List D} (hi : q[i]? = some (.own a ds)) (k : P (.tup ds)) : wpE c (tCB (fun zs H Q => ∃ p ys, zs = [.ref p] ∧ ((SqL c.K H p ys ∧ ∀ l, H l = none → Q (.ref l) (upd H l (.tup ys))) ∨ (SqT c.K H p ys ∧ Q (.ref p) H))) (tCons (tVar i) tNil)) q P := fun G H s S R Q hq => by
  obtain ⟨xs, e1, e2, e3, e4, e5, e6⟩ := R.own i a ds hi
  exact ⟨_, e1, a, xs, rfl, .inl ⟨.inl (.inl e2), fun n hn => hq _ _ _ _ k ((Stp.refl S.ok).lay hn) ⟨n, xs, rfl, .inl upd_same, IsL.mono (Ex.new (none_of_sub S.ok.sub hn)) _ e6⟩⟩⟩

/-! ### comprehensions -/
def wipeS (q : List Sl) : List Nat → List Sl
  | [] => q
  | v :: vs => (wipeS q vs).set v .unk
theorem Rel.wipe {K : KT} {W : Wd} {H0 G H : Hp} {s : L2.St} (R : Rel K W H0 G H s q) : ∀ vs, Rel K W H0 G H (L2.wipe s vs) (wipeS q vs)
  | [] => R
  | v :: vs => (Rel.wipe R vs).setN
def wpW (c : Cn) (g : TG) (vs : List Nat) (d : D) (q : List Sl) (N : List Sl → Prop) : Prop :=
  ∀ G H s v, Ok c.W G H → c.R G H s q → Is c.K G d v → ∀ Q : L2.St → Hp → Prop, (∀ s' q', N q' → L2.wipe s' vs = L2.wipe s vs → c.R G H s' q' → Q s' H) → g v s H Q
def wpWs (c : Cn) (g : TGs) (vs : List Nat) (ds : List D) (q : List Sl) (N : List Sl → Prop) : Prop :=
  ∀ G H s xs, Ok c.W G H → c.R G H s q → IsL c.K G ds xs → ∀ Q : L2.St → Hp → Prop, (∀ s' q', N q' → L2.wipe s' vs = L2.wipe s vs → c.R G H s' q' → Q s' H) → g xs s H Q
theorem set_wipe {s : L2.St} {j : Nat} {x : Option V} : ∀ {vs : List Nat}, j ∈ vs → L2.wipe (s.set j x) vs = L2.wipe s vs
  | v :: vs, h => by
    have c0 : ∀ (ws : List Nat), L2.wipe (s.set j x) ws = (if j ∈ ws then L2.wipe s ws else (L2.wipe s ws).set j x) := by
      intro ws
      induction ws with
      | nil => simp [L2.wipe]
      | cons w ws ih =>
        show (L2.wipe (s.set j x) ws).set w none = _
        rw [ih]
        by_cases e : j = w
        · subst e
          by_cases m : j ∈ ws <;> simp [m, L2.wipe, List.set_set]
        · by_cases m : j ∈ ws
          · simp [m, L2.wipe]
          · have : ¬ (j ∈ w :: ws) := by simp [e, m]
            rw [if_neg m, if_neg this]
            show _ = ((L2.wipe s ws).set w none).set j x
            rw [List.set_comm _ _ e]
    rw [c0, if_pos h]
theorem wipe_wipe {s : L2.St} : ∀ {vs ws : List Nat}, (∀ v ∈ vs, v ∈ ws) → L2.wipe (L2.wipe s vs) ws = L2.wipe s ws
  | [], ws, _ => rfl
  | v :: vs, ws, h => by
    show L2.wipe ((L2.wipe s vs).set v none) ws = _
    rw [set_wipe (h v (by simp)), wipe_wipe fun u hu => h u (by simp [hu])]
theorem ww_name {vs : List Nat} {j : Nat} {d : D} {N : List Sl → Prop} (hj : j ∈ vs) (hl : j < q.length) (h : N (q.set j (.dat d))) : wpW c (gName j) vs d q N := fun G H s v S R hv Q hq =>
  hq _ _ h (set_wipe hj) (R.setD hv hl)
theorem ww_nil {vs : List Nat} {N : List Sl → Prop} (h : N q) : wpWs c gNil vs [] q N := fun G H s xs S R hv Q hq => ⟨hv, hq _ _ h rfl R⟩
theorem ww_cons {vs : List Nat} {gs : TGs} {d : D} {ds : List D} {N : List Sl → Prop} (h : wpW c g vs d q fun q' => wpWs c gs vs ds q' N) : wpWs c (gCons g gs) vs (d :: ds) q N := fun G H s xs S R hv Q hq => by
  obtain ⟨x, r, rfl, h1, h2⟩ := hv
  exact ⟨x, r, rfl, h G H s x S R h1 _ fun s' q' a e R' => a G H s' r S R' h2 Q fun s2 q2 b e2 R2 => hq s2 q2 b (e2.trans e) R2⟩
theorem ww_tup {vs : List Nat} {gs : TGs} {n : Nat} {ds : List D} {N : List Sl → Prop} (hn : ds.length = n) (h : wpWs c gs vs ds q N) : wpW c (gTup c.K n gs) vs (.tup ds) q N := fun G H s v S R hv Q hq => by
  obtain ⟨a, xs, rfl, h1, h2⟩ := hv
  exact ⟨a, xs, rfl, h1.sq S.sub, by rw [IsL.len h2, hn], h G H s xs S R h2 Q hq⟩
/-- a turn's state: the list that is made stands at A -/
def LcAt (c : Cn) (G1 H1 : Hp) (A : Addr) (i : Nat) (I : List D → Prop) (H : Hp) : Prop := ∃ G acc xs, I acc ∧ acc.length ≤ i ∧ Stp c.W G1 H1 G H ∧ H A = some (.lst xs) ∧ G A = none ∧ IsL c.K G acc xs
/-- what a turn asks -/
def lcTurn (c : Cn) (g : TG) (tt : TT) (te : TE) (vs : List Nat) (q : List Sl) (x : D) (acc : List D) (J : List D → Prop) : Prop :=
  wpW c g vs x (wipeS q vs) fun q2 => wpT c tt q2 fun b => (b = true → wpE c te q2 fun y => J (acc ++ [y])) ∧ (b = false → J acc)
theorem lc_turn {tt : TT} {vs : List Nat} {G1 H1 H : Hp} {A : Addr} {i : Nat} {I J : List D → Prop} {s : L2.St} (hA : H1 A = none) (S : c.S G1 H1) (R : c.R G1 H1 s q) (hi : i ≤ 10000) (w : LcAt c G1 H1 A i I H)
    {x : D} {v : V} (iv : Is c.K G1 x v) (h : ∀ acc, I acc → lcTurn c g tt te vs q x acc J) :
    g v (L2.wipe s vs) H fun s2 H2 => L2.wipe s2 vs = L2.wipe s vs ∧ tt s2 H2 fun b H3 => if b = true then te s2 H3 fun y H4 => ∃ acc, H4 A = some (.lst acc) ∧ acc.length < sizeLine ∧ LcAt c G1 H1 A (i + 1) J (upd H4 A (.lst (acc ++ [y]))) else LcAt c G1 H1 A (i + 1) J H3 := by
  obtain ⟨G, acc, xs, ha, hl, T, a1, a2, a3⟩ := w
  have mA : ¬ c.W.M A := S.ok.notM hA
  have hold : ∀ {G' H' : Hp}, Stp c.W G H G' H' → H' A = some (.lst xs) ∧ G' A = none ∧ IsL c.K G' acc xs := fun {G' H'} T' => by
    refine ⟨T'.kp A _ mA a1, ?_, IsL.mono T'.ex _ a3⟩
    cases z : G' A with
    | none => rfl
    | some o =>
      rcases T'.fresh A o z with y | y
      · rw [a2] at y; cases y
      · rw [a1] at y; cases y
  refine h acc ha G H _ v T.ok ((R.step T).wipe vs) (Is.mono T.ex x iv) _ fun s2 q2 h2 e2 R2 => ⟨by rw [e2, wipe_wipe fun _ z => z], ?_⟩
  refine h2 G H s2 (S.trans T) R2 _ fun G3 H3 b h3 T3 => ?_
  obtain ⟨b1, b2, b3⟩ := hold T3
  cases b with
  | false =>
    have z : LcAt c G1 H1 A (i + 1) J H3 := ⟨G3, acc, xs, h3.2 rfl, Nat.le_succ_of_le hl, T.trans T3, b1, b2, b3⟩
    first
      | exact z
      | (rw [if_neg (by decide)]; exact z)
  | true =>
    have z : te s2 H3 fun y H4 => ∃ acc, H4 A = some (.lst acc) ∧ acc.length < sizeLine ∧ LcAt c G1 H1 A (i + 1) J (upd H4 A (.lst (acc ++ [y]))) := by
      refine h3.1 rfl G3 H3 s2 ((S.trans T).trans T3) (R2.step T3) _ fun G4 H4 y d h4 T4 i4 => ?_
      obtain ⟨c1, c2, c3⟩ := hold (T3.trans T4)
      refine ⟨xs, c1, by rw [IsL.len a3]; exact Nat.lt_of_le_of_lt (Nat.le_trans hl hi) (by decide), G4, acc ++ [d], xs ++ [y], h4, by simpa using hl, ((T.trans T3).trans T4).put hA c2 mA, upd_same, c2, IsL.app c3 (IsL.one i4)⟩
    first
      | exact z
      | (rw [if_pos rfl]; exact z)
theorem lc_end {G1 H1 H : Hp} {A : Addr} {i : Nat} {I : List D → Prop} (hA : H1 A = none) (ok : Ok c.W G1 H1) (w : LcAt c G1 H1 A i I H) {Q : VK} (hq : ∀ G' v acc, I acc → Stp c.W G1 H1 G' H → Is c.K G' (.lst acc) v → Q v H) : Q (.ref A) H := by
  obtain ⟨G, acc, xs, ha, hl, T, a1, a2, a3⟩ := w
  exact hq _ _ acc ha (T.keep hA a2 a1 (ok.notM hA)) ⟨A, xs, rfl, upd_same, IsL.mono (Ex.new a2) _ a3⟩
theorem wp_lcL {tt : TT} {vs : List Nat} (h : wpE c ta q fun d => ∃ ds, d = .lst ds ∧ ds.length ≤ 10000 ∧ ∃ I : Nat → List D → Prop, I 0 [] ∧
      (∀ i x acc, ds[i]? = some x → I i acc → lcTurn c g tt te vs q x acc (I (i + 1))) ∧ ∀ acc, I ds.length acc → P (.lst acc)) : wpE c (tLc (iList c.K ta) g tt te vs) q P := fun G H s S R Q hq =>
  h G H s S R _ fun G1 H1 v d h1 T1 i1 => by
    obtain ⟨ds, rfl, hz, I, h0, hs, hd⟩ := h1
    obtain ⟨a, xs, rfl, l1, l2⟩ := i1
    refine ⟨a, rfl, ⟨xs, l1.sq T1.ok.sub⟩, fun A hA => lc_list (xs := xs) (fun i => LcAt c G1 H1 A i (I i)) ?_ (fun i H' _ w => ?_) (fun i x H' e w => ?_) fun H' w => ?_⟩
    · exact ⟨G1, [], [], h0, Nat.le_refl 0, (Stp.refl T1.ok).put hA (none_of_sub T1.ok.sub hA) (T1.ok.notM hA), upd_same, none_of_sub T1.ok.sub hA, rfl⟩
    · obtain ⟨G2, acc, ys, _, _, T2, _⟩ := w
      exact (l1.mono T2.ex).sq T2.ok.sub
    · obtain ⟨d, ed, id⟩ := IsL.back l2 e
      have : i < ds.length := (List.getElem?_eq_some_iff.mp ed).1
      exact lc_turn hA (S.trans T1) (R.step T1) (by omega) w id fun acc ha => hs i d acc ed ha
    · rw [IsL.len l2] at w
      exact lc_end hA T1.ok w fun G' v acc ha T' iv => hq G' H' v _ (hd acc ha) (T1.trans T') iv
theorem wp_lcT {tt : TT} {vs : List Nat} (h : wpE c ta q fun d => ∃ ds, d = .tup ds ∧ ds.length ≤ 10000 ∧ ∃ I : Nat → List D → Prop, I 0 [] ∧
      (∀ i x acc, ds[i]? = some x → I i acc → lcTurn c g tt te vs q x acc (I (i + 1))) ∧ ∀ acc, I ds.length acc → P (.lst acc)) : wpE c (tLc (iTup c.K ta) g tt te vs) q P := fun G H s S R Q hq =>
  h G H s S R _ fun G1 H1 v d h1 T1 i1 => by
    obtain ⟨ds, rfl, hz, I, h0, hs, hd⟩ := h1
    obtain ⟨a, xs, rfl, l1, l2⟩ := i1
    refine ⟨a, rfl, ⟨xs, l1.sq T1.ok.sub⟩, fun A hA => lc_tup (xs := xs) (fun i => LcAt c G1 H1 A i (I i)) ?_ (fun i H' _ w => ?_) (fun i x H' e w => ?_) fun H' w => ?_⟩
    · exact ⟨G1, [], [], h0, Nat.le_refl 0, (Stp.refl T1.ok).put hA (none_of_sub T1.ok.sub hA) (T1.ok.notM hA), upd_same, none_of_sub T1.ok.sub hA, rfl⟩
    · obtain ⟨G2, acc, ys, _, _, T2, _⟩ := w
      exact (l1.mono T2.ex).sq T2.ok.sub
    · obtain ⟨d, ed, id⟩ := IsL.back l2 e
      have : i < ds.length := (List.getElem?_eq_some_iff.mp ed).1
      exact lc_turn hA (S.trans T1) (R.step T1) (by omega) w id fun acc ha => hs i d acc ed ha
    · rw [IsL.len l2] at w
      exact lc_end hA T1.ok w fun G' v acc ha T' iv => hq G' H' v _ (hd acc ha) (T1.trans T') iv
theorem wp_lcR1 {tt : TT} {vs : List Nat} {ta : TA} (h : wpA c ta q fun ds => ∃ n : Int, ds = [.int n] ∧ -10000 ≤ n ∧ n ≤ 10000 ∧ ∃ I : Nat → List D → Prop, I 0 [] ∧
      (∀ (i : Nat) acc, (i : Int) < n → I i acc → lcTurn c g tt te vs q (.int i) acc (I (i + 1))) ∧ ∀ acc, I n.toNat acc → P (.lst acc)) : wpE c (tLc (iRng1 ta) g tt te vs) q P := fun G H s S R Q hq =>
  h G H s S R _ fun G1 H1 vs' ds h1 T1 i1 => by
    obtain ⟨n, rfl, n1, n2, I, h0, hs, hd⟩ := h1
    obtain ⟨v, rfl, iv⟩ := IsL.one_of i1
    cases (show v = V.int n from iv)
    refine ⟨n, rfl, by omega, by omega, fun A hA => lc_range (lo := 0) (n := n.toNat) (fun i => LcAt c G1 H1 A i (I i)) ?_ (fun i H' hi w => ?_) fun H' w => ?_⟩
    · exact ⟨G1, [], [], h0, Nat.le_refl 0, (Stp.refl T1.ok).put hA (none_of_sub T1.ok.sub hA) (T1.ok.notM hA), upd_same, none_of_sub T1.ok.sub hA, rfl⟩
    · have e0 : (0 : Int) + (i : Int) = (i : Int) := Int.zero_add _
      rw [e0]
      exact lc_turn (x := .int i) hA (S.trans T1) (R.step T1) (by omega) w rfl fun acc ha => hs i acc (by omega) ha
    · exact lc_end hA T1.ok w fun G' v acc ha T' iv => hq G' H' v _ (hd acc ha) (T1.trans T') iv
theorem wp_lcR2 {tt : TT} {vs : List Nat} {ta : TA} (h : wpA c ta q fun ds => ∃ lo n : Int, ds = [.int lo, .int n] ∧ -10000 ≤ n ∧ n ≤ 10000 ∧ 0 ≤ lo ∧ lo ≤ 10000 ∧ ∃ I : Nat → List D → Prop, I 0 [] ∧
      (∀ (i : Nat) acc, lo + (i : Int) < n → I i acc → lcTurn c g tt te vs q (.int (lo + i)) acc (I (i + 1))) ∧ ∀ acc, I (n - lo).toNat acc → P (.lst acc)) : wpE c (tLc (iRng2 ta) g tt te vs) q P := fun G H s S R Q hq =>
  h G H s S R _ fun G1 H1 vs' ds h1 T1 i1 => by
    obtain ⟨lo, n, rfl, n1, n2, n3, n4, I, h0, hs, hd⟩ := h1
    obtain ⟨v, w, rfl, iv, iw⟩ := IsL.two_of i1
    cases (show v = V.int lo from iv)
    cases (show w = V.int n from iw)
    refine ⟨lo, n, rfl, ⟨by omega, by omega, by omega, by omega⟩, fun A hA => lc_range (lo := lo) (n := (n - lo).toNat) (fun i => LcAt c G1 H1 A i (I i)) ?_ (fun i H' hi w => ?_) fun H' w => ?_⟩
    · exact ⟨G1, [], [], h0, Nat.le_refl 0, (Stp.refl T1.ok).put hA (none_of_sub T1.ok.sub hA) (T1.ok.notM hA), upd_same, none_of_sub T1.ok.sub hA, rfl⟩
    · exact lc_turn (x := .int (lo + i)) hA (S.trans T1) (R.step T1) (by omega) w rfl fun acc ha => hs i acc (by omega) ha
    · exact lc_end hA T1.ok w fun G' v acc ha T' iv => hq G' H' v _ (hd acc ha) (T1.trans T') iv
theorem wt_yes {B : Bool → Prop} (h : B true) : wpT c tYes q B := fun G H s S R Q hq => hq G H true h (Stp.refl S.ok)
end
end Ez

set_option Elab.async false
set_option linter.all false
set_option maxRecDepth 100000
namespace Ez
open L2 PySem PyProof.Rows PySem.Spec
theorem fun_okN {CX : CXT} {P : Program} {w : World} {K : PySem.W.Frag} {mg : Str → Option Value} {base : Heap} {x qual : Str} {st : Stmt} {f : Addr} {fd : FuncData} {N ps : List Str} {k : Nat} {sp : Sp} (F : Fun K x qual st f fd) (S : FnScope N ps (defScope st)) (len : ∀ vs H Q E, sp vs H Q E → vs.length = ps.length)
    (go : ∀ (cdv : Value) (A : Around) (outer : List Env) (s : Shared) (H : Hp) (vs : List V) (Q : VK) (E : XK), Room k (A.deeper (envOfC qual (defScope st) s.heap.objs.size f cdv)) → sp vs H Q E →
      ∃ t, PSs (cxOf CX P w K mg base N qual (defScope st) f cdv A outer s H E) (defBody st) t ∧ t { nx := fun _ H' => Q .non H', rt := Q } (start N vs) H) : FnOk P w K mg base CX (k + 1) f fd ps sp := by
  obtain ⟨_, _, _, _, _, _, cdv, _, _, rfl, look, code⟩ := F.ex
  exact fn_of look code S len fun A outer s H vs Q E room z => go cdv A outer s H vs Q E room z

/-! ### promises upon data -/
/-- what a def wants of the world and its arguments, what it gives, what it lets out: class, names of fields, fields -/
structure Pm where
  pre : Wd → List D → Prop
  post : List D → D → Prop
  exn : List D → Addr → List Str → List D → Prop := fun _ _ _ _ => False
def spD (K : KT) (p : Pm) : Sp := fun vs H Q E => ∃ W G ds, Ok W G H ∧ IsL K G ds vs ∧ p.pre W ds ∧
  (∀ G' H' v d, p.post ds d → Stp W G H G' H' → Is K G' d v → Q v H') ∧
  (∀ G' H' C dx ns es xs, p.exn ds C ns es → Stp W G H G' H' → G' dx = some (.xd (ns.zip xs)) → ns.length = es.length → IsL K G' es xs → E (.ref C) (some dx) H')
/-- what is let out is taken -/
def XA (c : Cn) (E : XK) (Z : Addr → List Str → List D → Prop) : Prop :=
  ∀ G' H' C dx ns es xs, Z C ns es → c.S G' H' → G' dx = some (.xd (ns.zip xs)) → ns.length = es.length → IsL c.K G' es xs → E (.ref C) (some dx) H'
def WA (c : Cn) (Wx : WX) (Z : List Sl → Addr → List Str → List D → Prop) : Prop :=
  ∀ q' G' H' s' C dx ns es xs, Z q' C ns es → c.S G' H' → c.R G' H' s' q' → G' dx = some (.xd (ns.zip xs)) → ns.length = es.length → IsL c.K G' es xs → Wx (.ref C) (some dx) s' H'
section
variable {c : Cn} {q : List Sl} {P : D → Prop} {ta tb te : TE} {t u : TT} {F : Fn} {ts tu tw : TS} {g : TG}
/-- a call of a def that lets nothing out -/
theorem wp_call {p : Pm} {dvs : List V} {dd : List D} {E : XK} {ta : TA} (hd : ∀ G, IsL c.K G dd dvs) (h : wpA c ta q fun ds => p.pre c.W (ds ++ dd) ∧ (∀ d, p.post (ds ++ dd) d → P d) ∧ ∀ C ns es, ¬ p.exn (ds ++ dd) C ns es) :
    wpE c (tCall (spD c.K p) dvs E ta) q P := fun G H s S R Q hq =>
  h G H s S R _ fun G1 H1 vs ds h1 T1 i1 =>
    ⟨c.W, G1, ds ++ dd, T1.ok, IsL.app i1 (hd G1), h1.1, fun G2 H2 v d a T2 i2 => hq G2 H2 v d (h1.2.1 d a) (T1.trans T2) i2, fun G2 H2 C dx ns es xs a => (h1.2.2 C ns es a).elim⟩
/-- .. that may let something out of the caller, too -/
theorem wp_callX {p : Pm} {dvs : List V} {dd : List D} {E : XK} {Z : Addr → List Str → List D → Prop} {ta : TA} (hE : XA c E Z) (hd : ∀ G, IsL c.K G dd dvs)
    (h : wpA c ta q fun ds => p.pre c.W (ds ++ dd) ∧ (∀ d, p.post (ds ++ dd) d → P d) ∧ ∀ C ns es, p.exn (ds ++ dd) C ns es → Z C ns es) :
    wpE c (tCall (spD c.K p) dvs E ta) q P := fun G H s S R Q hq =>
  h G H s S R _ fun G1 H1 vs ds h1 T1 i1 =>
    ⟨c.W, G1, ds ++ dd, T1.ok, IsL.app i1 (hd G1), h1.1, fun G2 H2 v d a T2 i2 => hq G2 H2 v d (h1.2.1 d a) (T1.trans T2) i2,
      fun G2 H2 C dx ns es xs a T2 e1 e2 e3 => hE G2 H2 C dx ns es xs (h1.2.2 C ns es a) ((S.trans T1).trans T2) e1 e2 e3⟩
/-- .. within a try -/
theorem wp_callS {p : Pm} {dvs : List V} {dd : List D} {Wx : WX} {Z : List Sl → Addr → List Str → List D → Prop} {ta : TA} (hW : WA c Wx Z) (hd : ∀ G, IsL c.K G dd dvs)
    (h : wpA c ta q fun ds => p.pre c.W (ds ++ dd) ∧ (∀ d, p.post (ds ++ dd) d → P d) ∧ ∀ C ns es, p.exn (ds ++ dd) C ns es → Z q C ns es) :
    wpE c (tCallSD (spD c.K p) dvs (WE Wx) ta) q P := fun G H s S R Q hq =>
  h G H s S R _ fun G1 H1 vs ds h1 T1 i1 =>
    ⟨c.W, G1, ds ++ dd, T1.ok, IsL.app i1 (hd G1), h1.1, fun G2 H2 v d a T2 i2 => hq G2 H2 v d (h1.2.1 d a) (T1.trans T2) i2,
      fun G2 H2 C dx ns es xs a T2 e1 e2 e3 => hW q G2 H2 s C dx ns es xs (h1.2.2 C ns es a) ((S.trans T1).trans T2) ((R.step T1).step T2) e1 e2 e3⟩
/-- with keywords: n positional, m by keyword, gD puts them in order -/
theorem wp_callN {p : Pm} {n m : Nat} {gV : List V → List V → List V} {gD : List D → List D → List D} {E : XK} {Z : Addr → List Str → List D → Prop} {ta tk : TA} (hE : XA c E Z)
    (hg : ∀ G ds es xs ys, ds.length = n → es.length = m → IsL c.K G ds xs → IsL c.K G es ys → IsL c.K G (gD ds es) (gV xs ys))
    (h : wpA c ta q fun ds => wpA c tk q fun es => ds.length = n ∧ es.length = m ∧ p.pre c.W (gD ds es) ∧ (∀ d, p.post (gD ds es) d → P d) ∧ ∀ C ns zs, p.exn (gD ds es) C ns zs → Z C ns zs) :
    wpE c (tCallN n m (spD c.K p) gV E ta tk) q P := fun G H s S R Q hq =>
  h G H s S R _ fun G1 H1 vs ds h1 T1 i1 => h1 G1 H1 s (S.trans T1) (R.step T1) _ fun G2 H2 ws es h2 T2 i2 =>
    ⟨by rw [IsL.len i1]; exact h2.1, by rw [IsL.len i2]; exact h2.2.1, c.W, G2, gD ds es, T2.ok, hg G2 ds es vs ws h2.1 h2.2.1 (IsL.mono T2.ex _ i1) i2, h2.2.2.1,
      fun G3 H3 v d a T3 i3 => hq G3 H3 v d (h2.2.2.2.1 d a) ((T1.trans T2).trans T3) i3,
      fun G3 H3 C dx ns zs xs a T3 e1 e2 e3 => hE G3 H3 C dx ns zs xs (h2.2.2.2.2 C ns zs a) (((S.trans T1).trans T2).trans T3) e1 e2 e3⟩
/-! ### a def's start -/
theorem rel_start {K : KT} {W : Wd} {H0 G H : Hp} {ds : List D} {vs : List V} (N : List Str) (h : IsL K G ds vs) : Rel K W H0 G H (L2.start N vs) (ds.map Sl.dat ++ List.replicate (N.length - ds.length) Sl.unk) where
  len := by simp [L2.start, IsL.len h]
  dat := fun i d e => by
    by_cases hi : i < ds.length
    · rw [List.getElem?_append_left (by simpa using hi), List.getElem?_map] at e
      cases z : ds[i]? with
      | none => rw [z] at e; cases e
      | some d' =>
        rw [z] at e; cases e
        obtain ⟨x, a, b⟩ := IsL.get h z
        refine ⟨x, ?_, b⟩
        unfold L2.start
        rw [List.getElem?_append_left (by simpa [IsL.len h] using hi), List.getElem?_map, a]; rfl
    · rw [List.getElem?_append_right (by simpa using Nat.le_of_not_lt hi)] at e
      have := List.mem_of_getElem? e
      rw [List.mem_replicate] at this
      cases this.2
  own := fun i p d e => by
    have := List.mem_of_getElem? e
    simp at this
  sep := fun i j a b p _ e => by
    have := List.mem_of_getElem? e
    simp at this
/-- what a def's body is to do -/
abbrev Pm.fn (p : Pm) (ds : List D) : Fn := ⟨fun _ => p.post ds .non, fun _ => p.post ds, fun _ => False, fun _ => False⟩
abbrev slots (ds : List D) (N : List Str) : List Sl := ds.map Sl.dat ++ List.replicate (N.length - ds.length) Sl.unk
theorem run_D {K : KT} {p : Pm} {N : List Str} {vs : List V} {H : Hp} {Q : VK} {W : Wd} {G : Hp} {ds : List D} {ts : TS} (o : Ok W G H) (i : IsL K G ds vs)
    (hq : ∀ G' H' v d, p.post ds d → Stp W G H G' H' → Is K G' d v → Q v H') (h : wpS ⟨K, W, G, H⟩ ts (slots ds N) (p.fn ds)) :
    ts { nx := fun _ H' => Q .non H', rt := Q } (L2.start N vs) H :=
  h _ _ G H (Stp.refl o) (rel_start N i) ⟨fun s' H' G' q' a _ S' _ => hq G' H' .non .non a S' rfl, fun v H' G' d _ _ a _ S' i' _ => hq G' H' v d a S' i', fun _ _ _ _ a => a.elim, fun _ _ _ _ a => a.elim⟩
section
variable {Pg : Program} {w : World} {K : KT} {mg : Str → Option Value} {base : Heap}
theorem spD_len {p : Pm} {ps : List Str} (hl : ∀ W ds, p.pre W ds → ds.length = ps.length) : ∀ vs H Q E, spD K p vs H Q E → vs.length = ps.length := fun vs H Q E ⟨W, G, ds, _, i, h, _⟩ => by rw [IsL.len i]; exact hl W ds h
/-- THE RULE: a def keeps its promise if its body does what it is to do upon the slots -/
theorem fn_D {x qual : Str} {st : Stmt} {f : Addr} {fd : FuncData} {N ps : List Str} {k : Nat} {p : Pm} (F : Fun K x qual st f fd) (S : FnScope N ps (defScope st)) (hl : ∀ W ds, p.pre W ds → ds.length = ps.length)
    (h : ∀ (cdv : Value) (A : Around) (outer : List Env) (s : Shared) (E : XK) (W : Wd) (G H : Hp) (ds : List D), Room k (A.deeper (envOfC qual (defScope st) s.heap.objs.size f cdv)) → Ok W G H → p.pre W ds → XA ⟨K, W, G, H⟩ E (p.exn ds) →
      ∃ t, PSs (cxOf (L2N.CX Pg w) Pg w K mg base N qual (defScope st) f cdv A outer s H E) (defBody st) t ∧ wpS ⟨K, W, G, H⟩ t (slots ds N) (p.fn ds)) : FnOk Pg w K mg base (L2N.CX Pg w) (k + 1) f fd ps (spD K p) := by
  refine fun_okN F S (spD_len hl) fun cdv A outer s H vs Q E hr h1 => ?_
  obtain ⟨W, G, ds, o, i, hp, hq, hx⟩ := h1
  obtain ⟨t, a, b⟩ := h cdv A outer s E W G H ds hr o hp fun G' H' C dx ns es xs z S' e1 e2 e3 => hx G' H' C dx ns es xs z S' e1 e2 e3
  exact ⟨t, a, run_D o i hq b⟩
theorem fn_DD {x qual : Str} {params : Arguments} {body : List Stmt} {scope : Scope} {dvs : List V} {kws : List (Str × V)} {f : Addr} {fd : FuncData} {N ps : List Str} {k : Nat} {p : Pm} (F : FunD K x qual params body scope dvs kws f fd) (S : FnScope N ps scope)
    (hl : ∀ W ds, p.pre W ds → ds.length = ps.length)
    (h : ∀ (cdv : Value) (A : Around) (outer : List Env) (s : Shared) (E : XK) (W : Wd) (G H : Hp) (ds : List D), Room k (A.deeper (envOfC qual scope s.heap.objs.size f cdv)) → Ok W G H → p.pre W ds → XA ⟨K, W, G, H⟩ E (p.exn ds) →
      ∃ t, PSs (cxOf (L2N.CX Pg w) Pg w K mg base N qual scope f cdv A outer s H E) body t ∧ wpS ⟨K, W, G, H⟩ t (slots ds N) (p.fn ds)) : FnOk Pg w K mg base (L2N.CX Pg w) (k + 1) f fd ps (spD K p) := by
  refine F.ok S (spD_len hl) fun cdv A outer s H vs Q E hr h1 => ?_
  obtain ⟨W, G, ds, o, i, hp, hq, hx⟩ := h1
  obtain ⟨t, a, b⟩ := h cdv A outer s E W G H ds hr o hp fun G' H' C dx ns es xs z S' e1 e2 e3 => hx G' H' C dx ns es xs z S' e1 e2 e3
  exact ⟨t, a, run_D o i hq b⟩
end
/-! ### own exceptions with one field, with two -/
/-- __init__ of an exception class at C: its fields, the last one first -/
def spEx (C : Addr) (mk : List V → List (Str × V)) (n : Nat) : Sp := fun vs H Q _ => ∃ (a : Addr) (ws : List V), vs = .ref a :: ws ∧ ws.length = n ∧ H a = some (exo a C none) ∧
  ∀ (d : Addr) (H' : Hp), H d = none → d ≠ a → H' a = some (exo a C (some d)) → H' d = some (exd d (mk ws)) → (∀ b, b ≠ a → b ≠ d → H' b = H b) → Q .non H'
theorem ws_raise {C : Addr} {ns : List Str} {n : Nat} {mk : List V → List (Str × V)} {ev : List V → List V} {ed : List D → List D} {E : XK} {Z : Addr → List Str → List D → Prop} {ta : TA} (hE : XA c E Z) (hn : n ≤ 100)
    (hmk : ∀ ws, mk ws = ns.zip (ev ws)) (hev : ∀ G ds ws, IsL c.K G ds ws → IsL c.K G (ed ds) (ev ws)) (h : wpA c ta q fun ds => ds.length = n ∧ ns.length = (ed ds).length ∧ Z C ns (ed ds)) :
    wpS c (fun _ σ H => tMkO C (spEx C mk n) [] ta σ H fun cls d H' => E cls d H') q F := fun D' s G H S R p =>
  h G H s S R _ fun G1 H1 vs ds h1 T1 i1 => by
    have lv := IsL.len i1
    refine ⟨by rw [lv, h1.1]; omega, fun a ha => ⟨a, vs ++ [], rfl, by rw [List.append_nil, lv, h1.1], upd_same, fun d H' nd da e1 e2 e3 => ⟨rfl, d, mk (vs ++ []), e1, e2, ?_, ?_⟩⟩⟩
    · rw [upd_ne da] at nd; exact nd
    · have nd' : H1 d = none := by rw [upd_ne da] at nd; exact nd
      have eH : upd (del H' a) d (.xd (mk (vs ++ []))) = upd H1 d (.xd (ns.zip (ev vs))) := by
        rw [List.append_nil, hmk]
        funext b
        by_cases h1 : b = d
        · rw [h1, upd_same, upd_same]
        · rw [upd_ne h1, upd_ne h1]
          by_cases h2 : b = a
          · rw [h2, del_same, ha]
          · rw [del_ne h2, e3 b h2 h1, upd_ne h2]
      rw [eH]
      have e4 : Ex G1 (upd G1 d (.xd (ns.zip (ev vs)))) := Ex.new (none_of_sub T1.ok.sub nd')
      exact hE _ _ C d ns (ed ds) (ev vs) h1.2.2 ((S.trans T1).lay nd') upd_same h1.2.1 (hev _ ds vs (IsL.mono e4 ds i1))
end
end Ez

set_option Elab.async false
set_option linter.all false
set_option maxRecDepth 100000
namespace Ez
open L2 PySem PyProof.Rows PySem.Spec

abbrev Clause := Value × Option Nat × (Addr → Value → Option Addr → TS)
def offI (D' : Ends) (i : Nat) : Ends := ⟨fun s h => D'.nx (s.set i none) h, D'.rt, fun s h => D'.bk (s.set i none) h, fun s h => D'.ct (s.set i none) h⟩
/-- what clauses, some with a name, wish of what the body lets out -/
def wTry (K : PySem.W.Frag) (Wout : WX) (D' : Ends) : List Clause → WX
  | [] => Wout
  | (cl, none, ts) :: r => fun cls d s H => ∃ b, PySem.W.exmOne K cls cl = some b ∧ (b = true → ∀ a, H a = none → ts a cls d D' s H) ∧ (b = false → wTry K Wout D' r cls d s H)
  | (cl, some i, ts) :: r => fun cls d s H => ∃ b, PySem.W.exmOne K cls cl = some b ∧ (b = true → ∀ a, H a = none → ts a cls d (offI D' i) (s.set i (some (.ref a))) H) ∧ (b = false → wTry K Wout D' r cls d s H)
abbrev SuiteOk (X : Cx) (body : List Stmt) (ts : Addr → Value → Option Addr → TS) : Prop :=
  ∀ (a : Addr) (oe : Obj) (cls : Value) (d : Option Addr) (pn : List (Addr × Obj)), L2N.Zn cls d oe → (∃ vs, oe.data = .fields vs) → PSs (X.suite a ((a, oe) :: pn)) body (ts a cls d)
inductive HdsN (X : Cx) : List ExceptHandler → List Clause → Prop
  | nil : HdsN X [] []
  | plain {x : Str} {cl : Value} {ts : Addr → Value → Option Addr → TS} {b0 : Stmt} {suite : List Stmt} {np p' : Pos} {hds : List ExceptHandler} {l : List Clause} (hc : Names X x cl) (hsu : SuiteOk X (b0 :: suite) ts) (r : HdsN X hds l) :
      HdsN X (.ExceptHandler (some (.Name x np)) none (b0 :: suite) p' :: hds) ((cl, none, ts) :: l)
  | named {x n : Str} {i : Nat} {cl : Value} {ts : Addr → Value → Option Addr → TS} {b0 : Stmt} {suite : List Stmt} {np p' : Pos} {hds : List ExceptHandler} {l : List Clause} (hc : Names X x cl) (hi : X.N[i]? = some n) (hln : X.env.kindOf n = some .local)
      (hsu : SuiteOk X (b0 :: suite) ts) (r : HdsN X hds l) : HdsN X (.ExceptHandler (some (.Name x np)) (some n) (b0 :: suite) p' :: hds) ((cl, some i, ts) :: l)
section
variable {X : Cx} {body : List Stmt} {h0 : ExceptHandler} {hds : List ExceptHandler} {l : List Clause} {pos : Pos} {tb : WX → TS} {Wout : WX}
theorem ps_tryN (hs : X.stack = X.env :: X.outer) (hf : X.env.frame = some X.env.locals) (hN : X.N.Nodup) (tk : L2N.Takes X Wout)
    (hb : ∀ (Wx : WX) (pn : List (Addr × Obj)) (xe : Value → Shared → Prop), L2N.Takes (X.tr pn xe) Wx → PassesOwn (model X.prog X.w) X.A X.env xe → PSs (X.tr pn xe) body (tb Wx))
    (hh : HdsN X (h0 :: hds) l) : PS X (.Try body (h0 :: hds) [] [] pos) (fun D' s H => tb (wTry X.K Wout D' l) D' s H) := by
  constructor
  intro pins s σ H D' I hw
  have ok := I.ok
  have frE : X.A.frames = some (X.env :: X.outer) := by rw [ok.frames, hs]
  refine wpAny_Try_except (wpAny_mono ((hb (wTry X.K Wout D' l) (X.pn ++ pins)
    (fun e s1 => wpAny (model X.prog X.w) X.A (noteFrame e X.env) (fun _ s2 => wpAny (model X.prog X.w) X.A (setFlight e none) (fun _ s3 => wpAny (model X.prog X.w) X.A (handleBy e X.env (h0 :: hds)) (SP X pins D') X.xe s3) X.xe s2) X.xe s1)
    (fun u s' xx => ?caught) PassesOwn.looking).run [] s σ H D' (I.toTry _) hw) (fun f s1 hsp => ?through) fun e s1 he => he)
  case through =>
    cases f with
    | next => obtain ⟨a, b, J, z⟩ := hsp; exact wpAny_execs_nil ⟨a, b, J.ofTry ok, z⟩
    | brk => obtain ⟨a, b, J, z⟩ := hsp; exact ⟨a, b, J.ofTry ok, z⟩
    | cont => obtain ⟨a, b, J, z⟩ := hsp; exact ⟨a, b, J.ofTry ok, z⟩
    | ret u => obtain ⟨v, a, b, J, r, z⟩ := hsp; exact ⟨v, a, b, J.ofTry ok, r, z⟩
  case caught =>
    obtain ⟨a, B, sI, pins', s2, H2, cls, d, rfl, J', nb, up, sky, na, os, ag, w⟩ := xx
    have J := J'.ofTry ok
    rw [hs] at sky
    show wpAny (model X.prog X.w) X.A (noteFrame (Value.ref a) X.env) _ _ _
    refine L2N.Sky.land L2N.Zn.steady frE hf sky fun g3 fl3 up3 => ?_
    have J3 : Inv X pins s2 H2 { s' with heap := g3 } := J.landed nb fl3.1 (up.trans up3) os ag
    obtain ⟨o3, v3, at3, z3, d3⟩ := fl3.there
    have nfr : a ∉ frs (X.env :: X.outer) := fun hm => by
      obtain ⟨_, o', e', hnf⟩ := fl3.2.2.1.mem hm
      rw [at3] at e'; cases e'; exact hnf _ d3
    have nL : a ≠ X.env.locals := fun z => nfr (List.mem_filterMap.mpr ⟨X.env, List.mem_cons_self, hf.trans (congrArg some z.symm)⟩)
    have nF : a ∉ X.fs := by
      intro hm
      obtain ⟨e, he, z⟩ := List.mem_filterMap.mp hm
      exact nfr (List.mem_filterMap.mpr ⟨e, .tail _ he, z⟩)
    have S3 := J3.suite at3 d3 na nL nF
    have test : ∀ {x : Str} {cl : Value} {np : Pos} {Q E : Value → Shared → Prop}, Names X x cl → Q cl { s' with heap := g3 } → wpAny (model X.prog X.w) (X.A.mark (some (.ref a))) (eval (.Name x np) X.env) Q E { s' with heap := g3 } := by
      intro x cl np Q E hc z
      obtain ⟨hg, hdb, hm | ⟨hm, hv, hnn⟩⟩ := hc
      · exact ld_glob (X := X.suite a ((a, o3) :: (X.pn ++ pins))) S3 hg hm z hdb
      · exact ld_blt (X := X.suite a ((a, o3) :: (X.pn ++ pins))) S3 hg hm hv z hnn hdb
    have kind : PySem.W.Looks (model X.prog X.w) g3 (typeOf (.ref a)) cls := fun A Q E s k z => wpAny_typeOf_ref (k _ _ at3) (by rw [z3.1]; exact z)
    have go : ∀ {hd2 : List ExceptHandler} {l2 : List Clause}, HdsN X hd2 l2 → wTry X.K Wout D' l2 cls d s2 H2 → wpAny (model X.prog X.w) X.A (handleBy (.ref a) X.env hd2) (SP X pins D') X.xe { s' with heap := g3 } := by
      intro hd2 l2 hk
      induction hk with
      | nil =>
        intro w
        refine wpAny_handleBy_nil ?_
        obtain ⟨_, _, _, oe, vs, T, oT, _, he, _, hd, h1, _⟩ := id fl3
        unfold PySem.passOn
        apply wpAny_bind (wpAny_field he hd h1 ?_)
        rw [if_neg (show ¬ ((Value.ref T == Value.none) = true) by simp)]
        have fin : wpAny (model X.prog X.w) X.A (setFlight (.ref a) X.env.frame) (fun _ s4 => wpAny (model X.prog X.w) X.A (throw (.ref a) : Sem Flow) (SP X pins D') X.xe s4) X.xe { s' with heap := g3 } := by
          rw [hf]
          exact HandSPX.setFlight_upZ fl3 fun g4 hh4 up4 => wpAny_throw (tk _ _ ⟨a, B, sI, pins, s2, H2, cls, d, rfl, J, nb, (up.trans up3).trans up4, .inr (.inr (by rw [hs]; exact hh4)), na, os, ag, w⟩)
        first
          | exact (wpAny_bind (wpAny_pure (wpAny_bind fin)))
          | exact wpAny_bind fin
      | @plain x cl ts b0 suite np p' hds2 l2 hc hsu r ih =>
        intro w
        obtain ⟨b, hb1, yes, no⟩ := w
        refine wpAny_handleBy_cons (codeAny_handlers_test (test hc ((PySem.W.exm_one (M := model X.prog X.w) J3.kIn kind hb1).here ?_))) (by intro z; cases z)
        cases b with
        | false => exact ih (no rfl)
        | true =>
          refine codeAny_handlers_suite (HandSPX.lands_againZ fl3 fun g4 fl4 up4 => ?_)
          have J4 : Inv X pins s2 H2 { s' with heap := g4 } := J.landed nb fl4.1 ((up.trans up3).trans up4) os ag
          obtain ⟨o4, v4, at4, z4, d4⟩ := fl4.there
          refine wpAny_mono ((hsu a o4 cls d (X.pn ++ pins) z4 ⟨_, d4⟩).run [] _ _ H2 _ (J4.suite at4 d4 na nL nF) (yes rfl a na)) (fun f s6 hsp => ?_) fun _ _ z => z.elim
          cases f with
          | next => obtain ⟨m, n, S6, z⟩ := hsp; exact ⟨_, _, S6.unsuite ok, z⟩
          | brk => obtain ⟨m, n, S6, z⟩ := hsp; exact ⟨_, _, S6.unsuite ok, z⟩
          | cont => obtain ⟨m, n, S6, z⟩ := hsp; exact ⟨_, _, S6.unsuite ok, z⟩
          | ret u => obtain ⟨v, m, n, S6, r6, z⟩ := hsp; exact ⟨_, _, _, S6.unsuite ok, r6, z⟩
      | @named x n i cl ts b0 suite np p' hds2 l2 hc hi hln hsu r ih =>
        intro w
        obtain ⟨b, hb1, yes, no⟩ := w
        refine wpAny_handleBy_cons (codeAny_handlers_test (test hc ((PySem.W.exm_one (M := model X.prog X.w) J3.kIn kind hb1).here ?_))) (by intro z; cases z)
        cases b with
        | false => exact ih (no rfl)
        | true =>
          refine codeAny_handlers_suite_as (HandSPX.lands_againZ fl3 fun g4 fl4 up4 => ?_)
          have J4 : Inv X pins s2 H2 { s' with heap := g4 } := J.landed nb fl4.1 ((up.trans up3).trans up4) os ag
          obtain ⟨o4, v4, at4, z4, d4⟩ := fl4.there
          refine store_ok (X := X.suite a ((a, o4) :: (X.pn ++ pins))) (v := .ref a) (J4.suite at4 d4 na nL nF) hN hi (Or.inl hln) rfl (fun s5 S5 => ?_) (.inr hln)
          refine wpAny_mono ((hsu a o4 cls d (X.pn ++ pins) z4 ⟨_, d4⟩).run [] s5 _ H2 _ S5 (yes rfl a na)) (fun f s6 hsp => ?_) fun _ _ z => z.elim
          have off : ∀ {t6 : L2.St} {H6 : Hp} {Q : Shared → Prop}, Inv (X.suite a ((a, o4) :: (X.pn ++ pins))) [] t6 H6 s6 → (∀ s7, Inv X pins (t6.set i none) H6 s7 → Q s7) →
              wpAny (model X.prog X.w) X.A (do bindName X.env n .none; unbindBehindTheSuite X.env n p') (fun _ s7 => Q s7) X.xe s6 := fun S6 k => gone_ok (S6.unsuite ok) hN hi hln k
          cases f with
          | next => obtain ⟨m, k, S6, z⟩ := hsp; exact off S6 fun s7 J7 => ⟨_, _, J7, z⟩
          | brk => obtain ⟨m, k, S6, z⟩ := hsp; exact off S6 fun s7 J7 => ⟨_, _, J7, z⟩
          | cont => obtain ⟨m, k, S6, z⟩ := hsp; exact off S6 fun s7 J7 => ⟨_, _, J7, z⟩
          | ret u => obtain ⟨v, m, k, S6, r6, z⟩ := hsp; exact off S6 fun s7 J7 => ⟨_, _, _, J7, r6, z⟩
    exact go hh w
end

/-! ### the same upon data -/
section
variable {c : Cn} {q : List Sl} {P : D → Prop} {ta tb te : TE} {t u : TT} {F : Fn} {ts tu tw : TS} {g : TG}
def offF (F : Fn) (i : Nat) : Fn := ⟨fun q => F.nx (q.set i .unk), F.rt, fun q => F.bk (q.set i .unk), fun q => F.ct (q.set i .unk)⟩
def hdD (c : Cn) (F : Fn) : List Clause → List Sl → Addr → List Str → List D → Prop
  | [], _, _, _, _ => False
  | (cl, none, ts) :: r, q, C, ns, es => ∃ b, PySem.W.exmOne c.K (.ref C) cl = some b ∧ (b = true → ∀ a dx, wpS c (ts a (.ref C) (some dx)) q F) ∧ (b = false → hdD c F r q C ns es)
  | (cl, some i, ts) :: r, q, C, ns, es => ∃ b, PySem.W.exmOne c.K (.ref C) cl = some b ∧
      (b = true → i < q.length ∧ ∀ a dx, wpS c (ts a (.ref C) (some dx)) (q.set i (.dat (.exc a dx C ns es))) (offF F i)) ∧ (b = false → hdD c F r q C ns es)
theorem Stp.base {W : Wd} {G0 H0 G H G' H' : Hp} (s : Stp W G0 H0 G H) (t : Stp W G0 H0 G' H') (e : Ex G G') : Stp W G H0 G' H' :=
  ⟨t.ok, e, fun a o z => (t.fresh a o z).imp (fun y => s.ex a o y) id, t.kp, t.th⟩
theorem Stp.unbase {W : Wd} {G0 H0 G H G' H' : Hp} (s : Stp W G0 H0 G H) (t : Stp W G H0 G' H') : Stp W G0 H0 G' H' :=
  ⟨t.ok, s.ex.trans t.ex, fun a o z => (t.fresh a o z).elim (fun y => s.fresh a o y) .inr, t.kp, t.th⟩
theorem ws_try {l : List Clause} {tb : WX → TS} {Wout : WX} (h : ∀ (G1 : Hp) (Wx : WX), WA { c with G0 := G1 } Wx (hdD { c with G0 := G1 } F l) → (∀ E Z, XA c E Z → XA { c with G0 := G1 } E Z) → wpS { c with G0 := G1 } (tb Wx) q F) :
    wpS c (fun D' s H => tb (wTry c.K Wout D' l) D' s H) q F := fun D' s G H S R p => by
  have base : Stp c.W G c.H0 G H := S.base S (Ex.refl G)
  have post : ∀ {G1 : Hp}, Ex G G1 → Post { c with G0 := G } D' F G1 := fun {G1} e =>
    ⟨fun s' H' G' q' a b S' R' => p.nx s' H' G' q' a (e.trans b) (S.unbase S') R', fun v H' G' d m n a b S' => p.rt v H' G' d m n a (e.trans b) (S.unbase S'),
      fun s' H' G' q' a b S' R' => p.bk s' H' G' q' a (e.trans b) (S.unbase S') R', fun s' H' G' q' a b S' R' => p.ct s' H' G' q' a (e.trans b) (S.unbase S') R'⟩
  refine h G (wTry c.K Wout D' l) (fun q' G' H' s' C dx ns es xs z S' R' e1 e2 e3 => ?_) (fun E Z x G' H' C dx ns es xs z S' => x G' H' C dx ns es xs z (S.unbase S')) D' s G H base R (post (Ex.refl G))
  clear h
  induction l with
  | nil => exact z.elim
  | cons k l ih =>
    obtain ⟨cl, oi, ts⟩ := k
    cases oi with
    | none =>
      obtain ⟨b, hb, yes, no⟩ := z
      exact ⟨b, hb, fun y a _ => yes y a dx D' s' G' H' S' R' (post S'.ex), fun n => ih (no n)⟩
    | some i =>
      obtain ⟨b, hb, yes, no⟩ := z
      refine ⟨b, hb, fun y a _ => ?_, fun n => ih (no n)⟩
      obtain ⟨hi, yes⟩ := yes y
      have pp := post S'.ex
      refine yes a dx (offI D' i) _ G' H' S' (R'.setD (d := .exc a dx C ns es) ⟨xs, rfl, e1, e2, e3⟩ hi) ?_
      exact ⟨fun s2 H2 G2 q2 a b S2 R2 => pp.nx _ H2 G2 _ a b S2 R2.setN, pp.rt, fun s2 H2 G2 q2 a b S2 R2 => pp.bk _ H2 G2 _ a b S2 R2.setN, fun s2 H2 G2 q2 a b S2 R2 => pp.ct _ H2 G2 _ a b S2 R2.setN⟩
theorem zip_at {K : KT} {G : Hp} {f : Str} {e : D} : ∀ {ns : List Str} {es : List D} {xs : List V}, IsL K G es xs → (ns.zip es).lookup f = some e → ∃ v, (ns.zip xs).lookup f = some v ∧ Is K G e v
  | [], _, _, _, hh => by cases hh
  | n :: ns, [], _, _, h => by simp at h
  | n :: ns, e0 :: es, _, ⟨x, r, rfl, i1, i2⟩, h => by
    rw [List.zip_cons_cons, List.lookup_cons] at h ⊢
    cases z : f == n with
    | true =>
      rw [z] at h
      have : e0 = e := by simpa using h
      subst this
      exact ⟨x, rfl, i1⟩
    | false =>
      rw [z] at h
      exact zip_at i2 (by simpa using h)
/-- a field of the exception that the suite holds -/
theorem wp_xf {a dx C : Addr} {f : Str} (h : wpE c te q fun x => ∃ ns es e, x = .exc a dx C ns es ∧ (ns.zip es).lookup f = some e ∧ P e) : wpE c (tXf a (.ref C) (some dx) C f te) q P := fun G H s S R Q hq =>
  h G H s S R _ fun G1 H1 v d h1 T1 i1 => by
    obtain ⟨ns, es, e, rfl, hl, hp⟩ := h1
    obtain ⟨xs, rfl, e1, e2, e3⟩ := i1
    obtain ⟨v, l2, i2⟩ := zip_at e3 hl
    exact ⟨rfl, rfl, dx, _, v, rfl, T1.ok.sub _ _ e1, l2, hq G1 H1 v e hp T1 i2⟩
end
end Ez

set_option Elab.async false
set_option linter.all false
set_option maxRecDepth 100000
namespace Ez
open L2 PySem PyProof.Rows PySem.Spec
theorem hu64 {A : Around} {k : Nat} (h : Room k A) : A.units + 64 < cLine := by
  have := h.un
  omega
section
variable {X : Cx} {a : Expr} {ta : TE} {pos : Pos}
/-- the last part of a chain of and, of or, as a value -/
theorem pe_and1 (h : PE X a ta) : PE X (.BoolOp .And [a] pos) ta := ⟨fun pins s σ H Q I w => by
  have := h.run pins s σ H Q I w
  first
    | exact this
    | (unfold eval; exact this)⟩
theorem pe_or1 (h : PE X a ta) : PE X (.BoolOp .Or [a] pos) ta := ⟨fun pins s σ H Q I w => by
  have := h.run pins s σ H Q I w
  first
    | exact this
    | (unfold eval; exact this)⟩
end
/-! ### truth of lists -/
def D.emp : D → Option Bool
  | .lst l => some l.isEmpty
  | .tup l => some l.isEmpty
  | .non => some true
  | .bl b => some (!b)
  | .int i => some (i == 0)
  | _ => none
theorem Is.tru {K : KT} {G H : Hp} (e : Ex G H) : ∀ {d : D} {v : V} {b : Bool}, D.emp d = some b → Is K G d v → TruV K v H (!b)
  | .lst l, v, b, hb, ⟨a, xs, p, h1, h2⟩ => by
    cases hb; rw [p]
    refine .inl ⟨xs, h1.sq e, ?_⟩
    have := IsL.len h2
    cases l <;> cases xs <;> first | rfl | cases this
  | .tup l, v, b, hb, ⟨a, xs, p, h1, h2⟩ => by
    cases hb; rw [p]
    refine .inr (.inl ⟨xs, h1.sq e, ?_⟩)
    have := IsL.len h2
    cases l <;> cases xs <;> first | rfl | cases this
  | .non, v, b, hb, h => by cases hb; cases (show _ = V.non from h); exact rfl
  | .bl x, v, b, hb, h => by cases hb; cases (show _ = V.bl x from h); exact (Bool.not_not x)
  | .int x, v, b, hb, h => by cases hb; cases (show _ = V.int x from h); exact rfl
section
variable {c : Cn} {q : List Sl} {P : D → Prop} {ta : TE} {B : Bool → Prop}
theorem wp_notT (h : wpE c ta q fun x => ∃ b, D.emp x = some b ∧ P (.bl b)) : wpE c (tNotT c.K ta) q P := fun G H s S R Q hq =>
  h G H s S R _ fun G1 H1 v x h1 T1 i1 => by
    obtain ⟨b, hb, hp⟩ := h1
    exact ⟨!b, Is.tru T1.ok.sub hb i1, by rw [Bool.not_not]; exact hq G1 H1 _ _ hp T1 rfl⟩
theorem wt_tru (h : wpE c ta q fun x => ∃ b, D.emp x = some b ∧ B (!b)) : wpT c (fun σ H Q => ta σ H fun x H' => ∃ k, TruV c.K x H' k ∧ Q k H') q B := fun G H s S R Q hq =>
  h G H s S R _ fun G1 H1 v x h1 T1 i1 => by
    obtain ⟨b, hb, hp⟩ := h1
    exact ⟨!b, Is.tru T1.ok.sub hb i1, hq G1 H1 _ hp T1⟩
end
end Ez

set_option Elab.async false
set_option linter.all false
namespace Ez
open L2 PySem PyProof.Rows PySem.Spec
theorem kit_NoneType_bool : kitB "NoneType" "bool" = some false := by decide +kernel
theorem kit_NoneType_int : kitB "NoneType" "int" = some false := by decide +kernel
theorem kit_NoneType_str : kitB "NoneType" "str" = some false := by decide +kernel
theorem kit_NoneType_tuple : kitB "NoneType" "tuple" = some false := by decide +kernel
theorem kit_NoneType_list : kitB "NoneType" "list" = some false := by decide +kernel
theorem kit_bool_bool : kitB "bool" "bool" = some true := by decide +kernel
theorem kit_bool_int : kitB "bool" "int" = some true := by decide +kernel
theorem kit_bool_str : kitB "bool" "str" = some false := by decide +kernel
theorem kit_bool_tuple : kitB "bool" "tuple" = some false := by decide +kernel
theorem kit_bool_list : kitB "bool" "list" = some false := by decide +kernel
theorem kit_int_bool : kitB "int" "bool" = some false := by decide +kernel
theorem kit_int_int : kitB "int" "int" = some true := by decide +kernel
theorem kit_int_str : kitB "int" "str" = some false := by decide +kernel
theorem kit_int_tuple : kitB "int" "tuple" = some false := by decide +kernel
theorem kit_int_list : kitB "int" "list" = some false := by decide +kernel
theorem kit_str_bool : kitB "str" "bool" = some false := by decide +kernel
theorem kit_str_int : kitB "str" "int" = some false := by decide +kernel
theorem kit_str_str : kitB "str" "str" = some true := by decide +kernel
theorem kit_str_tuple : kitB "str" "tuple" = some false := by decide +kernel
theorem kit_str_list : kitB "str" "list" = some false := by decide +kernel
theorem kit_tuple_bool : kitB "tuple" "bool" = some false := by decide +kernel
theorem kit_tuple_int : kitB "tuple" "int" = some false := by decide +kernel
theorem kit_tuple_str : kitB "tuple" "str" = some false := by decide +kernel
theorem kit_tuple_tuple : kitB "tuple" "tuple" = some true := by decide +kernel
theorem kit_tuple_list : kitB "tuple" "list" = some false := by decide +kernel
theorem kit_list_bool : kitB "list" "bool" = some false := by decide +kernel
theorem kit_list_int : kitB "list" "int" = some false := by decide +kernel
theorem kit_list_str : kitB "list" "str" = some false := by decide +kernel
theorem kit_list_tuple : kitB "list" "tuple" = some false := by decide +kernel
theorem kit_list_list : kitB "list" "list" = some true := by decide +kernel
end Ez
namespace Ez
theorem br_t {A B : Prop} (h : A) : (true = true → A) ∧ (true = false → B) := ⟨fun _ => h, fun e => Bool.noConfusion e⟩
theorem br_f {A B : Prop} (h : B) : (false = true → A) ∧ (false = false → B) := ⟨fun e => Bool.noConfusion e, fun _ => h⟩
theorem br_t2 {A B : Prop} (h : B) : (true = false → A) ∧ (true = true → B) := ⟨fun e => Bool.noConfusion e, fun _ => h⟩
theorem br_f2 {A B : Prop} (h : A) : (false = false → A) ∧ (false = true → B) := ⟨fun _ => h, fun e => Bool.noConfusion e⟩
theorem br_d {p : Prop} [Decidable p] {A B : Prop} (h1 : p → A) (h2 : ¬ p → B) : (decide p = true → A) ∧ (decide p = false → B) := ⟨fun e => h1 (of_decide_eq_true e), fun e => h2 (of_decide_eq_false e)⟩
theorem br_d2 {p : Prop} [Decidable p] {A B : Prop} (h1 : p → A) (h2 : ¬ p → B) : (decide p = false → B) ∧ (decide p = true → A) := ⟨fun e => h2 (of_decide_eq_false e), fun e => h1 (of_decide_eq_true e)⟩
theorem br_b {b : Bool} {A B : Prop} (h1 : b = true → A) (h2 : b = false → B) : (b = true → A) ∧ (b = false → B) := ⟨h1, h2⟩
theorem br_b2 {b : Bool} {A B : Prop} (h1 : b = true → A) (h2 : b = false → B) : (b = false → B) ∧ (b = true → A) := ⟨h2, h1⟩
end Ez

set_option Elab.async false
set_option linter.all false
set_option maxRecDepth 100000
namespace Ez
open L2 PySem PyProof.Rows PySem.Spec
/-! ### sizes of ints -/
def Bd (n : Nat) (i : Int) : Prop := i.natAbs < 2 ^ n
theorem Bd.mono {n m : Nat} {i : Int} (h : Bd n i) (e : n ≤ m) : Bd m i := Nat.lt_of_lt_of_le h (Nat.pow_le_pow_right (by decide) e)
theorem Bd.mul {n m : Nat} {i j : Int} (h : Bd n i) (k : Bd m j) : Bd (n + m) (i * j) := wide_lt h k
theorem Bd.add {n : Nat} {i j : Int} (h : Bd n i) (k : Bd n j) : Bd (n + 1) (i + j) := by
  unfold Bd at *
  have := Int.natAbs_add_le i j
  rw [Nat.pow_succ]; omega
theorem Bd.sub {n : Nat} {i j : Int} (h : Bd n i) (k : Bd n j) : Bd (n + 1) (i - j) := by
  unfold Bd at *
  have := Int.natAbs_sub_le i j
  rw [Nat.pow_succ]; omega
theorem Bd.neg {n : Nat} {i : Int} (h : Bd n i) : Bd n (-i) := by
  unfold Bd at *; rw [Int.natAbs_neg]; exact h
theorem Bd.ofLt {n : Nat} {i : Int} (h : i.natAbs < 2 ^ n) : Bd n i := h
theorem Bd.le {n : Nat} {i j : Int} (h : Bd n j) (e : i.natAbs ≤ j.natAbs) : Bd n i := Nat.lt_of_le_of_lt e h
theorem Bd.lg {n : Nat} {i : Int} (h : Bd n i) (h0 : 0 < n) : i.natAbs.log2 < n := PySem.Flt.log2_lt_of h0 h
theorem CMulW.of {n m : Nat} {i j : Int} (h : Bd n i) (k : Bd m j) (e : n + m ≤ 999000) : CMulW i j := by
  have h' := Bd.lg (h.mono (Nat.le_succ n)) (Nat.succ_pos n)
  have k' := Bd.lg (k.mono (Nat.le_succ m)) (Nat.succ_pos m)
  unfold CMulW
  omega
theorem CDivW.of {n : Nat} {i j : Int} (h : 0 < j) (k : Bd n j) (e : n ≤ 9000) : CDivW i j := by
  refine ⟨h, ?_⟩
  by_cases h0 : n = 0
  · subst h0
    unfold Bd at k
    have : j.natAbs < 1 := k
    omega
  · have := Bd.lg k (by omega)
    omega
/-- // by any divisor but 0 -/
def CDivZ (_ j : Int) : Prop := j ≠ 0 ∧ j.natAbs.log2 < 9000
theorem CDivZ.of {n : Nat} {i j : Int} (h : j ≠ 0) (k : Bd n j) (e : n ≤ 9000) : CDivZ i j := by
  refine ⟨h, ?_⟩
  by_cases h0 : n = 0
  · subst h0
    unfold Bd at k
    have : j.natAbs < 1 := k
    omega
  · have := Bd.lg k (by omega)
    omega
theorem op_fdivZ {X : Cx} : OpR X (binaryOp .FloorDiv) (rI CDivZ fun i j => .int (i.fdiv j)) := opI fun _ _ _ _ _ _ _ hc q => floordiv_int hc.1 q (.inl (PyProof.noPylong_of_log2 hc.2))
/-! ### couples of ints, as tuples or as lists -/
inductive Pair : D → Int → Int → Prop
  | t (a b : Int) : Pair (.tup [.int a, .int b]) a b
  | l (a b : Int) : Pair (.lst [.int a, .int b]) a b
end Ez
namespace Ez
open L2 PySem PyProof.Rows PySem.Spec
/-! ### promises of one, two, three arguments -/
abbrev X0 : List D → Addr → List Str → List D → Prop := fun _ _ _ _ => False
abbrev Pm.f1 (pre : Wd → D → Prop) (post : D → D → Prop) (exn : List D → Addr → List Str → List D → Prop := X0) : Pm :=
  { pre := fun W ds => match ds with | [a] => pre W a | _ => False, post := fun ds r => match ds with | [a] => post a r | _ => False, exn := exn }
abbrev Pm.f2 (pre : Wd → D → D → Prop) (post : D → D → D → Prop) (exn : List D → Addr → List Str → List D → Prop := X0) : Pm :=
  { pre := fun W ds => match ds with | [a, b] => pre W a b | _ => False, post := fun ds r => match ds with | [a, b] => post a b r | _ => False, exn := exn }
abbrev Pm.f3 (pre : Wd → D → D → D → Prop) (post : D → D → D → D → Prop) (exn : List D → Addr → List Str → List D → Prop := X0) : Pm :=
  { pre := fun W ds => match ds with | [a, b, c] => pre W a b c | _ => False, post := fun ds r => match ds with | [a, b, c] => post a b c r | _ => False, exn := exn }
theorem Pm.l1 {pre : Wd → D → Prop} {post : D → D → Prop} {exn : List D → Addr → List Str → List D → Prop} {W : Wd} {ds : List D} (h : (Pm.f1 pre post exn).pre W ds) : ∃ a, ds = [a] ∧ pre W a := by
  match ds, h with
  | [a], h => exact ⟨a, rfl, h⟩
theorem Pm.l2 {pre : Wd → D → D → Prop} {post : D → D → D → Prop} {exn : List D → Addr → List Str → List D → Prop} {W : Wd} {ds : List D} (h : (Pm.f2 pre post exn).pre W ds) : ∃ a b, ds = [a, b] ∧ pre W a b := by
  match ds, h with
  | [a, b], h => exact ⟨a, b, rfl, h⟩
theorem Pm.l3 {pre : Wd → D → D → D → Prop} {post : D → D → D → D → Prop} {exn : List D → Addr → List Str → List D → Prop} {W : Wd} {ds : List D} (h : (Pm.f3 pre post exn).pre W ds) : ∃ a b c, ds = [a, b, c] ∧ pre W a b c := by
  match ds, h with
  | [a, b, c], h => exact ⟨a, b, c, rfl, h⟩
/-- a default's datum -/
def dOf : V → D
  | .non => .non
  | .bl b => .bl b
  | .int i => .int i
  | .str x => .str x
  | _ => .non
def scaV : V → Bool
  | .non => true
  | .bl _ => true
  | .int _ => true
  | .str _ => true
  | _ => false
theorem isDef {K : KT} {G : Hp} : ∀ {vs : List V}, vs.all scaV = true → IsL K G (vs.map dOf) vs
  | [], _ => rfl
  | v :: vs, h => by
    have h2 := Bool.and_eq_true_iff.mp (show (scaV v && vs.all scaV) = true from h)
    refine ⟨v, vs, rfl, ?_, isDef h2.2⟩
    cases v <;> first | exact rfl | cases h2.1
section
variable {c : Cn} {q : List Sl} {P : D → Prop} {ta : TA}
theorem wp_call0 {p : Pm} {dvs : List V} {E : XK} (hd : dvs.all scaV = true) (h : wpA c ta q fun ds => p.pre c.W (ds ++ dvs.map dOf) ∧ (∀ d, p.post (ds ++ dvs.map dOf) d → P d) ∧ ∀ C ns es, ¬ p.exn (ds ++ dvs.map dOf) C ns es) :
    wpE c (tCall (spD c.K p) dvs E ta) q P := wp_call (fun _ => isDef hd) h
theorem wp_callX0 {p : Pm} {dvs : List V} {E : XK} {Z : Addr → List Str → List D → Prop} (hE : XA c E Z) (hd : dvs.all scaV = true)
    (h : wpA c ta q fun ds => p.pre c.W (ds ++ dvs.map dOf) ∧ (∀ d, p.post (ds ++ dvs.map dOf) d → P d) ∧ ∀ C ns es, p.exn (ds ++ dvs.map dOf) C ns es → Z C ns es) :
    wpE c (tCall (spD c.K p) dvs E ta) q P := wp_callX hE (fun _ => isDef hd) h
theorem wp_callS0 {p : Pm} {dvs : List V} {Wx : WX} {Z : List Sl → Addr → List Str → List D → Prop} (hW : WA c Wx Z) (hd : dvs.all scaV = true)
    (h : wpA c ta q fun ds => p.pre c.W (ds ++ dvs.map dOf) ∧ (∀ d, p.post (ds ++ dvs.map dOf) d → P d) ∧ ∀ C ns es, p.exn (ds ++ dvs.map dOf) C ns es → Z q C ns es) :
    wpE c (tCallSD (spD c.K p) dvs (WE Wx) ta) q P := wp_callS hW (fun _ => isDef hd) h
end
end Ez
namespace Ez
open L2 PySem PyProof.Rows PySem.Spec
section
variable {c : Cn} {q : List Sl}
theorem wg_lst {gs : TGs} {n : Nat} {ds : List D} {N : List Sl → Prop} (hn : ds.length = n) (h : wpGs c gs ds q N) : wpG c (gLst c.K n gs) (.lst ds) q N := fun G H s v S R hv Q hq => by
  obtain ⟨a, xs, rfl, h1, h2⟩ := hv
  exact ⟨a, xs, rfl, h1.sq S.ok.sub, by rw [IsL.len h2, hn], h G H s xs S R h2 Q hq⟩
theorem ww_lst {vs : List Nat} {gs : TGs} {n : Nat} {ds : List D} {N : List Sl → Prop} (hn : ds.length = n) (h : wpWs c gs vs ds q N) : wpW c (gLst c.K n gs) vs (.lst ds) q N := fun G H s v S R hv Q hq => by
  obtain ⟨a, xs, rfl, h1, h2⟩ := hv
  exact ⟨a, xs, rfl, h1.sq S.sub, by rw [IsL.len h2, hn], h G H s xs S R h2 Q hq⟩
end
end Ez
namespace Ez
open L2 PySem PyProof.Rows PySem.Spec
theorem atI_cons0 {α : Type} {x : α} {xs : List α} : atI (x :: xs) 0 = some x := by
  unfold atI ixN
  rw [if_pos (Int.le_refl 0), if_pos (by rw [List.length_cons]; omega)]
  rfl
end Ez

set_option Elab.async false
set_option linter.all false
set_option maxRecDepth 100000
namespace Ez
open L2 PySem PyProof.Rows PySem.Spec
theorem Bd.lit {n : Nat} {i : Int} (h : decide (i.natAbs < 2 ^ n) = true) : Bd n i := by
  unfold Bd
  exact of_decide_eq_true h
theorem Bd.of_range {n : Nat} {i m : Int} (h0 : 0 ≤ i) (h : i < m) (k : Bd n m) : Bd n i := k.le (by omega)
section
variable {c : Cn} {P : D → Prop}
/-- a rest whose value does not matter -/
theorem od_modF {i j : Int} (hj : 0 < j) (k : ∀ m, 0 ≤ m → m < j → P (.int m)) : opD c (rI (fun _ j => 0 < j) fun i j => .int (i % j)) (.int i) (.int j) P :=
  od_ci hj (k _ (Int.emod_nonneg _ (by omega)) (Int.emod_lt_of_pos _ hj))
theorem od_divF {i j : Int} {n : Nat} (hj : 0 < j) (zj : Bd n j) (hn : n ≤ 9000) (k : ∀ m, (0 ≤ i → 0 ≤ m ∧ m ≤ i) → m.natAbs ≤ i.natAbs → P (.int m)) : opD c (rI CDivW fun i j => .int (i / j)) (.int i) (.int j) P :=
  od_ci (CDivW.of hj zj hn) (k _ (fun h => ⟨Int.ediv_nonneg h (by omega), Int.ediv_le_self _ h⟩) (Int.natAbs_ediv_le_natAbs _ _))
end
/-! ### a hand: a list of cells, a place in it, a rest, a total, all written by whoever draws -/
def handD (cells : List Int) (i r t : Int) : List D := [.lst (cells.map D.int), .int i, .int r, .int t]
structure HandOk (cells : List Int) (i r t : Int) : Prop where
  many : cells.length ≤ 63
  i0 : 0 ≤ i
  i1 : i ≤ (cells.length : Int)
  r0 : 0 ≤ r
  t0 : 0 ≤ t
  t1 : t < 2147483549
  c0 : ∀ x ∈ cells, 0 ≤ x
def HandW (K : KT) (p : Addr) : Wd where
  M := fun a => a = p
  J := fun G H => ∃ xs cells i r t, H p = some (.lst xs) ∧ IsL K G (handD cells i r t) xs ∧ HandOk cells i r t
  stb := fun ⟨xs, cells, i, r, t, a, b, j⟩ e h => ⟨xs, cells, i, r, t, by rw [h p rfl]; exact a, IsL.mono e _ b, j⟩
/-- the heap but for one place -/
def butH (H : Hp) (p : Addr) : Hp := fun a => if a = p then none else H a
theorem butH_ne {H : Hp} {p a : Addr} (h : a ≠ p) : butH H p a = H a := if_neg h
theorem butH_eq {H : Hp} {p : Addr} : butH H p p = none := if_pos rfl
section
variable {K : KT} {G H G' H' : Hp} {p : Addr}
theorem hand_start (o : Ok (HandW K p) G H) : Stp W0 G (butH H p) G H := by
  refine ⟨⟨o.sub, fun _ m => m.elim, fun _ m => m.elim, trivial⟩, Ex.refl G, fun _ _ e => .inl e, fun a u _ e => ?_, fun a u e => ?_⟩
  · by_cases z : a = p
    · rw [z, butH_eq] at e; cases e
    · rw [butH_ne z] at e; exact e
  · by_cases z : a = p
    · rw [z, butH_eq] at e; cases e
    · rw [butH_ne z] at e; exact ⟨u, e⟩
theorem hand_end (o : Ok (HandW K p) G H) (t : Stp W0 G (butH H p) G' H') (hg : G' p = none) (j : (HandW K p).J G' H') : Stp (HandW K p) G H G' H' := by
  obtain ⟨xs, cells, i, r, u, a, b, h⟩ := id j
  refine ⟨⟨t.ok.sub, fun a m => by cases (show a = p from m); exact hg, fun a m => by cases (show a = p from m); exact ⟨_, by assumption⟩, j⟩, t.ex, fun a u e => ?_, fun a u n e => ?_, fun a u e => ?_⟩
  · rcases t.fresh a u e with y | y
    · exact .inl y
    · by_cases z : a = p
      · rw [z, hg] at e; cases e
      · rw [butH_ne z] at y; exact .inr y
  · have z : a ≠ p := n
    exact t.kp a u id (by rw [butH_ne z]; exact e)
  · by_cases z : a = p
    · rw [z]; exact ⟨_, by assumption⟩
    · exact t.th a u (by rw [butH_ne z]; exact e)
end
end Ez
namespace Ez
open L2 PySem PyProof.Rows PySem.Spec
def HandIn (a : Addr) (q : List Sl) : Prop := ∃ cells i r t, q[0]? = some (.own a (handD cells i r t)) ∧ HandOk cells i r t
section
variable {Pg : Program} {w : World} {K : KT} {mg : Str → Option Value} {base : Heap}
/-- a def that draws from a hand by itself: upon its slots the hand is a list of its own -/
theorem fn_hand {x qual : Str} {st : Stmt} {f : Addr} {fd : FuncData} {N ps : List Str} {k : Nat} {p : Pm} (F : Fun K x qual st f fd) (S : FnScope N ps (defScope st)) (hl : ∀ W ds, p.pre W ds → ds.length = ps.length)
    (hpre : ∀ W ds, p.pre W ds → ∃ a es, ds = .adr a :: es ∧ W = HandW K a)
    (h : ∀ (cdv : Value) (A : Around) (outer : List Env) (s : Shared) (E : XK) (G H : Hp) (a : Addr) (es : List D) (cells : List Int) (i r t : Int), Room k (A.deeper (envOfC qual (defScope st) s.heap.objs.size f cdv)) → p.pre (HandW K a) (.adr a :: es) → HandOk cells i r t →
      ∃ tm, PSs (cxOf (L2N.CX Pg w) Pg w K mg base N qual (defScope st) f cdv A outer s H E) (defBody st) tm ∧
        wpS ⟨K, W0, G, butH H a⟩ tm (.own a (handD cells i r t) :: (es.map Sl.dat ++ List.replicate (N.length - (es.length + 1)) Sl.unk)) ⟨fun q => HandIn a q ∧ p.post (.adr a :: es) .non, fun q d => HandIn a q ∧ p.post (.adr a :: es) d, fun _ => False, fun _ => False⟩) :
    FnOk Pg w K mg base (L2N.CX Pg w) (k + 1) f fd ps (spD K p) := by
  refine fun_okN F S (spD_len hl) fun cdv A outer s H vs Q E hr h1 => ?_
  obtain ⟨W, G, ds, o, iv, hp, hq, hx⟩ := h1
  obtain ⟨a, es, rfl, rfl⟩ := hpre W ds hp
  obtain ⟨xs, cells, i, r, t, ha, hi, ok⟩ := id o.inv
  obtain ⟨tm, d1, d2⟩ := h cdv A outer s E G H a es cells i r t hr hp ok
  obtain ⟨_, ys, rfl, e1, i2⟩ := iv
  cases (show _ = V.ref a from e1)
  have no : ∀ {j : Nat} {a' : Addr} {e : List D}, ((es.map Sl.dat ++ List.replicate (N.length - (es.length + 1)) Sl.unk))[j]? = some (Sl.own a' e) → False := fun {j a' e} z => by
    have := List.mem_of_getElem? z
    simp at this
  have fin : ∀ {G' H' : Hp} {s' : L2.St} {q' : List Sl}, Stp W0 G (butH H a) G' H' → Rel K W0 (butH H a) G' H' s' q' → HandIn a q' → Stp (HandW K a) G H G' H' := by
    intro G' H' s' q' t' r' hi
    obtain ⟨c', i', r2, t2, z, ok'⟩ := hi
    obtain ⟨xs', q1, q2, q3, q4, q5, q6⟩ := r'.own 0 a _ z
    exact hand_end o t' q3 ⟨xs', c', i', r2, t2, q2, q6, ok'⟩
  refine ⟨tm, d1, d2 _ _ G H (hand_start o) ?_ ⟨fun s' H' G' q' z _ S' R' => hq G' H' .non .non z.2 (fin S' R' z.1) rfl, fun v H' G' d s' q' z _ S' i' R' => hq G' H' v d z.2 (fin S' R' z.1) i', fun _ _ _ _ z => z.elim, fun _ _ _ _ z => z.elim⟩⟩
  have r0 : Rel K W0 (butH H a) G H (L2.start N (.ref a :: ys)) ((D.adr a :: es).map Sl.dat ++ List.replicate (N.length - (D.adr a :: es).length) Sl.unk) := rel_start N ⟨_, ys, rfl, rfl, i2⟩
  refine ⟨r0.len, fun j d e => ?_, fun j a' e z => ?_, fun j l a' b' p' n za zb => ?_⟩
  · cases j with
    | zero => cases e
    | succ j => exact r0.dat (j + 1) d e
  · cases j with
    | zero =>
      cases z
      exact ⟨xs, rfl, ha, o.cln a rfl, butH_eq, id, hi⟩
    | succ j => exact (no (j := j) z).elim
  · cases j with
    | zero =>
      cases l with
      | zero => exact n rfl
      | succ l => exact no (j := l) zb
    | succ j => exact no (j := j) za
end
end Ez
namespace Ez
open L2 PySem PyProof.Rows PySem.Spec
theorem od_pow {c : Cn} {P : D → Prop} {i j : Int} (h : decide (0 ≤ j ∧ j ≤ 1000000 ∧ i.natAbs < 2 ^ 64) = true) (k : P (.int (i ^ j.toNat))) : opD c (rI CPow fun i j => .int (i ^ j.toNat)) (.int i) (.int j) P :=
  od_ci (show 0 ≤ j ∧ j ≤ 1000000 ∧ i.natAbs < 2 ^ 64 from of_decide_eq_true h) k
end Ez

set_option Elab.async false
set_option linter.all false
set_option maxRecDepth 100000
namespace Ez
open L2 PySem PyProof.Rows PySem.Spec
/-- a body under the wishes of its clauses -/
def runTb (tb : WX → TS) (Wf : Ends → WX) : TS := fun D' s H => tb (Wf D') D' s H
theorem ps_tryR {X : Cx} {body : List Stmt} {h0 : ExceptHandler} {hds : List ExceptHandler} {l : List Clause} {pos : Pos} {tb : WX → TS} {Wout : WX} (hs : X.stack = X.env :: X.outer) (hf : X.env.frame = some X.env.locals) (hN : X.N.Nodup) (tk : L2N.Takes X Wout)
    (hb : ∀ (Wx : WX) (pn : List (Addr × Obj)) (xe : Value → Shared → Prop), L2N.Takes (X.tr pn xe) Wx → PassesOwn (model X.prog X.w) X.A X.env xe → PSs (X.tr pn xe) body (tb Wx))
    (hh : HdsN X (h0 :: hds) l) : PS X (.Try body (h0 :: hds) [] [] pos) (runTb tb fun D' => wTry X.K Wout D' l) := ps_tryN hs hf hN tk hb hh
theorem ws_tryR {c : Cn} {q : List Sl} {F : Fn} {l : List Clause} {tb : WX → TS} {Wout : WX} (h : ∀ (G1 : Hp) (Wx : WX), WA { c with G0 := G1 } Wx (hdD { c with G0 := G1 } F l) → (∀ E Z, XA c E Z → XA { c with G0 := G1 } E Z) → wpS { c with G0 := G1 } (tb Wx) q F) :
    wpS c (runTb tb fun D' => wTry c.K Wout D' l) q F := ws_try h
end Ez
namespace Ez
open L2 PySem PyProof.Rows PySem.Spec
theorem D.eqv_same {x : D} (h : D.cmp x = true) : D.eqv x x = true := PySem.SeqAt.eqv_refl _ (D.lay x (Bool.and_eq_true_iff.mp h).1)
section
variable {c : Cn} {P : D → Prop}
theorem od_ne_same {x : D} (h : D.cmp x = true) (k : P (.bl false)) : opD c (rNeD c.K) x x P := od_ne h h (by rw [D.eqv_same h]; exact k)
theorem od_eq_same {x : D} (h : D.cmp x = true) (k : P (.bl true)) : opD c (rEqD c.K) x x P := od_eq h h (by rw [D.eqv_same h]; exact k)
/-- two ints compared -/
theorem eqv_int (a b : Int) : D.eqv (.int a) (.int b) = decide (a = b) := rfl
theorem od_eqI {a b : Int} (k : P (.bl (decide (a = b)))) : opD c (rEqD c.K) (.int a) (.int b) P := od_eq rfl rfl k
theorem od_neI {a b : Int} (k : P (.bl (!decide (a = b)))) : opD c (rNeD c.K) (.int a) (.int b) P := od_ne rfl rfl k
end
theorem Bd.add2 {n m : Nat} {i j : Int} (h : Bd n i) (k : Bd m j) : Bd (n + m + 1) (i + j) := (h.mono (Nat.le_add_right n m)).add (k.mono (Nat.le_add_left m n))
theorem Bd.sub2 {n m : Nat} {i j : Int} (h : Bd n i) (k : Bd m j) : Bd (n + m + 1) (i - j) := (h.mono (Nat.le_add_right n m)).sub (k.mono (Nat.le_add_left m n))
theorem Bd.ediv {n : Nat} {i : Int} (h : Bd n i) (j : Int) : Bd n (i / j) := h.le (Int.natAbs_ediv_le_natAbs _ _)
theorem Bd.one : Bd 1 1 := by unfold Bd; decide
theorem br_nd {p : Prop} [Decidable p] {A B : Prop} (h1 : ¬ p → A) (h2 : p → B) : ((!decide p) = true → A) ∧ ((!decide p) = false → B) := ⟨fun e => h1 (by simpa using e), fun e => h2 (by simpa using e)⟩
theorem br_nd2 {p : Prop} [Decidable p] {A B : Prop} (h1 : ¬ p → A) (h2 : p → B) : ((!decide p) = false → B) ∧ ((!decide p) = true → A) := ⟨fun e => h2 (by simpa using e), fun e => h1 (by simpa using e)⟩
end Ez

set_option Elab.async false
set_option linter.all false
namespace Ez
open L2 PySem PyProof.Rows PySem.Spec
theorem call_list_ofK {X : Cx} {K : PySem.W.Frag} (e : X.K = K) : CallR X (.type "list") (fun xs H Q => ∃ p ys, xs = [.ref p] ∧ (SqL K H p ys ∨ SqT K H p ys) ∧ ∀ l, H l = none → Q (.ref l) (upd H l (.lst ys))) := by
  subst e; exact call_list_of
theorem wp_is {c : Cn} {te : TE} {q : List Sl} {P : D → Prop} (v : D) (h : wpE c te q fun d => d = v) (k : P v) : wpE c te q P := wp_mono h fun d e => e ▸ k
section
variable {c : Cn} {q : List Sl} {P : D → Prop} {ta te : TE} {F : Fn} {g : TG}
/-! ### the script: a list that stands for good -/
theorem rd_sq {K : KT} {G H : Hp} (e : Ex G H) {a : Addr} {xs : List V} (h : SqL K G a xs) : SqL K H a xs := h.imp (fun h => h.imp (e _ _) fun ⟨o, z⟩ => ⟨o, e _ _ z⟩) id
theorem cb_lenS {ds : List D} (k : P (.int ds.length)) : cbD c (fun zs H Q => ∃ p ys, zs = [.ref p] ∧ (SqL c.K H p ys ∨ SqT c.K H p ys) ∧ Q (.int ys.length) H) [.scr ds] P := fun G H vs o a Q hq => by
  obtain ⟨v, rfl, p, xs, rfl, h1, h2⟩ := IsL.one_of a
  refine ⟨p, xs, rfl, .inl (rd_sq o.sub h1), ?_⟩
  rw [IsL.len h2]; exact hq G H _ _ k (Stp.refl o) rfl
theorem ws_forS {tb : TS} (h : wpE c ta q fun d => ∃ ds, d = .scr ds ∧ ∃ I : Nat → List Sl → Prop, I 0 q ∧
      (∀ i x q', ds[i]? = some x → I i q' → wpG c g x q' fun q2 => wpS c tb q2 { F with nx := I (i + 1), ct := I (i + 1), bk := F.nx }) ∧ ∀ q', I ds.length q' → F.nx q') :
    wpS c (tFor (iList c.K ta) g tb) q F := fun D' s G H S R p =>
  h G H s S R _ fun G1 H1 v d h1 T1 i1 => by
    obtain ⟨ds, rfl, I, h0, hs, hd⟩ := h1
    obtain ⟨a, xs, rfl, l1, l2⟩ := i1
    have p1 := p.more T1.ex
    refine ⟨a, rfl, ⟨xs, rd_sq T1.ok.sub l1⟩, for_list (xs := xs) (fun i => LpAt c G1 (I i)) ⟨G1, q, h0, Ex.refl G1, S.trans T1, R.step T1⟩ (fun i s' H' _ z => ?_) (fun i x s' H' e z => ?_) fun s' H' z => ?_⟩
    · obtain ⟨G2, q2, _, e2, S2, _⟩ := z
      exact rd_sq S2.ok.sub (rd_sq e2 l1)
    · obtain ⟨G2, q2, w, e2, S2, R2⟩ := z
      obtain ⟨d, ed, id⟩ := IsL.back l2 e
      exact turn_at p1 e2 S2 R2 (Is.mono e2 d id) (hs i d q2 ed w)
    · obtain ⟨G2, q2, w, e2, S2, R2⟩ := z
      rw [IsL.len l2] at w
      exact p1.nx s' H' G2 q2 (hd q2 w) e2 S2 R2
/-- a new list is given back, nobody else holds it: slot i tells of it -/
theorem ws_retF {i : Nat} (hl : i < q.length) (h : wpF c te q fun ds => ∀ a, F.rt (q.set i (.own a ds)) (.adr a)) : wpS c (tRet te) q F := fun D' s G H S R p =>
  h G H s S R _ fun G1 H1 a xs ds h1 T1 hn hx => by
    have S1 := S.trans T1
    have hg := none_of_sub T1.ok.sub hn
    exact p.rt _ _ G1 _ _ _ (h1 a) T1.ex (S1.put (none_of_th S1.th hn) hg (T1.ok.notM hn)) rfl ((R.step T1).setO hn (none_of_th S1.th hn) hg (T1.ok.notM hn) hx hl)
end
section
variable {Pg : Program} {w : World} {K : KT} {mg : Str → Option Value} {base : Heap}
/-- the promise of the def that makes the hand -/
def spNew (K : KT) : Sp := fun vs H Q _ => ∃ G, ∃ ns : List Int, Ok W0 G H ∧ IsL K G [.scr (ns.map D.int)] vs ∧ ns.length ≤ 63 ∧
  ∀ G' H' p, Ok (HandW K p) G' H' → Stp W0 G H G' H' → Q (.ref p) H'
/-- .. and of the law: a script in, True out -/
def spLaw (K : KT) : Sp := fun vs H Q _ => ∃ G, ∃ ns : List Int, Ok W0 G H ∧ IsL K G [.scr (ns.map D.int)] vs ∧ ns.length ≤ 63 ∧ ∀ H', Q (.bl true) H'
def NewRt (q : List Sl) (d : D) : Prop := ∃ (i : Nat) (p : Addr) (cells : List Int) (t : Int), d = .adr p ∧ q[i]? = some (Sl.own p (handD cells 0 0 t)) ∧ HandOk cells 0 0 t
theorem fn_new {x qual : Str} {st : Stmt} {f : Addr} {fd : FuncData} {N ps : List Str} {k : Nat} (F : Fun K x qual st f fd) (S : FnScope N ps (defScope st)) (hl : ps.length = 1)
    (h : ∀ (cdv : Value) (A : Around) (outer : List Env) (s : Shared) (E : XK) (G H : Hp) (ns : List Int), Room k (A.deeper (envOfC qual (defScope st) s.heap.objs.size f cdv)) → ns.length ≤ 63 →
      ∃ tm, PSs (cxOf (L2N.CX Pg w) Pg w K mg base N qual (defScope st) f cdv A outer s H E) (defBody st) tm ∧
        wpS ⟨K, W0, G, H⟩ tm (slots [.scr (ns.map D.int)] N) ⟨fun _ => False, NewRt, fun _ => False, fun _ => False⟩) :
    FnOk Pg w K mg base (L2N.CX Pg w) (k + 1) f fd ps (spNew K) := by
  refine fun_okN F S (fun vs H Q E ⟨G, ns, _, i, _⟩ => by rw [IsL.len i, hl]; rfl) fun cdv A outer s H vs Q E hr h1 => ?_
  obtain ⟨G, ns, o, iv, hz, hq⟩ := h1
  obtain ⟨tm, d1, d2⟩ := h cdv A outer s E G H ns hr hz
  refine ⟨tm, d1, d2 _ _ G H (Stp.refl o) (rel_start N iv) ⟨fun _ _ _ _ z => z.elim, fun v H' G' d s' q' z e S' i' R' => ?_, fun _ _ _ _ z => z.elim, fun _ _ _ _ z => z.elim⟩⟩
  obtain ⟨i, p, cells, t, rfl, hi, ok⟩ := z
  cases (show v = V.ref p from i')
  obtain ⟨xs, q1, q2, q3, q4, q5, q6⟩ := R'.own i p _ hi
  exact hq G' H' p ⟨S'.ok.sub, fun a m => by cases (show a = p from m); exact q3, fun a m => by cases (show a = p from m); exact ⟨_, q2⟩, ⟨xs, cells, 0, 0, t, q2, q6, ok⟩⟩ S'
/-- the law: its first statement makes the hand -/
theorem fn_law {x qual : Str} {st : Stmt} {f fh : Addr} {fd : FuncData} {N ps : List Str} {k : Nat} (F : Fun K x qual st f fd) (S : FnScope N ps (defScope st)) (hl : ps.length = 1)
    (h : ∀ (cdv : Value) (A : Around) (outer : List Env) (s : Shared) (E : XK) (H0 : Hp), Room k (A.deeper (envOfC qual (defScope st) s.heap.objs.size f cdv)) →
      ∃ tm, PSs (cxOf (L2N.CX Pg w) Pg w K mg base N qual (defScope st) f cdv A outer s H0 E) (defBody st) (tSeq (tAsg (tCall (spNew K) [] E0 (tCons (tVar 0) tNil)) (gName 1)) tm) ∧ 1 < N.length ∧
        ∀ (G H : Hp) (p : Addr) (d0 : D), wpS ⟨K, HandW K p, G, H⟩ tm ((slots [d0] N).set 1 (.dat (.adr p))) ⟨fun _ => False, fun _ d => d = .bl true, fun _ => False, fun _ => False⟩) :
    FnOk Pg w K mg base (L2N.CX Pg w) (k + 1) f fd ps (spLaw K) := by
  refine fun_okN F S (fun vs H Q E ⟨G, ns, _, i, _⟩ => by rw [IsL.len i, hl]; rfl) fun cdv A outer s H vs Q E hr h1 => ?_
  obtain ⟨G, ns, o, iv, hz, hq⟩ := h1
  obtain ⟨tm, d1, hN, d2⟩ := h cdv A outer s E H hr
  refine ⟨_, d1, ?_⟩
  have iv0 := iv
  have R0 : Rel K W0 H G H (L2.start N vs) (slots [.scr (ns.map D.int)] N) := rel_start N iv
  obtain ⟨v', e0, i1⟩ := R0.dat 0 (.scr (ns.map D.int)) rfl
  refine ⟨v', e0, G, ns, o, ⟨v', [], rfl, i1, rfl⟩, hz, fun G' H' p o' T' => ?_⟩
  have hlen : 1 < (slots [D.scr (ns.map D.int)] N).length := by simp [slots]; omega
  have R1 := (R0.step T').setD (i := 1) (d := .adr p) (v := .ref p) rfl hlen
  have no : ∀ (i : Nat) (a : Addr) (ds : List D), ((slots [D.scr (ns.map D.int)] N).set 1 (.dat (.adr p)))[i]? = some (.own a ds) → False := fun i a ds z => by
    rcases set_get z with ⟨_, z⟩ | ⟨_, z⟩
    · cases z
    · have := List.mem_of_getElem? z
      simp at this
  refine d2 G' H' p _ _ _ G' H' (Stp.refl o') ⟨R1.len, R1.dat, fun i a ds z => (no i a ds z).elim, fun i j a b a' _ z _ => (no i a' a z).elim⟩
    ⟨fun _ _ _ _ z => z.elim, fun v H2 G2 d s' q' z _ _ i2 _ => ?_, fun _ _ _ _ z => z.elim, fun _ _ _ _ z => z.elim⟩
  cases z
  cases (show v = V.bl true from i2)
  exact hq H2
end
end Ez
namespace Ez
open L2 PySem PyProof.Rows PySem.Spec
/-! ### names whose lists are their own -/
def tAsgF (te : TE) (i : Nat) : TS := tAsg te (gName i)
theorem ps_own {X : Cx} {st : Stmt} {te : TE} {i : Nat} (h : PS X st (tAsg te (gName i))) : PS X st (tAsgF te i) := h
def tRetF (te : TE) : TS := tRet te
theorem ps_retF {X : Cx} {st : Stmt} {te : TE} (h : PS X st (tRet te)) : PS X st (tRetF te) := h
section
variable {c : Cn} {q : List Sl} {P : D → Prop} {ta te : TE} {F : Fn} {g : TG}
theorem ws_own {i : Nat} (hl : i < q.length) (h : wpF c te q fun ds => ∀ a, F.nx (q.set i (.own a ds))) : wpS c (tAsgF te i) q F := ws_asgF hl h
theorem ws_retO (i : Nat) (hl : i < q.length) (h : wpF c te q fun ds => ∀ a, F.rt (q.set i (.own a ds)) (.adr a)) : wpS c (tRetF te) q F := ws_retF hl h
end
theorem cut_one (ds : List D) : cutD ds none (some 1) = ds.take 1 := by
  unfold cutD
  cases ds with
  | nil => rfl
  | cons x r => simp [HT.sIx]
end Ez

set_option Elab.async false
set_option linter.all false
namespace Ez
open L2 PySem PyProof.Rows PySem.Spec
/-! ### the end: facts of the top, one by one -/
section
variable {K : PySem.W.Frag} {h : Heap} {mg : Str → Option Value} {Goal : Prop}
theorem def_elim {x : Str} {st : Stmt} {f : Addr} {oc kV doc pm cdv ct : Value} {od an : Option Addr} {osl : Array (Option Value)} (X : K.In h) (G : h.Ns mainGlobals mg)
    (a : PySem.W.nsIn K mainGlobals x = some (some (.ref f)))
    (l : K.lookup f = some ⟨oc, od, .func (PySem.W.fnOf x x (defArgs st) (defBody st) (defScope st) .none kV doc pm an cdv ct), osl⟩)
    (c : PySem.W.codeIn K cdv x = true) (k : PySem.W.keepIn K (.ref f) = true)
    (go : ∀ f fd, mg x = some (.ref f) → PySem.W.keepIn K (.ref f) = true → Fun K x x st f fd → Goal) : Goal :=
  go _ _ (PySem.W.mg_of X G a) k (fun_mk l c k)
theorem defD_elim {x : Str} {st : Stmt} {f T : Addr} {oc ot kV doc pm cdv ct : Value} {od odt an : Option Addr} {osl slt : Array (Option Value)} {its : List Value} {n : Nat} {dvs : List V} (X : K.In h) (G : h.Ns mainGlobals mg)
    (a : PySem.W.nsIn K mainGlobals x = some (some (.ref f)))
    (l : K.lookup f = some ⟨oc, od, .func (PySem.W.fnOf x x (defArgs st) (defBody st) (defScope st) (.ref T) kV doc pm an cdv ct), osl⟩)
    (c : PySem.W.codeIn K cdv x = true) (k : PySem.W.keepIn K (.ref f) = true)
    (t : K.lookup T = some ⟨ot, odt, .seq its.toArray n, slt⟩) (v : Vals dvs its) (hd : dvs ≠ [])
    (go : ∀ f fd, mg x = some (.ref f) → PySem.W.keepIn K (.ref f) = true → FunD K x x (defArgs st) (defBody st) (defScope st) dvs [] f fd → Goal) : Goal :=
  go _ _ (PySem.W.mg_of X G a) k ⟨⟨oc, od, .ref T, kV, doc, pm, an, cdv, ct, osl, rfl, l, c, .inr ⟨hd, T, _, its, n, rfl, t, rfl, v⟩, .inl rfl⟩, k⟩
theorem const_elim {K : KT} {x : Str} {a : Addr} {od : Option Addr} {sl : Array (Option Value)} {its : List Value} {n : Nat} {xs : List V} (X : K.K.In h) (G : h.Ns mainGlobals mg)
    (c : PySem.W.nsIn K mainGlobals x = some (some (.ref a))) (l : K.K.lookup a = some ⟨.type "tuple", od, .seq its.toArray n, sl⟩) (v : Vals xs its) (hs : xs.all scaV = true) (hz : xs.length ≤ 1000)
    (go : ∀ a, mg x = some (.ref a) → (∀ G, Is K G (.tup (xs.map dOf)) (.ref a)) → Goal) : Goal :=
  go a (PySem.W.mg_of X G c) fun G => ⟨a, xs, rfl, .inr ⟨_, its.toArray, n, l, rfl, rfl, by rw [List.size_toArray, ← v.length]; exact Nat.le_trans hz (by decide), v⟩, isDef hs⟩
theorem exm_at {A B : Addr} {r : Bool} (b : PySem.W.subIn K (.ref B) (.type "BaseException") = some true) (i : PySem.W.isClsIn K B = true) (t : PySem.W.typeIn K (.ref B) = some (.type "type")) (s : PySem.W.subIn K (.ref A) (.ref B) = some r) :
    PySem.W.exmOne K (.ref A) (.ref B) = some r := by
  have e1 : (PySem.W.subIn K (.ref B) (.type "BaseException") == some true) = true := by rw [b] <;> rfl
  have e2 : ((PySem.W.clsIn K B).isSome && PySem.W.typeIn K (.ref B) == some (.type "type")) = true := by
    have i' : (PySem.W.clsIn K B).isSome = true := i
    rw [i', t] <;> rfl
  show (if (PySem.W.subIn K (.ref B) (.type "BaseException") == some true) = true then (if ((PySem.W.clsIn K B).isSome && PySem.W.typeIn K (.ref B) == some (.type "type")) = true then PySem.W.subIn K (.ref A) (.ref B) else none) else none) = some r
  rw [if_pos e1, if_pos e2]
  exact s
/-- a class of errors: what the top says of it -/
theorem oex_at {C : Addr} {nm q : Str} {N : Addr} {bs bm : List Value} {sn : List Str} {sub : List Value} {ab : Bool} {col : Option Bool} {dd : Option Addr} {m0 m1 m2 m3 m5 : Option Value}
    (x : K.lookup C = some (excClassObj nm q C N bs bm true sn sub ab col dd m0 m1 m2 m3 m5 "ValueError.__new__")) (b : PySem.HandSPX.refsVE bm = true)
    (sa : PySem.W.findIn K (.ref C) "__setattr__" = some (some (.builtin "object.__setattr__"))) (ex : PySem.W.subIn K (.ref C) (.type "BaseException") = some true)
    (t : PySem.W.typeIn K (.ref C) = some (.type "type")) (k : PySem.W.keepIn K (.ref C) = true) : OexC K C :=
  ⟨⟨nm, q, N, bs, bm, sn, sub, ab, col, dd, m0, m1, m2, m3, m5, x, b⟩, sa, ex, t, k⟩
theorem valsI {vs : List V} {us : List Value} (hv : Vals vs us) (i : Nat) : Vals vs[i]?.toList us[i]?.toList := by
  induction hv generalizing i with
  | nil => simp; exact .nil
  | cons h t ih =>
    cases i with
    | zero => exact .cons h .nil
    | succ i => exact ih i
theorem law_binds {x : Str} {st : Stmt} {f : Addr} {fd : FuncData} {p : Str} (F : Fun K x x st f fd)
    (h : ∀ (kV doc pm : Value) (an : Option Addr) (cdv ct u : Value), bindArgs (PySem.W.fnOf x x (defArgs st) (defBody st) (defScope st) .none kV doc pm an cdv ct) ⟨[u], []⟩ = pure [(p, u)]) (s : Shared) (u : Value) : BindsTo s fd ⟨[u], []⟩ [(p, u)] := by
  obtain ⟨_, _, kV, doc, pm, an, cdv, ct, _, rfl, _⟩ := F.ex
  exact .of_eq (h kV doc pm an cdv ct u)
end
theorem isInts {K : KT} {G : Hp} : ∀ ns : List Int, IsL K G (ns.map D.int) (ns.map V.int)
  | [] => rfl
  | n :: r => ⟨_, _, rfl, rfl, isInts r⟩
/-- the script, as the law's def gets it -/
theorem spLaw_of {K : KT} {H : Hp} {a : Addr} {ns : List Int} (hl : ns.length ≤ 63) (hS : SqL K H a (ns.map V.int)) {E : XK} : spLaw K [.ref a] H (fun v _ => v = .bl true) E :=
  ⟨H, ns, ⟨Ex.refl H, fun _ m => m.elim, fun _ m => m.elim, trivial⟩, ⟨_, [], rfl, ⟨a, ns.map V.int, rfl, hS, isInts ns⟩, rfl⟩, hl, fun _ => rfl⟩
end Ez

set_option Elab.async false
set_option linter.all false
namespace Ez
open L2 PySem PyProof.Rows PySem.Spec
/-! ### texts of data -/
def rReprD (K : PySem.W.Frag) : List V → Hp → VK → Prop := fun xs H Q => ∃ (a : Addr) (d : PyData), xs = [.ref a] ∧ Dp K H (.ref a) d ∧ d.showable = true ∧ d.hasDict = false ∧ d.depth ≤ 60 ∧ d.shown.length ≤ sizeLine ∧ Q (.str d.shown) H
theorem call_reprD {X : Cx} (hg : X.A.guards = some []) (hu : X.A.units + 64 < cLine) : CallR X (.builtin "repr") (rReprD X.K) := by
  intro pins s0 σ H xs us Q I rel h
  obtain ⟨a, d, rfl, hd, hs, hn, hp, hz, q⟩ := h
  obtain ⟨u, rfl, ru⟩ := vals1 rel
  obtain ⟨as, rd⟩ := Dp.reads I d _ _ hd ru
  have eu : u = Value.ref a := ru
  subst eu
  refine PySem.repr_of_reads' rd hs (fun e => ?_) hg (by omega) (fun _ _ e => e) (fun h' t tk k => ⟨.str _, H, I.kept k, ⟨_, rfl⟩, q⟩) hz
  rw [hn] at e; cases e
theorem piled_cons (t : Str) (r : List Str) : piled (t :: r) = t.length + 2 + piled r := by simp [piled]
theorem textFrom_up : ∀ (ts : List Str) (k : Nat) (acc : Str), (textFrom k acc ts).length ≤ acc.length + piled ts
  | [], k, acc => by show acc.length ≤ _; omega
  | t :: r, k, acc => by
    have ih := textFrom_up r (k + 1) (acc ++ (if k > 0 then ", " else "" : String) ++ t)
    have e : (acc ++ (if k > 0 then ", " else "" : String) ++ t).length ≤ acc.length + 2 + t.length := by
      simp only [strLen_append]
      have : ((if k > 0 then ", " else "" : String) : Str).length ≤ 2 := by split <;> decide
      omega
    rw [piled_cons]
    show (textFrom (k + 1) _ r).length ≤ (_ : Nat)
    omega
theorem listText_up (ts : List Str) : (listText ts).length ≤ piled ts + 2 := by
  have h := textFrom_up ts 0 "["
  unfold listText
  rw [strLen_append]
  have e1 : (("[" : String) : Str).length = 1 := rfl
  have e2 : (("]" : String) : Str).length = 1 := rfl
  omega
theorem tupleText_up (ts : List Str) : (tupleText ts).length ≤ piled ts + 3 := by
  unfold tupleText
  simp only [strLen_append]
  have e1 : (("(" : String) : Str).length = 1 := rfl
  have e3 : ((if ts.length == 1 then ",)" else ")" : String) : Str).length ≤ 2 := by split <;> decide
  have e2 : (Str.join ", " ts).length ≤ piled ts := by
    by_cases h : ts = []
    · subst h; exact Nat.zero_le _
    · have := join_length_add ts h; omega
  have e1' : ("(" : Str).length = 1 := rfl
  omega
mutual
/-- so long a text at most -/
def D.shb : D → Nat
  | .bl _ => 5
  | .int _ => 1930
  | .str x => 10 * x.length + 2
  | .tup l => D.shbL l + 3
  | .lst l => D.shbL l + 3
  | _ => 4
def D.shbL : List D → Nat
  | [] => 0
  | d :: r => D.shb d + 2 + D.shbL r
end
mutual
def D.shw : D → Bool
  | .int i => decide (i.natAbs < 2 ^ 200)
  | .str x => PySem.PyData.strOk x
  | .tup l => D.shwL l
  | .lst l => D.shwL l
  | .non => true
  | .bl _ => true
  | _ => false
def D.shwL : List D → Bool
  | [] => true
  | d :: r => D.shw d && D.shwL r
end
theorem log_of {i : Int} (h : i.natAbs < 2 ^ 200) : i.natAbs.log2 < 1920 := Nat.lt_of_lt_of_le (PySem.Flt.log2_lt_of (by decide) h) (by decide)
mutual
theorem D.shown_of : ∀ d : D, D.shw d = true → d.py.showable = true ∧ d.pur = true ∧ d.py.shown.length ≤ d.shb
  | .non, _ => ⟨rfl, rfl, by show ("None" : Str).length ≤ 4; decide⟩
  | .bl b, _ => ⟨rfl, rfl, by cases b <;> (show ((_ : String) : Str).length ≤ 5) <;> decide⟩
  | .int i, h => by
    have h1 := log_of (of_decide_eq_true h)
    refine ⟨decide_eq_true h1, rfl, ?_⟩
    have := int_text_length_le (k := 1920) (by decide) h1
    show (Str.ofString (toString i)).length ≤ 1930
    rw [PySem.ofString_length]; omega
  | .str x, h => by
    refine ⟨rfl, h, ?_⟩
    refine StrLaws.reprText_len x fun c hc => ?_
    have hs : PySem.PyData.strOk x = true := h
    unfold PySem.PyData.strOk at hs
    have := (Array.all_eq_true_iff_forall_mem.mp hs) c (by simpa using hc)
    have := of_decide_eq_true this
    omega
  | .tup l, h => by
    obtain ⟨h1, h2, h3⟩ := D.shown_ofL l h
    refine ⟨h1, h2, ?_⟩
    have := tupleText_up (PyData.shownAll (D.pyL l))
    show (tupleText (PyData.shownAll (D.pyL l))).length ≤ D.shbL l + 3
    omega
  | .lst l, h => by
    obtain ⟨h1, h2, h3⟩ := D.shown_ofL l h
    refine ⟨h1, h2, ?_⟩
    have := listText_up (PyData.shownAll (D.pyL l))
    show (listText (PyData.shownAll (D.pyL l))).length ≤ D.shbL l + 3
    omega
theorem D.shown_ofL : ∀ l : List D, D.shwL l = true → PyData.showableAll (D.pyL l) = true ∧ D.purL l = true ∧ piled (PyData.shownAll (D.pyL l)) ≤ D.shbL l
  | [], _ => ⟨rfl, rfl, Nat.le_refl _⟩
  | d :: r, h => by
    obtain ⟨a, b⟩ := Bool.and_eq_true_iff.mp (show (D.shw d && D.shwL r) = true from h)
    obtain ⟨a1, a2, a3⟩ := D.shown_of d a
    obtain ⟨b1, b2, b3⟩ := D.shown_ofL r b
    refine ⟨?_, ?_, ?_⟩
    · show (d.py.showable && PyData.showableAll (D.pyL r)) = true
      rw [a1, b1]; rfl
    · show (D.pur d && D.purL r) = true
      rw [a2, b2]; rfl
    · show piled (d.py.shown :: PyData.shownAll (D.pyL r)) ≤ D.shb d + 2 + D.shbL r
      rw [piled_cons]; omega
end
def D.text (d : D) : Str := d.py.shown
section
variable {c : Cn} {q : List Sl} {P : D → Prop}
theorem cb_reprT {l : List D} (h : (D.shw (.tup l) && decide (D.dep (.tup l) ≤ 60) && decide (D.shb (.tup l) ≤ 1000000)) = true) (k : P (.str (D.text (.tup l)))) : cbD c (rReprD c.K) [.tup l] P := fun G H vs o a Q hq => by
  obtain ⟨h, h3⟩ := Bool.and_eq_true_iff.mp h
  obtain ⟨h1, h2⟩ := Bool.and_eq_true_iff.mp h
  obtain ⟨s1, s2, s3⟩ := D.shown_of _ h1
  obtain ⟨v, rfl, i⟩ := IsL.one_of a
  have dp := Is.dp o.sub (.tup l) s2 i
  obtain ⟨p, xs, rfl, _⟩ := i
  exact ⟨p, _, rfl, dp, s1, PyData.hasDict_of_canLay _ (D.lay _ s2), by rw [D.deq]; exact of_decide_eq_true h2, Nat.le_trans s3 (Nat.le_trans (of_decide_eq_true h3) (by decide)), hq _ _ _ _ k (Stp.refl o) rfl⟩
theorem cb_reprL {l : List D} (h : (D.shw (.lst l) && decide (D.dep (.lst l) ≤ 60) && decide (D.shb (.lst l) ≤ 1000000)) = true) (k : P (.str (D.text (.lst l)))) : cbD c (rReprD c.K) [.lst l] P := fun G H vs o a Q hq => by
  obtain ⟨h, h3⟩ := Bool.and_eq_true_iff.mp h
  obtain ⟨h1, h2⟩ := Bool.and_eq_true_iff.mp h
  obtain ⟨s1, s2, s3⟩ := D.shown_of _ h1
  obtain ⟨v, rfl, i⟩ := IsL.one_of a
  have dp := Is.dp o.sub (.lst l) s2 i
  obtain ⟨p, xs, rfl, _⟩ := i
  exact ⟨p, _, rfl, dp, s1, PyData.hasDict_of_canLay _ (D.lay _ s2), by rw [D.deq]; exact of_decide_eq_true h2, Nat.le_trans s3 (Nat.le_trans (of_decide_eq_true h3) (by decide)), hq _ _ _ _ k (Stp.refl o) rfl⟩
/-- texts alike -/
theorem od_eqS {x : Str} (k : P (.bl true)) : opD c rEq (.str x) (.str x) P := fun G H vx vy o a b Q hq => by
  cases (show vx = V.str x from a)
  cases (show vy = V.str x from b)
  refine ⟨rfl, ?_⟩
  rw [decide_eq_true rfl]
  exact hq _ _ _ _ k (Stp.refl o) rfl
theorem od_neS {x : Str} (k : P (.bl false)) : opD c rNe (.str x) (.str x) P := fun G H vx vy o a b Q hq => by
  cases (show vx = V.str x from a)
  cases (show vy = V.str x from b)
  refine ⟨rfl, ?_⟩
  rw [decide_eq_true rfl]
  exact hq _ _ _ _ k (Stp.refl o) rfl
end
end Ez

set_option Elab.async false
set_option linter.all false
namespace Ez
open L2 PySem PyProof.Rows PySem.Spec
/-! ### defs that print lists: nothing is being printed around them -/
structure FnG (P : Program) (w : World) (K : PySem.W.Frag) (mg : Str → Option Value) (base : Heap) (k : Nat) (f : Addr) (fd : FuncData) (ps : List Str) (sp : Sp) : Prop where
  size : ∀ vs H Q E, sp vs H Q E → vs.length = ps.length
  go : ∀ (A : Around) (outer : List Env) (s : Shared) (H : Hp) (args : Args) (us : List Value) (vs : List V) (Q : VK) (E : XK), Room k A → A.guards = some [] → Env0 P w K mg base A outer s H →
    BindsTo s fd args (ps.zip us) → Vals vs us → sp vs H Q E → codeAny (model P w) A (.call (.ref f) args) (CR (L2N.CX P w) outer P w H s Q E) s
section
variable {P : Program} {w : World} {K : PySem.W.Frag} {mg : Str → Option Value} {base : Heap} {sp : Sp} {ps : List Str} {k : Nat}
theorem fnG_of {x qual : Str} {st : Stmt} {f : Addr} {fd : FuncData} {N : List Str} (F : Fun K x qual st f fd) (S : FnScope N ps (defScope st)) (len : ∀ vs H Q E, sp vs H Q E → vs.length = ps.length)
    (body : ∀ (cdv : Value) (A : Around) (outer : List Env) (s : Shared) (H : Hp) (vs : List V) (Q : VK) (E : XK), A.guards = some [] → Room k (A.deeper (envOfC qual (defScope st) s.heap.objs.size f cdv)) → sp vs H Q E →
      ∃ t, PSs (cxOf (L2N.CX P w) P w K mg base N qual (defScope st) f cdv A outer s H E) (defBody st) t ∧ t ⟨fun _ h => Q .non h, Q, fun _ _ => False, fun _ _ => False⟩ (start N vs) H) : FnG P w K mg base (k + 1) f fd ps sp := by
  refine ⟨len, ?_⟩
  intro A outer s H args us vs Q E room gs env bound rel h
  obtain ⟨oc, od, kV, doc, pm, an, cdv, ct, sl, eq, look, code⟩ := F.ex
  subst eq
  have up : ∀ b o, base.get? b = some o → s.heap.get? b = some o := fun b o e => (env.bs b o e).1
  have kin := env.mod.kin.keeps up
  refine codeAny_call_function room.depth (kin _ _ look) rfl S.co S.gen rfl (PySem.W.codeRec_of kin code) (bound _ _ _ _ ?_)
  refine wpAny_newFunctionEnv_cells S.kind (fun y hy => ?_) ?_
  · rcases S.par y.1 (List.of_mem_zip (a := y.1) (b := y.2) hy).1 with z | z
    · exact Or.inl z
    · exact Or.inr ⟨z, PySem.W.cellsFrom_some _ _ _ (Or.inl z)⟩
  · intro env1 e1 s1 ic
    subst e1
    refine ⟨(env.mod.nolimit.keeps up).keeps ic.toInCall.keep, codeAny_func ?_⟩
    obtain ⟨t, d, p⟩ := body cdv A outer s H vs Q E gs (room.deeper _) h
    refine wpAny_mono (d.run [] s1 (start N vs) H _ (inv_start S room.hd env (len vs H Q E h) rel ic) p) ?_ fun _ _ z => z
    intro fl s2 z
    match fl, z with
    | .ret u, ⟨v, σ2, H2, J, rv, q⟩ => exact ⟨v, H2, J.os, J.bare, J.base, J.hok, rv, q⟩
    | .next, ⟨σ2, H2, J, q⟩ => exact ⟨V.non, H2, J.os, J.bare, J.base, J.hok, rfl, q⟩
    | .brk, ⟨_, _, _, q⟩ => exact q.elim
    | .cont, ⟨_, _, _, q⟩ => exact q.elim
end
section
variable {X : Cx} {k : Nat} {f : Addr} {fd : FuncData} {ps : List Str} {sp : Sp} {dvs : List V} {ds : List Value} {E : XK} {x : Str} {p pos : Pos} {e : Expr} {es : List Expr} {ta : TA}
theorem pe_callG (F : FnG X.prog X.w X.K X.mg X.base k f fd ps sp) (hr : Room k X.A) (gs : X.A.guards = some []) (hg : Gl X x) (hm : X.mg x = some (.ref f)) (hk : PySem.W.keepIn X.K (.ref f) = true) (hb : Binds X.K fd ps ds) (hd : Vals dvs ds) (hx : Passes (L2N.CX X.prog X.w) X E)
    (ha : PA X (e :: es) ta) (hdb : (x == ("__debug__" : Str)) = false := by decide) (he : starEach (e :: es) X.env = (false, eval e X.env) :: starEach es X.env := by rfl) (hpl : (backTo pos (starEach es X.env)).any (·.1) = false := by rfl) :
    PE X (.Call (.Name x p) (e :: es) [] pos) (tCall sp dvs E ta) := by
  constructor
  intro pins s σ H Q I h
  refine wpAny_Call_Name_kw (ld_glob I hg (pos := p) hm ?_ hdb)
  refine PySem.W.callWith_K (h₀ := X.base) I.ok.mod.kin hk (thn (ha.run pos pins s σ H _ I h) ?_) he hpl
  rintro us s1 ⟨vs, H1, J, r, q⟩
  refine ⟨J.kIn, wpAny_call (codeAny_mono (F.go X.A X.stack s1 H1 ⟨us, []⟩ (us ++ ds) (vs ++ dvs) Q E hr gs J.env0 (hb s1 us J.kIn ?_) (r.append hd) q) ?_)⟩
  · rw [← (r.append hd).length]; exact F.size _ _ _ _ q
  · intro res s2 z
    match res, z with
    | .error u, z => exact hx pins σ H1 s1 u s2 J z
    | .ok (.ret u), z => exact J.after z
    | .ok .next, z => exact z.elim
    | .ok .brk, z => exact z.elim
    | .ok .cont, z => exact z.elim
end
end Ez

set_option Elab.async false
set_option linter.all false
namespace Ez
open L2 PySem PyProof.Rows PySem.Spec
section
variable {P : Program} {w : World} {K : KT} {mg mb : Str → Option Value} {k : Nat} {fa a : Addr} {fd : FuncData} {x : Str} {s : Shared} {vs : List Value} {ns : List Int}
abbrev scrO (vs : List Value) : Obj := { cls := .type "list", data := .seq vs.toArray }
/-- the law's call, from a heap T in which the script alone may stand -/
theorem lawG_from {T : Hp} (kx : K.K.In s.heap) (mn : s.heap.Ns mainGlobals mg) (bn : s.heap.Ns builtinsNs mb) (bb : ∀ x : Str, x ≠ "__name__" → mb x = bootBuiltins x) (nl : s.heap.NoLimit) (ng : s.gens = #[])
    (ho : s.heap.get? a = some (scrO vs)) (hr : Room k callerA) (F : ∀ base : Heap, K.K.In base → base.Ns mainGlobals mg → FnG P w K mg base k fa fd [x] (spLaw K)) (bd : ∀ (s : Shared) (u : Value), BindsTo s fd ⟨[u], []⟩ [(x, u)])
    (hz : ns.length ≤ 63) (sq : SqL K T a (ns.map V.int)) (ok : HOk P w T s.heap) (only : ∀ b u, T b = some u → b = a ∧ ∃ o xs, u = HO.frz o (.lst xs)) (out : ∀ u, T a = some u → K.K.lookup a = none) :
    codeAny (model P w) callerA (.call (.ref fa) ⟨[.ref a], []⟩) (fun r s' => r = .ok (.ret (.bool true)) ∧ OldK s.heap s'.heap ∧ s'.os = s.os ∧ AllBare s'.gens) s := by
  have hide : ∀ {b : Addr} {m : Str → Option Value}, s.heap.Ns b m → (hidT s.heap T).Ns b m := by
    rintro b m ⟨o, es, ep, e, d, r⟩
    refine ⟨o, es, ep, hidT_get e ?_, d, r⟩
    match z : T b with
    | none => rfl
    | some u =>
      obtain ⟨z1, _⟩ := only b u z
      subst z1
      rw [ho] at e
      cases e
      cases (show Data.seq vs.toArray _ = Data.dict es ep from d)
  have kin : K.K.In (hidT s.heap T) := by
    intro b o e
    refine hidT_get (kx b o e) ?_
    match z : T b with
    | none => rfl
    | some u =>
      obtain ⟨z1, _⟩ := only b u z
      subst z1
      rw [out u z] at e
      cases e
  have lim : (hidT s.heap T).NoLimit := by
    obtain ⟨mc, l1, l2⟩ := nl
    exact ⟨mc, hide l1, l2⟩
  have env : Env0 P w K mg (hidT s.heap T) callerA [] s T :=
    ⟨rfl, ⟨kin, hide mn, ⟨mb, hide bn, bb⟩, lim⟩, fun b o e => of_hidT e, Nat.le_of_eq (hidT_size _ _), trivial, fun b m => by simp [frs] at m, ok, .of_eq ng⟩
  refine codeAny_mono ((F _ kin (hide mn)).go callerA [] s T ⟨[.ref a], []⟩ [.ref a] [.ref a] (fun v _ => v = .bl true) (fun _ _ _ => False) hr rfl env (bd s (.ref a)) (.cons rfl .nil) (spLaw_of hz sq)) ?_
  intro r s' h
  match r, h with
  | .error e, ⟨_, _, _, _, _, _, _, _, _, _, _, _, z⟩ => exact z.elim
  | .ok .next, h => exact h.elim
  | .ok .brk, h => exact h.elim
  | .ok .cont, h => exact h.elim
  | .ok (.ret u), ⟨v, H', os, bare, un, ok', rv, q⟩ =>
    have q2 : v = .bl true := q
    subst q2
    cases (show u = Value.bool true from rv)
    refine ⟨rfl, OldK.of_keep ?_, os, bare⟩
    intro b o e
    match z : T b with
    | none => exact un.keep b o e z (by simp [frs]) (by simp)
    | some t =>
      obtain ⟨_, ob, xs, zt⟩ := only b t z
      subst zt
      have z3 := (ok' b _ (un.frzs b ob _ z)).1
      have z4 := (ok b _ z).1
      rw [e] at z4
      cases z4
      exact z3
theorem lawG (kx : K.K.In s.heap) (mn : s.heap.Ns mainGlobals mg) (bn : s.heap.Ns builtinsNs mb) (bb : ∀ x : Str, x ≠ "__name__" → mb x = bootBuiltins x) (nl : s.heap.NoLimit) (ng : s.gens = #[])
    (ho : s.heap.get? a = some (scrO vs)) (hi : IntsAre vs ns) (hr : Room k callerA) (F : ∀ base : Heap, K.K.In base → base.Ns mainGlobals mg → FnG P w K mg base k fa fd [x] (spLaw K)) (bd : ∀ (s : Shared) (u : Value), BindsTo s fd ⟨[u], []⟩ [(x, u)])
    (hz : ns.length ≤ 63) :
    codeAny (model P w) callerA (.call (.ref fa) ⟨[.ref a], []⟩) (fun r s' => r = .ok (.ret (.bool true)) ∧ OldK s.heap s'.heap ∧ s'.os = s.os ∧ AllBare s'.gens) s := by
  have vi := vals_ints hi
  have big : ns.length ≤ sizeLine := Nat.le_trans hz (by decide)
  match z : K.K.lookup a with
  | some o =>
    have e := kx a o z
    rw [ho] at e
    cases e
    refine lawG_from (T := fun _ => none) kx mn bn bb nl ng ho hr F bd hz (Or.inr ⟨_, vs.toArray, _, z, rfl, rfl, rfl, ?_, ?_⟩) (fun b u e => nomatch e) (fun b u e => nomatch e) (fun u e => nomatch e)
    · rw [List.size_toArray, hi.length]; exact big
    · simpa using vi
  | none =>
    refine lawG_from (T := fun b => if b = a then some (.frz (scrO vs) (.lst (ns.map V.int))) else none) kx mn bn bb nl ng ho hr F bd hz (Or.inl (Or.inr ⟨scrO vs, if_pos rfl⟩)) (fun b u e => ?_) (fun b u e => ?_) (fun _ _ => z)
    · by_cases hb : b = a
      · subst hb
        cases (if_pos rfl).symm.trans e
        exact ⟨ho, by rw [List.length_map]; exact big, vs, _, vi, ho⟩
      · cases (if_neg hb).symm.trans e
    · by_cases hb : b = a
      · subst hb
        cases (if_pos rfl).symm.trans e
        exact ⟨rfl, _, _, rfl⟩
      · cases (if_neg hb).symm.trans e
end
/-- the end: a law that prints -/
theorem walkG {l : PySem.W.OpenLaw} {n k : Nat} {q : Program} {loose : List Str} {XP : (Str → Option Value) → Heap → Prop} {YP : World → Heap → Prop} {d : DefRec} {K : Params → KT} {x : Str}
    (hn : l.most = some n) (hn2 : n ≤ 63) (hdf : d.params.defaults = []) (hr : Room k callerA) (hY : ∀ (w : World) (h : Heap), YP w h → (K w.params).K.In h)
    (FG : ∀ (w : World) (mg : Str → Option Value) (fa : Addr) (h : Heap), (K w.params).K.In h → h.Ns mainGlobals mg → mg d.name = some (.ref fa) →
      ∃ fd : FuncData, (∀ (s : Shared) (u : Value), BindsTo s fd ⟨[u], []⟩ [(x, u)]) ∧ ∀ base : Heap, (K w.params).K.In base → base.Ns mainGlobals mg → FnG l.prog w (K w.params) mg base k fa fd [x] (spLaw (K w.params))) :
    PySem.W.WalkO q loose XP YP l.row.toRowW d [] (fun g xs => PySem.call g xs) := by
  refine Att.attach_call hn hdf ?_
  intro w s₀ s₁ mg mb fa o pm cd doc a vs ns G Y ho hd hcd hmg hobj hints hlen hg
  obtain ⟨fd, b1, b2⟩ := FG w mg fa _ (hY w _ Y) G.T.g hmg
  exact lawG (hY w _ Y) G.T.g G.T.b G.T.builtins G.T.nolimit hg hobj hints hr b2 b1 (Nat.le_trans hlen hn2)
end Ez

set_option Elab.async false
set_option linter.all false
set_option maxRecDepth 100000
namespace Ez
open L2 PySem PyProof.Rows PySem.Spec
/-! ### what a run may come to: draws are asked from outside -/
inductive Tr (ε α : Type) : Type where
  | ret (a : α)
  | exn (e : ε)
  | bad
  | draw (m : Int) (k : Int → Tr ε α)
namespace Tr
variable {ε ε' α β γ : Type}
noncomputable def bind (t : Tr ε α) (f : α → Tr ε β) : Tr ε β := Tr.rec (motive := fun _ => Tr ε β) f exn bad (fun m _ r => draw m r) t
noncomputable def mapX (g : ε → ε') (t : Tr ε α) : Tr ε' α := Tr.rec (motive := fun _ => Tr ε' α) ret (fun e => exn (g e)) bad (fun m _ r => draw m r) t
/-- nothing may be let out -/
noncomputable def noX (t : Tr ε α) : Tr ε α := Tr.rec (motive := fun _ => Tr ε α) ret (fun _ => bad) bad (fun m _ r => draw m r) t
/-- what is let out is caught -/
noncomputable def catchX (t : Tr ε α) (f : ε → Tr ε' α) : Tr ε' α := Tr.rec (motive := fun _ => Tr ε' α) ret f bad (fun m _ r => draw m r) t
def All (hd : Prop) (P : α → Prop) (X : ε → Prop) : Tr ε α → Prop
  | ret a => P a
  | exn e => X e
  | bad => False
  | draw m k => hd ∧ 0 < m ∧ m.natAbs < 2 ^ 8000 ∧ ∀ v, 0 ≤ v → v < m → (k v).All hd P X
def Ret (b : α) : Tr ε α → Prop
  | ret a => a = b
  | exn _ => False
  | bad => False
  | draw m k => ∃ v, 0 ≤ v ∧ v < m ∧ (k v).Ret b
def Exn (x : ε) : Tr ε α → Prop
  | ret _ => False
  | exn e => e = x
  | bad => False
  | draw m k => ∃ v, 0 ≤ v ∧ v < m ∧ (k v).Exn x
variable {hd : Prop} {P P' : α → Prop} {X X' : ε → Prop}
theorem All.bind {Q : β → Prop} {f : α → Tr ε β} : ∀ {t : Tr ε α}, All hd Q X (t.bind f) → All hd (fun a => All hd Q X (f a)) X t
  | ret a, h => h
  | exn e, h => h
  | bad, h => h
  | draw m k, ⟨a, b, b', c⟩ => ⟨a, b, b', fun v v0 v1 => All.bind (t := k v) (c v v0 v1)⟩
theorem All.to_bind {Q : β → Prop} {f : α → Tr ε β} : ∀ {t : Tr ε α}, All hd (fun a => All hd Q X (f a)) X t → All hd Q X (t.bind f)
  | ret a, h => h
  | exn e, h => h
  | bad, h => h
  | draw m k, ⟨a, b, b', c⟩ => ⟨a, b, b', fun v v0 v1 => All.to_bind (t := k v) (c v v0 v1)⟩
theorem All.mono (hP : ∀ a, P a → P' a) (hX : ∀ e, X e → X' e) : ∀ {t : Tr ε α}, All hd P X t → All hd P' X' t
  | ret a, h => hP a h
  | exn e, h => hX e h
  | bad, h => h
  | draw m k, ⟨a, b, b', c⟩ => ⟨a, b, b', fun v v0 v1 => All.mono hP hX (t := k v) (c v v0 v1)⟩
theorem All.and : ∀ {t : Tr ε α}, All hd P X t → All hd P' X' t → All hd (fun a => P a ∧ P' a) (fun e => X e ∧ X' e) t
  | ret a, h, h' => ⟨h, h'⟩
  | exn e, h, h' => ⟨h, h'⟩
  | bad, h, _ => h
  | draw m k, ⟨a, b, b', c⟩, ⟨_, _, _, c'⟩ => ⟨a, b, b', fun v v0 v1 => All.and (t := k v) (c v v0 v1) (c' v v0 v1)⟩
theorem All.of_ret : ∀ {t : Tr ε α} {b : α}, All hd P X t → Ret b t → P b
  | ret a, b, h, e => e ▸ h
  | draw m k, b, ⟨_, _, _, c⟩, ⟨v, v0, v1, e⟩ => All.of_ret (t := k v) (c v v0 v1) e
theorem All.of_exn : ∀ {t : Tr ε α} {x : ε}, All hd P X t → Exn x t → X x
  | exn a, b, h, e => e ▸ h
  | draw m k, b, ⟨_, _, _, c⟩, ⟨v, v0, v1, e⟩ => All.of_exn (t := k v) (c v v0 v1) e
theorem All.self : ∀ {t : Tr ε α}, All hd P X t → All hd (fun b => Ret b t) (fun x => Exn x t) t
  | ret a, _ => rfl
  | exn e, _ => rfl
  | bad, h => h
  | draw m k, ⟨a, b, b', c⟩ => ⟨a, b, b', fun v v0 v1 => All.mono (fun _ z => ⟨v, v0, v1, z⟩) (fun _ z => ⟨v, v0, v1, z⟩) (All.self (c v v0 v1))⟩
theorem All.of_mapX {g : ε → ε'} {Y : ε' → Prop} : ∀ {t : Tr ε α}, All hd P Y (t.mapX g) → All hd P (fun e => Y (g e)) t
  | ret a, h => h
  | exn e, h => h
  | bad, h => h
  | draw m k, ⟨a, b, b', c⟩ => ⟨a, b, b', fun v v0 v1 => All.of_mapX (t := k v) (c v v0 v1)⟩
theorem All.to_mapX {g : ε → ε'} {Y : ε' → Prop} : ∀ {t : Tr ε α}, All hd P (fun e => Y (g e)) t → All hd P Y (t.mapX g)
  | ret a, h => h
  | exn e, h => h
  | bad, h => h
  | draw m k, ⟨a, b, b', c⟩ => ⟨a, b, b', fun v v0 v1 => All.to_mapX (t := k v) (c v v0 v1)⟩
theorem All.of_noX : ∀ {t : Tr ε α}, All hd P X t.noX → All hd P (fun _ => False) t
  | ret a, h => h
  | exn e, h => h
  | bad, h => h
  | draw m k, ⟨a, b, b', c⟩ => ⟨a, b, b', fun v v0 v1 => All.of_noX (t := k v) (c v v0 v1)⟩
theorem All.to_noX : ∀ {t : Tr ε α}, All hd P (fun _ => False) t → All hd P X t.noX
  | ret a, h => h
  | exn e, h => h
  | bad, h => h
  | draw m k, ⟨a, b, b', c⟩ => ⟨a, b, b', fun v v0 v1 => All.to_noX (t := k v) (c v v0 v1)⟩
theorem All.catch {f : ε → Tr ε' α} {Y : ε' → Prop} : ∀ {t : Tr ε α}, All hd P Y (t.catchX f) → All hd P (fun e => All hd P Y (f e)) t
  | ret a, h => h
  | exn e, h => h
  | bad, h => h
  | draw m k, ⟨a, b, b', c⟩ => ⟨a, b, b', fun v v0 v1 => All.catch (t := k v) (c v v0 v1)⟩
theorem All.to_catch {f : ε → Tr ε' α} {Y : ε' → Prop} : ∀ {t : Tr ε α}, All hd P (fun e => All hd P Y (f e)) t → All hd P Y (t.catchX f)
  | ret a, h => h
  | exn e, h => h
  | bad, h => h
  | draw m k, ⟨a, b, b', c⟩ => ⟨a, b, b', fun v v0 v1 => All.to_catch (t := k v) (c v v0 v1)⟩
end Tr
/-- an error let out: its class, its fields -/
structure Xn where
  c : Nat
  ds : List D
abbrev R := Tr Xn D
/-- what a slot holds -/
inductive Sv where
  | unk
  | dat (d : D)
  | own (ds : List D)
  | exc (c : Nat) (ds : List D)
abbrev Vars := List Sv
inductive Op2 | add | sub | mul | div | mod | pow | shl | shr | and | or | xor | lt | le | gt | ge | eq | ne | inn | nin | isB | isnB | ix
inductive Bi | len | abs | int | gcd2 | gcd3 | lcm2 | min2 | max2 | list | tuple | sorted | repr | sum
inductive BT | int | bool | str | tuple | list
inductive ItK | seq | rng1 | rng2 | enum | zip
inductive Tg
  | name (i : Nat)
  | tup (t : Tg)
  | nil
  | cons (a b : Tg)
inductive EE
  | var (i : Nat)
  | lit (d : D)
  | con (k : Nat)
  | fnv (f : Nat)
  | clv (c : Nat)
  | op (o : Op2) (a b : EE)
  | neg (a : EE)
  | and (a b : EE)
  | or (a b : EE)
  | not (a : EE)
  | notT (a : EE)
  | isN (a : EE)
  | notN (a : EE)
  | tru (a : EE)
  | chain (o o' : Op2) (a b c : EE)
  | ifx (t a b : EE)
  | nil
  | cons (a b : EE)
  | star (a b : EE)
  | tup (a : EE)
  | lst (a : EE)
  | slc (a lo hi : EE)
  | nop
  | part (a : EE)
  | call (f : Nat) (sk : Bool) (dvs : List V) (a : EE)
  | callV (i : Nat) (sk : Bool) (a : EE)
  | take (a : EE)
  | bi (b : Bi) (a : EE)
  | isi (a : EE) (t : BT)
  | isi2 (a : EE) (t u : BT)
  | isC (a : EE) (c : Nat)
  | lc (k : ItK) (it : EE) (tg : Tg) (t e : EE) (vs : List Nat)
  | yes
  | eqR (n : Bool) (a b : EE)
  | xf (i : Nat) (c : Nat) (f : Str)
  | fld (a : EE) (f : Str)
  | lenO (i : Nat)
  | tupO (i : Nat)
  | ixO (i : Nat) (a : EE)
inductive SS
  | nop
  | seq (a b : SS)
  | asg (tg : Tg) (e : EE)
  | asgO (i : Nat) (e : EE)
  | par (i j : Nat) (a : EE)
  | app (i : Nat) (e : EE)
  | setO (i : Nat) (ix e : EE)
  | ret (e : EE)
  | retN
  | ite (t : EE) (a b : SS)
  | for (k : ItK) (it : EE) (tg : Tg) (b : SS)
  | whl (t : EE) (b : SS)
  | rse (c : Nat) (a : EE)
  | try (b : SS) (h : SS)
  | hnil
  | hcons (c : Nat) (i : Option Nat) (b : SS) (r : SS)
  | drop (e : EE)
  | keep (i : Nat) (s : SS)
  | brk
  | cnt
/-- what a run leans on -/
structure Pgm where
  call : Nat → List D → R
  con : Nat → D
  fld : Nat → List Str
  xf : Nat → List Str
  sub : Nat → Nat → Option Bool
  /-- how often a while may turn -/
  most : Nat
  /-- defs that a name may hold -/
  ok : Nat → Bool
open Tr
def natOk (i : Int) (n : Nat) : Bool := decide (i.natAbs.log2 < n)
def o2_add : D → D → R
  | .int i, .int j => ret (.int (i + j))
  | .lst a, .lst b => if a.length + b.length ≤ 10000 then ret (.lst (a ++ b)) else bad
  | .tup a, .tup b => if a.length + b.length ≤ 10000 then ret (.tup (a ++ b)) else bad
  | _, _ => bad
def o2_sub : D → D → R
  | .int i, .int j => ret (.int (i - j))
  | _, _ => bad
def o2_mul : D → D → R
  | .int i, .int j => if i.natAbs.log2 + j.natAbs.log2 + 130 < 1000000 then ret (.int (i * j)) else bad
  | .lst a, .int k => if a.length * k.toNat ≤ 10000 ∧ k ≤ 10000 ∧ -10000 ≤ k then ret (.lst (List.replicate k.toNat a).flatten) else bad
  | _, _ => bad
def o2_div : D → D → R
  | .int i, .int j => if j ≠ 0 ∧ j.natAbs.log2 < 9000 then ret (.int (i.fdiv j)) else bad
  | _, _ => bad
def o2_mod : D → D → R
  | .int i, .int j => if 0 < j then ret (.int (i % j)) else bad
  | _, _ => bad
def o2_pow : D → D → R
  | .int i, .int j => if 0 ≤ j ∧ j ≤ 1000000 ∧ i.natAbs < 2 ^ 64 then ret (.int (i ^ j.toNat)) else bad
  | _, _ => bad
def o2_shl : D → D → R
  | .int i, .int j => if 0 ≤ j ∧ j ≤ 1000000 ∧ i.natAbs < 2 ^ 64 then ret (.int (i * 2 ^ j.toNat)) else bad
  | _, _ => bad
def o2_shr : D → D → R
  | .int i, .int j => if 0 ≤ j then ret (.int (i / 2 ^ j.toNat)) else bad
  | _, _ => bad
def o2_and : D → D → R
  | .int i, .int j => ret (.int (Builtin.bitAnd i j))
  | _, _ => bad
def o2_or : D → D → R
  | .int i, .int j => ret (.int (Builtin.bitOr i j))
  | _, _ => bad
def o2_xor : D → D → R
  | .int i, .int j => ret (.int (Builtin.bitXor i j))
  | _, _ => bad
def o2_lt : D → D → R
  | .int i, .int j => ret (.bl (decide (i < j)))
  | _, _ => bad
def o2_le : D → D → R
  | .int i, .int j => ret (.bl (decide (i ≤ j)))
  | _, _ => bad
def o2_gt : D → D → R
  | .int i, .int j => ret (.bl (decide (i > j)))
  | _, _ => bad
def o2_ge : D → D → R
  | .int i, .int j => ret (.bl (decide (i ≥ j)))
  | _, _ => bad
def o2_eq : D → D → R
  | x, y => if (D.cmp x && D.cmp y) = true then ret (.bl (D.eqv x y)) else bad
def o2_ne : D → D → R
  | x, y => if (D.cmp x && D.cmp y) = true then ret (.bl (!D.eqv x y)) else bad
def o2_inn : D → D → R
  | x, .lst l => if (D.cmp x && D.cmp (.lst l)) = true then ret (.bl (l.any fun z => D.eqv z x)) else bad
  | x, .tup l => if (D.cmp x && D.cmp (.tup l)) = true then ret (.bl (l.any fun z => D.eqv z x)) else bad
  | _, _ => bad
def o2_nin : D → D → R
  | x, .lst l => if (D.cmp x && D.cmp (.lst l)) = true then ret (.bl (!l.any fun z => D.eqv z x)) else bad
  | x, .tup l => if (D.cmp x && D.cmp (.tup l)) = true then ret (.bl (!l.any fun z => D.eqv z x)) else bad
  | _, _ => bad
def o2_isB : D → D → R
  | .bl a, .bl b => ret (.bl (decide (a = b)))
  | _, _ => bad
def o2_isnB : D → D → R
  | .bl a, .bl b => ret (.bl (!decide (a = b)))
  | _, _ => bad
def o2_ix : D → D → R
  | .tup l, .int i => match atI l i with | some d => ret d | none => bad
  | .lst l, .int i => match atI l i with | some d => ret d | none => bad
  | _, _ => bad
def op2 (o : Op2) : D → D → R := match o with
  | .add => o2_add
  | .sub => o2_sub
  | .mul => o2_mul
  | .div => o2_div
  | .mod => o2_mod
  | .pow => o2_pow
  | .shl => o2_shl
  | .shr => o2_shr
  | .and => o2_and
  | .or => o2_or
  | .xor => o2_xor
  | .lt => o2_lt
  | .le => o2_le
  | .gt => o2_gt
  | .ge => o2_ge
  | .eq => o2_eq
  | .ne => o2_ne
  | .inn => o2_inn
  | .nin => o2_nin
  | .isB => o2_isB
  | .isnB => o2_isnB
  | .ix => o2_ix
def BT.name : BT → String
  | .int => "int" | .bool => "bool" | .str => "str" | .tuple => "tuple" | .list => "list"
def isiD : D → BT → Option Bool
  | .non, _ => some false
  | .bl _, .int => some true
  | .bl _, .bool => some true
  | .bl _, _ => some false
  | .int _, .int => some true
  | .int _, _ => some false
  | .str _, .str => some true
  | .str _, _ => some false
  | .tup _, .tuple => some true
  | .tup _, _ => some false
  | .lst _, .list => some true
  | .lst _, _ => some false
  | _, _ => none
def intsOf : List D → Option (List Int)
  | [] => some []
  | .int i :: r => (intsOf r).map (i :: ·)
  | _ => none
def isInt : D → Bool
  | .int _ => true
  | _ => false
def insI (x : Int) : List Int → List Int
  | [] => [x]
  | y :: r => if x ≤ y then x :: y :: r else y :: insI x r
def lexI : List Int → List Int → Bool
  | [], [] => false
  | [], _ :: _ => true
  | _ :: _, [] => false
  | a :: l, b :: m => bif decide (a = b) then lexI l m else decide (a < b)
def insX (x : List Int) : List (List Int) → List (List Int)
  | [] => [x]
  | y :: r => bif lexI y x then y :: insX x r else x :: y :: r
def sortX : List (List Int) → List (List Int)
  | [] => []
  | x :: r => insX x (sortX r)
def tupI (n : List Int) : D := .tup (n.map D.int)
def tupsOf : List D → Option (List (List Int))
  | [] => some []
  | .tup l :: r => match intsOf l with
    | some n => (tupsOf r).map (n :: ·)
    | none => none
  | _ => none
def sameLen : List (List Int) → Bool
  | [] => true
  | x :: r => decide (1 ≤ x.length) && r.all fun y => decide (y.length = x.length)
def sortI : List Int → List Int
  | [] => []
  | x :: r => insI x (sortI r)
mutual
/-- the very same datum -/
def D.same : D → D → Bool
  | .non, .non => true
  | .bl a, .bl b => a == b
  | .int a, .int b => decide (a = b)
  | .str a, .str b => decide (a = b)
  | .tup a, .tup b => D.sameL a b
  | .lst a, .lst b => D.sameL a b
  | _, _ => false
def D.sameL : List D → List D → Bool
  | [], [] => true
  | a :: r, b :: s => D.same a b && D.sameL r s
  | _, _ => false
end
def D.repOk (d : D) : Bool := D.shw d && decide (D.dep d ≤ 60) && decide (D.shb d ≤ 1000000)
def bi_lenD : List D → R
  | [.lst l] => ret (.int l.length)
  | [.tup l] => ret (.int l.length)
  | [.scr l] => ret (.int l.length)
  | _ => bad
def bi_absD : List D → R
  | [.int i] => ret (.int (if i < 0 then -i else i))
  | _ => bad
def bi_intD : List D → R
  | [.int i] => ret (.int i)
  | _ => bad
def bi_gcd2D : List D → R
  | [.int i, .int j] => ret (.int ((Nat.gcd i.natAbs j.natAbs : Nat) : Int))
  | _ => bad
def bi_gcd3D : List D → R
  | [.int i, .int j, .int k] => ret (.int ((Nat.gcd (Nat.gcd i.natAbs j.natAbs) k.natAbs : Nat) : Int))
  | _ => bad
def bi_lcm2D : List D → R
  | [.int i, .int j] => if i.natAbs.log2 < 4000 ∧ j.natAbs.log2 < 4000 then ret (.int ((Nat.lcm i.natAbs j.natAbs : Nat) : Int)) else bad
  | _ => bad
def seqL : D → Option (List D)
  | .tup l => some l
  | .lst l => some l
  | _ => none
def bi_min2D : List D → R
  | [.int i, .int j] => ret (.int (if j < i then j else i))
  | _ => bad
def bi_max2D : List D → R
  | [.int i, .int j] => ret (.int (if j > i then j else i))
  | _ => bad
def bi_listD : List D → R
  | [.tup l] => ret (.lst l)
  | [.lst l] => ret (.lst l)
  | _ => bad
def bi_tupleD : List D → R
  | [.tup l] => ret (.tup l)
  | [.lst l] => ret (.tup l)
  | _ => bad
def bi_sortedD : List D → R
  | [.lst l] => match intsOf l with
    | some ns => if ns.length < 64 then ret (.lst ((sortI ns).map D.int)) else bad
    | none => match tupsOf l with
      | some ts => if sameLen ts = true then ret (.lst ((sortX ts).map tupI)) else bad
      | none => bad
  | _ => bad
def bi_reprD : List D → R
  | _ => bad
def bi_sumD : List D → R
  | [.lst l] => match intsOf l with | some ns => ret (.int ns.sum) | none => bad
  | _ => bad
def biD (b : Bi) : List D → R := match b with
  | .len => bi_lenD
  | .abs => bi_absD
  | .int => bi_intD
  | .gcd2 => bi_gcd2D
  | .gcd3 => bi_gcd3D
  | .lcm2 => bi_lcm2D
  | .min2 => bi_min2D
  | .max2 => bi_max2D
  | .list => bi_listD
  | .tuple => bi_tupleD
  | .sorted => bi_sortedD
  | .repr => bi_reprD
  | .sum => bi_sumD
def getV (ρ : Vars) (i : Nat) : R := match ρ[i]? with
  | some (.dat d) => ret d
  | _ => bad
def getO (ρ : Vars) (i : Nat) : R := match ρ[i]? with
  | some (.dat d) => ret d
  | some (.own ds) => ret (.lst ds)
  | _ => bad
def Tg.len : Tg → Nat
  | .cons _ b => b.len + 1
  | _ => 0
/-- true: of the parts of a target -/
def evalG : Bool → Tg → D → Vars → Option Vars
  | false, .name i, d, ρ => if i < ρ.length then some (ρ.set i (.dat d)) else none
  | false, .tup t, .tup l, ρ => if l.length = t.len then evalG true t (.tup l) ρ else none
  | false, .tup t, .lst l, ρ => if l.length = t.len then evalG true t (.tup l) ρ else none
  | true, .nil, .tup [], ρ => some ρ
  | true, .cons a b, .tup (x :: xs), ρ => match evalG false a x ρ with | some ρ' => evalG true b (.tup xs) ρ' | none => none
  | _, _, _, _ => none
def Tg.inn : Tg → List Nat → Bool
  | .name i, vs => vs.contains i
  | .tup t, vs => t.inn vs
  | .nil, _ => true
  | .cons a b, vs => a.inn vs && b.inn vs
def wipeV (ρ : Vars) : List Nat → Vars
  | [] => ρ
  | v :: vs => (wipeV ρ vs).set v .unk
def enumL : Nat → List D → List D
  | _, [] => []
  | n, x :: r => .tup [.int n, x] :: enumL (n + 1) r
def zipL : List D → List D → List D
  | x :: xs, y :: ys => .tup [x, y] :: zipL xs ys
  | _, _ => []
def rngL (lo : Int) : Nat → List D
  | 0 => []
  | n + 1 => .int lo :: rngL (lo + 1) n
/-- the things that are walked -/
def itemsOf : ItK → D → Option (List D)
  | .seq, .lst l => some l
  | .seq, .tup l => some l
  | .seq, .scr l => some l
  | .rng1, .tup [.int n] => if -10000 ≤ n ∧ n ≤ 10000 then some (rngL 0 n.toNat) else none
  | .rng2, .tup [.int a, .int b] => if 0 ≤ a ∧ a ≤ 10000 ∧ -10000 ≤ b ∧ b ≤ 10000 then some (rngL a (b - a).toNat) else none
  | _, _ => none
noncomputable def lcGo (f : D → Tr Xn (Option D)) : List D → List D → R
  | [], acc => ret (.lst acc)
  | x :: xs, acc => (f x).bind fun
    | some y => lcGo f xs (acc ++ [y])
    | none => lcGo f xs acc
def truD : D → Option Bool
  | .lst l => some (!l.isEmpty)
  | .tup l => some (!l.isEmpty)
  | .non => some false
  | .bl b => some b
  | .int i => some (!(i == 0))
  | _ => none
def toB (d : D) : Tr Xn Bool := match d with
  | .bl b => ret b
  | _ => bad
def optI : D → Option (Option Int)
  | .int i => some (some i)
  | .non => some none
  | _ => none
def slcT : D → Option Int → Option Int → R
  | .lst ds, l, h => ret (.lst (cutD ds l h))
  | .tup ds, l, h => ret (.tup (cutD ds l h))
  | _, _, _ => bad
noncomputable def ev_var (Γ : Pgm) (i : Nat)  (ρ : Vars) : R := getV ρ i
noncomputable def ev_lit (Γ : Pgm) (d : D)  (_ : Vars) : R := match d with
    | .non => ret .non
    | .bl b => ret (.bl b)
    | .int i => ret (.int i)
    | .str x => ret (.str x)
    | _ => bad
noncomputable def ev_con (Γ : Pgm) (k : Nat)  (_ : Vars) : R := ret (Γ.con k)
noncomputable def ev_fnv (Γ : Pgm) (f : Nat)  (_ : Vars) : R := ret (.fn f)
noncomputable def ev_clv (Γ : Pgm) (c : Nat)  (_ : Vars) : R := ret (.cls c)
noncomputable def ev_op (Γ : Pgm) (o : Op2) (a : EE) (b : EE) (r_a : Vars → R) (r_b : Vars → R) (ρ : Vars) : R := (r_a ρ).bind fun x => (r_b ρ).bind fun y => op2 o x y
noncomputable def ev_neg (Γ : Pgm) (a : EE) (r_a : Vars → R) (ρ : Vars) : R := (r_a ρ).bind fun | .int i => ret (.int (-i)) | _ => bad
noncomputable def ev_and (Γ : Pgm) (a : EE) (b : EE) (r_a : Vars → R) (r_b : Vars → R) (ρ : Vars) : R := (r_a ρ).bind fun | .bl true => r_b ρ | .bl false => ret (.bl false) | _ => bad
noncomputable def ev_or (Γ : Pgm) (a : EE) (b : EE) (r_a : Vars → R) (r_b : Vars → R) (ρ : Vars) : R := (r_a ρ).bind fun | .bl false => r_b ρ | .bl true => ret (.bl true) | _ => bad
noncomputable def ev_not (Γ : Pgm) (a : EE) (r_a : Vars → R) (ρ : Vars) : R := (r_a ρ).bind fun | .bl b => ret (.bl (!b)) | _ => bad
noncomputable def ev_notT (Γ : Pgm) (a : EE) (r_a : Vars → R) (ρ : Vars) : R := (r_a ρ).bind fun x => match truD x with | some b => ret (.bl (!b)) | none => bad
noncomputable def ev_isN (Γ : Pgm) (a : EE) (r_a : Vars → R) (ρ : Vars) : R := (r_a ρ).bind fun x => ret (.bl x.isNon)
noncomputable def ev_notN (Γ : Pgm) (a : EE) (r_a : Vars → R) (ρ : Vars) : R := (r_a ρ).bind fun x => ret (.bl (!x.isNon))
noncomputable def ev_tru (Γ : Pgm) (a : EE) (r_a : Vars → R) (ρ : Vars) : R := (r_a ρ).bind fun x => match truD x with | some b => ret (.bl b) | none => bad
noncomputable def ev_chain (Γ : Pgm) (o : Op2) (o' : Op2) (a : EE) (b : EE) (c : EE) (r_a : Vars → R) (r_b : Vars → R) (r_c : Vars → R) (ρ : Vars) : R := (r_a ρ).bind fun x => (r_b ρ).bind fun y => (op2 o x y).bind fun
    | .bl true => (r_c ρ).bind fun z => op2 o' y z
    | .bl false => ret (.bl false)
    | _ => bad
noncomputable def ev_ifx (Γ : Pgm) (t : EE) (a : EE) (b : EE) (r_t : Vars → R) (r_a : Vars → R) (r_b : Vars → R) (ρ : Vars) : R := (r_t ρ).bind fun | .bl true => r_a ρ | .bl false => r_b ρ | _ => bad
noncomputable def ev_nil (Γ : Pgm)   (_ : Vars) : R := ret (.tup [])
noncomputable def ev_cons (Γ : Pgm) (a : EE) (b : EE) (r_a : Vars → R) (r_b : Vars → R) (ρ : Vars) : R := (r_a ρ).bind fun x => (r_b ρ).bind fun | .tup xs => (if xs.length < 10000 then ret (.tup (x :: xs)) else bad) | _ => bad
noncomputable def ev_star (Γ : Pgm) (a : EE) (b : EE) (r_a : Vars → R) (r_b : Vars → R) (ρ : Vars) : R := (r_a ρ).bind fun x => match seqL x with | some l => ((r_b ρ).bind fun | .tup xs => (if l.length + xs.length ≤ 10000 then ret (.tup (l ++ xs)) else bad) | _ => bad) | none => bad
noncomputable def ev_tup (Γ : Pgm) (a : EE) (r_a : Vars → R) (ρ : Vars) : R := (r_a ρ).bind fun | .tup xs => if xs.length ≤ 10000 then ret (.tup xs) else bad | _ => bad
noncomputable def ev_lst (Γ : Pgm) (a : EE) (r_a : Vars → R) (ρ : Vars) : R := (r_a ρ).bind fun | .tup xs => if xs.length ≤ 10000 then ret (.lst xs) else bad | _ => bad
noncomputable def ev_slc (Γ : Pgm) (a : EE) (lo : EE) (hi : EE) (r_a : Vars → R) (r_lo : Vars → R) (r_hi : Vars → R) (ρ : Vars) : R := (r_a ρ).bind fun x => (r_lo ρ).bind fun l => match optI l with
    | none => bad
    | some l => (r_hi ρ).bind fun h => match optI h with
      | none => bad
      | some h => slcT x l h
noncomputable def ev_nop (Γ : Pgm)   (_ : Vars) : R := ret .non
noncomputable def ev_part (Γ : Pgm) (a : EE) (r_a : Vars → R) (ρ : Vars) : R := (r_a ρ).bind fun | .int i => ret (.int i) | _ => bad
noncomputable def ev_call (Γ : Pgm) (f : Nat) (sk : Bool) (dvs : List V) (a : EE) (r_a : Vars → R) (ρ : Vars) : R := (r_a ρ).bind fun | .tup xs => (if dvs.all scaV then (if sk then Γ.call f (xs ++ dvs.map dOf) else (Γ.call f (xs ++ dvs.map dOf)).noX) else bad) | _ => bad
noncomputable def ev_callV (Γ : Pgm) (i : Nat) (sk : Bool) (a : EE) (r_a : Vars → R) (ρ : Vars) : R := (getV ρ i).bind fun | .fn f => if Γ.ok f = true then ((r_a ρ).bind fun | .tup xs => (if sk then Γ.call f xs else (Γ.call f xs).noX) | _ => bad) else bad | _ => bad
noncomputable def ev_take (Γ : Pgm) (a : EE) (r_a : Vars → R) (ρ : Vars) : R := (r_a ρ).bind fun | .tup [.hand, .int m] => draw m fun v => ret (.int v) | _ => bad
noncomputable def ev_bi (Γ : Pgm) (b : Bi) (a : EE) (r_a : Vars → R) (ρ : Vars) : R := (r_a ρ).bind fun | .tup xs => biD b xs | _ => bad
noncomputable def ev_isi (Γ : Pgm) (a : EE) (t : BT) (r_a : Vars → R) (ρ : Vars) : R := (r_a ρ).bind fun x => match isiD x t with | some b => ret (.bl b) | none => bad
noncomputable def ev_isi2 (Γ : Pgm) (a : EE) (t : BT) (u : BT) (r_a : Vars → R) (ρ : Vars) : R := (r_a ρ).bind fun x => match isiD x t, isiD x u with | some b, some c => ret (.bl (b || c)) | _, _ => bad
noncomputable def ev_isC (Γ : Pgm) (_0 : EE) (_1 : Nat) (r__0 : Vars → R) (_ : Vars) : R := bad
noncomputable def ev_lc (Γ : Pgm) (k : ItK) (it : EE) (tg : Tg) (t : EE) (e : EE) (vs : List Nat) (r_it : Vars → R) (r_t : Vars → R) (r_e : Vars → R) (ρ : Vars) : R := (r_it ρ).bind fun d => match itemsOf k d with
    | some l => if l.length ≤ 10000 ∧ tg.inn vs = true then lcGo (fun x => match evalG false tg x (wipeV ρ vs) with
        | some ρ' => (r_t ρ').noX.bind fun | .bl true => (r_e ρ').noX.bind fun y => ret (some y) | .bl false => ret none | _ => bad
        | none => bad) l [] else bad
    | none => bad
noncomputable def ev_yes (Γ : Pgm)   (_ : Vars) : R := ret (.bl true)
noncomputable def ev_eqR (Γ : Pgm) (n : Bool) (a : EE) (b : EE) (r_a : Vars → R) (r_b : Vars → R) (ρ : Vars) : R := (r_a ρ).bind fun x => if D.repOk x = true then ((r_b ρ).bind fun y => if D.same x y = true then ret (.bl (!n)) else bad) else bad
noncomputable def ev_xf (Γ : Pgm) (i : Nat) (c : Nat) (f : Str)  (ρ : Vars) : R := match ρ[i]? with
    | some (.exc c' ds) => if c = c' then (match ((Γ.xf c).zip ds).lookup f with | some d => ret d | none => bad) else bad
    | _ => bad
noncomputable def ev_fld (Γ : Pgm) (_0 : EE) (_1 : Str) (r__0 : Vars → R) (_ : Vars) : R := bad
noncomputable def ev_lenO (Γ : Pgm) (i : Nat)  (ρ : Vars) : R := (getO ρ i).bind fun x => biD .len [x]
noncomputable def ev_tupO (Γ : Pgm) (i : Nat)  (ρ : Vars) : R := (getO ρ i).bind fun x => biD .tuple [x]
noncomputable def ev_ixO (Γ : Pgm) (i : Nat) (a : EE) (r_a : Vars → R) (ρ : Vars) : R := (getO ρ i).bind fun x => (r_a ρ).bind fun y => op2 .ix x y
noncomputable def evalE (Γ : Pgm) (y : EE) : Vars → R :=
  EE.rec (motive := fun _ => Vars → R) (ev_var Γ) (ev_lit Γ) (ev_con Γ) (ev_fnv Γ) (ev_clv Γ) (ev_op Γ) (ev_neg Γ) (ev_and Γ) (ev_or Γ) (ev_not Γ) (ev_notT Γ) (ev_isN Γ) (ev_notN Γ) (ev_tru Γ) (ev_chain Γ) (ev_ifx Γ) (ev_nil Γ) (ev_cons Γ) (ev_star Γ) (ev_tup Γ) (ev_lst Γ) (ev_slc Γ) (ev_nop Γ) (ev_part Γ) (ev_call Γ) (ev_callV Γ) (ev_take Γ) (ev_bi Γ) (ev_isi Γ) (ev_isi2 Γ) (ev_isC Γ) (ev_lc Γ) (ev_yes Γ) (ev_eqR Γ) (ev_xf Γ) (ev_fld Γ) (ev_lenO Γ) (ev_tupO Γ) (ev_ixO Γ) y
inductive Fl
  | nx (ρ : Vars)
  | rt (d : D) (ρ : Vars)
  | bk (ρ : Vars)
  | ct (ρ : Vars)
abbrev RS := Tr (Xn × Vars) Fl
noncomputable def at_ {α : Type} (t : Tr Xn α) (ρ : Vars) : Tr (Xn × Vars) α := t.mapX fun x => (x, ρ)
noncomputable def forGo (f : D → Vars → RS) : List D → Vars → RS
  | [], ρ => ret (.nx ρ)
  | x :: xs, ρ => (f x ρ).bind fun
    | .nx ρ' => forGo f xs ρ'
    | .ct ρ' => forGo f xs ρ'
    | .bk ρ' => ret (.nx ρ')
    | .rt d ρ' => ret (.rt d ρ')
noncomputable def whGo (t : Vars → Tr Xn D) (f : Vars → RS) : Nat → Vars → RS
  | 0, _ => bad
  | n + 1, ρ => (at_ (t ρ) ρ).bind fun
    | .bl true => (f ρ).bind fun
      | .nx ρ' => whGo t f n ρ'
      | .ct ρ' => whGo t f n ρ'
      | .bk ρ' => ret (.nx ρ')
      | .rt d ρ' => ret (.rt d ρ')
    | .bl false => ret (.nx ρ)
    | _ => bad
def Sv.isExc : Sv → Bool
  | .exc _ _ => true
  | _ => false
def Sv.clr : Sv → Sv
  | .exc _ _ => .unk
  | v => v
def noExc (ρ : Vars) : Bool := ρ.all fun v => !v.isExc
def Fl.clr : Fl → Fl
  | .nx ρ => .nx (ρ.map Sv.clr)
  | .rt d ρ => .rt d (ρ.map Sv.clr)
  | .bk ρ => .bk (ρ.map Sv.clr)
  | .ct ρ => .ct (ρ.map Sv.clr)
def Fl.off (i : Nat) : Fl → Fl
  | .nx ρ => .nx (ρ.set i .unk)
  | .rt d ρ => .rt d ρ
  | .bk ρ => .bk (ρ.set i .unk)
  | .ct ρ => .ct (ρ.set i .unk)
/-- forms that make a new list -/
def EE.fresh : EE → Bool
  | .lst _ => true
  | .bi .list _ => true
  | .lc _ _ _ _ _ _ => true
  | _ => false
noncomputable def es_nop (Γ : Pgm)   (x : Option Xn) (ρ : Vars) : RS := match x with
      | some _ => bad
      | none => ret (.nx ρ)
noncomputable def es_seq (Γ : Pgm) (a : SS) (b : SS) (r_a : Option Xn → Vars → RS) (r_b : Option Xn → Vars → RS) (x : Option Xn) (ρ : Vars) : RS := match x with
      | some _ => bad
      | none => (r_a none ρ).bind fun
    | .nx ρ' => r_b none ρ'
    | f => ret f
noncomputable def es_asg (Γ : Pgm) (tg : Tg) (e : EE)  (x : Option Xn) (ρ : Vars) : RS := match x with
      | some _ => bad
      | none => (at_ (evalE Γ e ρ) ρ).bind fun d => match evalG false tg d ρ with | some ρ' => ret (.nx ρ') | none => bad
noncomputable def es_asgO (Γ : Pgm) (i : Nat) (e : EE)  (x : Option Xn) (ρ : Vars) : RS := match x with
      | some _ => bad
      | none => if e.fresh = true ∧ i < ρ.length then (at_ (evalE Γ e ρ) ρ).bind fun | .lst ds => ret (.nx (ρ.set i (.own ds))) | _ => bad else bad
noncomputable def es_par (Γ : Pgm) (i : Nat) (j : Nat) (a : EE)  (x : Option Xn) (ρ : Vars) : RS := match x with
      | some _ => bad
      | none => (at_ (evalE Γ a ρ) ρ).bind fun | .tup [x, y] => (if i < ρ.length ∧ j < ρ.length then ret (.nx ((ρ.set i (.dat x)).set j (.dat y))) else bad) | _ => bad
noncomputable def es_app (Γ : Pgm) (i : Nat) (e : EE)  (x : Option Xn) (ρ : Vars) : RS := match x with
      | some _ => bad
      | none => match ρ[i]? with
    | some (.own ds) => (at_ (evalE Γ e ρ) ρ).bind fun d => if ds.length ≤ 10000 then ret (.nx (ρ.set i (.own (ds ++ [d])))) else bad
    | _ => bad
noncomputable def es_setO (Γ : Pgm) (i : Nat) (ix : EE) (e : EE)  (x : Option Xn) (ρ : Vars) : RS := match x with
      | some _ => bad
      | none => match ρ[i]? with
    | some (.own ds) => (at_ (evalE Γ e ρ) ρ).bind fun d => (at_ (evalE Γ ix ρ) ρ).bind fun
      | .int k => (match ixN ds.length k with | some j => ret (.nx (ρ.set i (.own (ds.set j d)))) | none => bad)
      | _ => bad
    | _ => bad
noncomputable def es_ret (Γ : Pgm) (e : EE)  (x : Option Xn) (ρ : Vars) : RS := match x with
      | some _ => bad
      | none => (at_ (evalE Γ e ρ) ρ).bind fun d => ret (.rt d ρ)
noncomputable def es_retN (Γ : Pgm)   (x : Option Xn) (ρ : Vars) : RS := match x with
      | some _ => bad
      | none => ret (.rt .non ρ)
noncomputable def es_ite (Γ : Pgm) (t : EE) (a : SS) (b : SS) (r_a : Option Xn → Vars → RS) (r_b : Option Xn → Vars → RS) (x : Option Xn) (ρ : Vars) : RS := match x with
      | some _ => bad
      | none => (at_ (evalE Γ t ρ) ρ).bind fun | .bl true => r_a none ρ | .bl false => r_b none ρ | _ => bad
noncomputable def es_for (Γ : Pgm) (k : ItK) (it : EE) (tg : Tg) (b : SS) (r_b : Option Xn → Vars → RS) (x : Option Xn) (ρ : Vars) : RS := match x with
      | some _ => bad
      | none => (at_ (evalE Γ it ρ) ρ).bind fun d => match itemsOf k d with
    | some l => forGo (fun x ρ => match evalG false tg x ρ with | some ρ' => r_b none ρ' | none => bad) l ρ
    | none => bad
noncomputable def es_whl (Γ : Pgm) (t : EE) (b : SS) (r_b : Option Xn → Vars → RS) (x : Option Xn) (ρ : Vars) : RS := match x with
      | some _ => bad
      | none => whGo (fun ρ => evalE Γ t ρ) (fun ρ => r_b none ρ) Γ.most ρ
noncomputable def es_rse (Γ : Pgm) (c : Nat) (a : EE)  (x : Option Xn) (ρ : Vars) : RS := match x with
      | some _ => bad
      | none => (at_ (evalE Γ a ρ) ρ).bind fun | .tup ds => (if ds.length = (Γ.xf c).length ∧ ds.length ≤ 100 then exn (⟨c, ds.reverse⟩, ρ) else bad) | _ => bad
noncomputable def es_try (Γ : Pgm) (b : SS) (h : SS) (r_b : Option Xn → Vars → RS) (r_h : Option Xn → Vars → RS) (x : Option Xn) (ρ : Vars) : RS := match x with
      | some _ => bad
      | none => (r_b none ρ).catchX fun (x, ρ') => r_h (some x) ρ'
def es_hnil (_ : Pgm) (_ : Option Xn) (_ : Vars) : RS := bad
noncomputable def es_hcons (Γ : Pgm) (c : Nat) (i : Option Nat) (b r : SS) (r_b r_r : Option Xn → Vars → RS) (x : Option Xn) (ρ : Vars) : RS := match x with
      | none => bad
      | some x => match i with
      | none => ( match Γ.sub x.c c with
    | some true => if noExc ρ = true then ((r_b none ρ).noX.bind fun fl => ret fl.clr) else bad
    | some false => r_r (some x) ρ
    | none => bad)
      | some i => ( match Γ.sub x.c c with
    | some true => if noExc ρ = true ∧ i < ρ.length then (r_b none (ρ.set i (.exc x.c x.ds))).noX.bind fun fl => ret ((fl.clr).off i) else bad
    | some false => r_r (some x) ρ
    | none => bad)
noncomputable def es_drop (Γ : Pgm) (e : EE)  (x : Option Xn) (ρ : Vars) : RS := match x with
      | some _ => bad
      | none => (at_ (evalE Γ e ρ) ρ).bind fun _ => ret (.nx ρ)
noncomputable def es_keep (Γ : Pgm) (i : Nat) (s : SS) (r_s : Option Xn → Vars → RS) (x : Option Xn) (ρ : Vars) : RS := match x with
      | some _ => bad
      | none => match ρ[i]? with
    | some (.own ds) => r_s none (ρ.set i (.dat (.lst ds)))
    | _ => r_s none ρ
noncomputable def es_brk (Γ : Pgm)   (x : Option Xn) (ρ : Vars) : RS := match x with
      | some _ => bad
      | none => ret (.bk ρ)
noncomputable def es_cnt (Γ : Pgm)   (x : Option Xn) (ρ : Vars) : RS := match x with
      | some _ => bad
      | none => ret (.ct ρ)
noncomputable def evalS (Γ : Pgm) (y : SS) : Option Xn → Vars → RS :=
  SS.rec (motive := fun _ => Option Xn → Vars → RS) (es_nop Γ) (es_seq Γ) (es_asg Γ) (es_asgO Γ) (es_par Γ) (es_app Γ) (es_setO Γ) (es_ret Γ) (es_retN Γ) (es_ite Γ) (es_for Γ) (es_whl Γ) (es_rse Γ) (es_try Γ) (es_hnil Γ) (es_hcons Γ) (es_drop Γ) (es_keep Γ) (es_brk Γ) (es_cnt Γ) y
/-- a def -/
structure Df where
  ps : Nat
  vars : Nat
  body : SS
def startD (d : Df) (ds : List D) : Vars := ds.map Sv.dat ++ List.replicate (d.vars - ds.length) Sv.unk
def Fl.res : Fl → Tr (Xn × Vars) D
  | .nx _ => ret .non
  | .rt d _ => ret d
  | _ => bad
noncomputable def runD (Γ : Pgm) (d : Df) (ds : List D) : R := if ds.length = d.ps then ((evalS Γ d.body none (startD d ds)).bind Fl.res).mapX (·.1) else bad
/-- a program: its defs by number -/
structure Text where
  df : Nat → Option Df
  con : Nat → D
  fld : Nat → List Str
  xf : Nat → List Str
  sub : Nat → Nat → Option Bool
  most : Nat
  ok : Nat → Bool
noncomputable def Text.run (T : Text) : Nat → Nat → List D → R
  | 0, _, _ => bad
  | n + 1, f, ds => match T.df f with
    | some d => runD ⟨T.run n, T.con, T.fld, T.xf, T.sub, T.most, T.ok⟩ d ds
    | none => bad
noncomputable def Text.pgm (T : Text) (n : Nat) : Pgm := ⟨T.run n, T.con, T.fld, T.xf, T.sub, T.most, T.ok⟩
end Ez

set_option Elab.async false
set_option linter.all false
set_option maxRecDepth 100000
set_option maxHeartbeats 3999999

namespace K04
open PySem Ez
def b_is_whole : SS := (.seq (.ite (.or (.isi (.var 0) .bool) (.not (.isi (.var 0) .int))) (.ret (.lit (.bl false))) .nop)
  (.seq (.ite (.and (.notN (.var 1)) (.op .lt (.var 0) (.var 1))) (.ret (.lit (.bl false))) .nop)
  (.ret (.or (.isN (.var 2)) (.op .le (.var 0) (.var 2))))))
def d_is_whole : Df := ⟨3, 3, b_is_whole⟩
def b_is_sequence : SS := (.ret (.and (.isi2 (.var 0) .list .tuple) (.chain .le .le (.var 1) (.bi .len (.cons (.var 0) .nil)) (.var 2))))
def d_is_sequence : Df := ⟨3, 3, b_is_sequence⟩
def b_check_face : SS := (.seq (.ite (.not (.call 0 true [] (.cons (.var 0) (.cons (.lit (.int 0)) (.cons (.lit (.int 5)) .nil))))) (.rse 1 (.cons (.var 0) .nil)) .nop)
  (.ret (.var 0)))
def d_check_face : Df := ⟨1, 1, b_check_face⟩
def b_face_axes : SS := (.ret (.op .ix (.con 0) (.call 2 true [] (.cons (.var 0) .nil))))
def d_face_axes : Df := ⟨1, 1, b_face_axes⟩
def b_framed : SS := (.seq (.asg (.name 2) (.call 3 true [] (.cons (.call 2 true [] (.cons (.var 0) .nil)) .nil)))
  (.seq (.asg (.name 3) (.lc .seq (.var 2) (.name 4) .yes (.op .ix (.var 1) (.var 4)) [4]))
  (.ret (.bi .tuple (.cons (.lc .seq (.var 3) (.name 5) .yes (.ifx (.isi (.var 5) .list) (.bi .tuple (.cons (.var 5) .nil)) (.var 5)) [5]) .nil)))))
def d_framed : Df := ⟨2, 6, b_framed⟩
def b_check_slope : SS := (.seq (.ite (.not (.call 1 true [] (.cons (.var 0) (.cons (.lit (.int 2)) (.cons (.lit (.int 2)) .nil))))) (.rse 2 (.cons (.var 0) .nil)) .nop)
  (.seq (.ite (.tru (.lc .seq (.var 0) (.name 2) (.not (.call 0 false [] (.cons (.var 2) (.cons (.lit (.int 0)) (.cons (.lit (.int 9)) .nil))))) (.var 2) [2])) (.rse 2 (.cons (.var 0) .nil)) .nop)
  (.seq (.ite (.and (.tru (.var 1)) (.op .eq (.bi .tuple (.cons (.var 0) .nil)) (.con 1))) (.ret (.con 1)) .nop)
  (.seq (.ite (.or (.op .inn (.lit (.int 0)) (.var 0)) (.op .ne (.bi .gcd2 (.cons (.op .ix (.var 0) (.lit (.int 0))) (.cons (.op .ix (.var 0) (.lit (.int 1))) .nil))) (.lit (.int 1)))) (.rse 2 (.cons (.var 0) .nil)) .nop)
  (.ret (.bi .tuple (.cons (.var 0) .nil)))))))
def d_check_slope : Df := ⟨2, 3, b_check_slope⟩
def b_mirrored_slope : SS := (.seq (.asg (.tup (.cons (.name 1) (.cons (.name 2) .nil))) (.call 5 true [] (.cons (.var 0) (.cons (.lit (.bl true)) .nil))))
  (.ret (.ifx (.op .eq (.var 2) (.lit (.int 0))) (.con 1) (.tup (.cons (.var 2) (.cons (.var 1) .nil))))))
def d_mirrored_slope : Df := ⟨1, 3, b_mirrored_slope⟩
def b_check_direction : SS := (.seq (.drop (.call 2 true [] (.cons (.var 0) .nil)))
  (.seq (.ite (.not (.call 1 true [] (.cons (.var 1) (.cons (.lit (.int 3)) (.cons (.lit (.int 3)) .nil))))) (.rse 3 (.cons (.lit (.str (Str.ofString "kind"))) .nil)) .nop)
  (.seq (.ite (.tru (.lc .seq (.var 1) (.name 2) (.not (.call 0 false [] (.cons (.var 2) (.cons (.neg (.lit (.int 10000))) (.cons (.lit (.int 10000)) .nil))))) (.var 2) [2])) (.rse 3 (.cons (.lit (.str (Str.ofString "kind"))) .nil)) .nop)
  (.seq (.ite (.op .ne (.op .ix (.var 1) (.op .div (.var 0) (.lit (.int 2)))) (.lit (.int 0))) (.rse 3 (.cons (.lit (.str (Str.ofString "axis"))) .nil)) .nop)
  (.seq (.asg (.name 3) (.bi .gcd3 (.cons (.op .ix (.var 1) (.lit (.int 0))) (.cons (.op .ix (.var 1) (.lit (.int 1))) (.cons (.op .ix (.var 1) (.lit (.int 2))) .nil)))))
  (.seq (.ite (.op .eq (.var 3) (.lit (.int 0))) (.rse 3 (.cons (.lit (.str (Str.ofString "both"))) .nil)) .nop)
  (.seq (.ite (.op .ne (.var 3) (.lit (.int 1))) (.rse 3 (.cons (.lit (.str (Str.ofString "common"))) .nil)) .nop)
  (.ret (.bi .tuple (.cons (.var 1) .nil))))))))))
def d_check_direction : Df := ⟨2, 4, b_check_direction⟩
def b_unframed : SS := (.seq (.asg (.name 3) (.call 3 true [] (.cons (.var 0) .nil)))
  (.seq (.asgO 4 (.lst (.cons (.lit (.int 0)) (.cons (.lit (.int 0)) (.cons (.lit (.int 0)) .nil)))))
  (.seq (.setO 4 (.op .ix (.var 3) (.lit (.int 0))) (.var 1))
  (.seq (.setO 4 (.op .ix (.var 3) (.lit (.int 1))) (.var 2))
  (.ret (.tupO 4))))))
def d_unframed : Df := ⟨3, 5, b_unframed⟩
def b_quarter_turns : SS := (.ret (.tup (.cons (.tup (.cons (.var 0) (.cons (.var 1) .nil))) (.cons (.tup (.cons (.neg (.var 1)) (.cons (.var 0) .nil))) (.cons (.tup (.cons (.neg (.var 0)) (.cons (.neg (.var 1)) .nil))) (.cons (.tup (.cons (.var 1) (.cons (.neg (.var 0)) .nil))) .nil))))))
def d_quarter_turns : Df := ⟨2, 2, b_quarter_turns⟩
def b_directions_on : SS := (.seq (.drop (.call 2 true [] (.cons (.var 0) .nil)))
  (.seq (.asg (.tup (.cons (.name 2) (.cons (.name 3) .nil))) (.call 5 true [] (.cons (.var 1) (.cons (.lit (.bl true)) .nil))))
  (.ret (.bi .tuple (.cons (.bi .sorted (.cons (.lc .seq (.call 9 true [] (.cons (.var 2) (.cons (.var 3) .nil))) (.tup (.cons (.name 4) (.cons (.name 5) .nil))) .yes (.call 8 false [] (.cons (.var 0) (.cons (.var 4) (.cons (.var 5) .nil)))) [4, 5]) .nil)) .nil)))))
def d_directions_on : Df := ⟨2, 6, b_directions_on⟩
def b_slope_of : SS := (.ret (.call 12 true [] (.cons (.var 0) (.cons (.call 7 true [] (.cons (.var 0) (.cons (.var 1) .nil))) .nil))))
def d_slope_of : Df := ⟨2, 2, b_slope_of⟩
def b_slope_on : SS := (.seq (.asg (.tup (.cons (.name 2) (.cons (.name 3) .nil))) (.call 4 true [] (.cons (.var 0) (.cons (.var 1) .nil))))
  (.seq (.asg (.name 4) (.call 9 true [] (.cons (.var 2) (.cons (.var 3) .nil))))
  (.ret (.op .ix (.lc .seq (.var 4) (.name 5) (.and (.op .ge (.op .ix (.var 5) (.lit (.int 0))) (.lit (.int 1))) (.op .ge (.op .ix (.var 5) (.lit (.int 1))) (.lit (.int 0)))) (.var 5) [5]) (.lit (.int 0))))))
def d_slope_on : Df := ⟨2, 6, b_slope_on⟩
def b_reversed_direction : SS := (.ret (.bi .tuple (.cons (.lc .seq (.var 0) (.name 1) .yes (.neg (.var 1)) [1]) .nil)))
def d_reversed_direction : Df := ⟨1, 2, b_reversed_direction⟩
def b_back_of : SS := (.ret (.call 13 true [] (.cons (.call 7 true [] (.cons (.var 0) (.cons (.var 1) .nil))) .nil)))
def d_back_of : Df := ⟨2, 2, b_back_of⟩
def b_left_of : SS := (.seq (.asg (.tup (.cons (.name 2) (.cons (.name 3) .nil))) (.call 4 true [] (.cons (.var 0) (.cons (.call 7 true [] (.cons (.var 0) (.cons (.var 1) .nil))) .nil))))
  (.ret (.call 8 true [] (.cons (.var 0) (.cons (.neg (.var 3)) (.cons (.var 2) .nil))))))
def d_left_of : Df := ⟨2, 4, b_left_of⟩
def b_outward_step : SS := (.seq (.asg (.name 2) (.op .ix (.var 1) (.op .div (.var 0) (.lit (.int 2)))))
  (.ret (.ifx (.op .eq (.op .mod (.var 0) (.lit (.int 2))) (.lit (.int 1))) (.var 2) (.neg (.var 2)))))
def d_outward_step : Df := ⟨2, 3, b_outward_step⟩
def b__law_common : SS := (.seq (.asg (.name 0) (.bi .abs (.cons (.var 0) .nil)))
  (.seq (.asg (.name 1) (.bi .abs (.cons (.var 1) .nil)))
  (.seq (.whl (.op .gt (.var 1) (.lit (.int 0))) (.par 0 1 (.cons (.var 1) (.cons (.op .mod (.bi .int (.cons (.var 0) .nil)) (.var 1)) .nil))))
  (.ret (.var 0)))))
def d__law_common : Df := ⟨2, 2, b__law_common⟩
def b__law_axes : SS := (.ret (.op .ix (.tup (.cons (.tup (.cons (.lit (.int 2)) (.cons (.lit (.int 1)) .nil))) (.cons (.tup (.cons (.lit (.int 1)) (.cons (.lit (.int 2)) .nil))) (.cons (.tup (.cons (.lit (.int 0)) (.cons (.lit (.int 2)) .nil))) (.cons (.tup (.cons (.lit (.int 2)) (.cons (.lit (.int 0)) .nil))) (.cons (.tup (.cons (.lit (.int 1)) (.cons (.lit (.int 0)) .nil))) (.cons (.tup (.cons (.lit (.int 0)) (.cons (.lit (.int 1)) .nil))) .nil))))))) (.var 0)))
def d__law_axes : Df := ⟨1, 1, b__law_axes⟩
def b__law_steps : SS := (.seq (.asg (.name 3) (.call 21 true [] (.cons (.var 0) .nil)))
  (.seq (.asgO 4 (.lst (.cons (.lit (.int 0)) (.cons (.lit (.int 0)) (.cons (.lit (.int 0)) .nil)))))
  (.seq (.setO 4 (.op .ix (.var 3) (.lit (.int 0))) (.var 1))
  (.seq (.setO 4 (.op .ix (.var 3) (.lit (.int 1))) (.var 2))
  (.ret (.tupO 4))))))
def d__law_steps : Df := ⟨3, 5, b__law_steps⟩
def b__law_four : SS := (.seq (.asg (.tup (.cons (.name 2) (.cons (.name 3) .nil))) (.var 1))
  (.ret (.lst (.cons (.call 22 true [] (.cons (.var 0) (.cons (.var 2) (.cons (.var 3) .nil)))) (.cons (.call 22 true [] (.cons (.var 0) (.cons (.neg (.var 3)) (.cons (.var 2) .nil)))) (.cons (.call 22 true [] (.cons (.var 0) (.cons (.neg (.var 2)) (.cons (.neg (.var 3)) .nil)))) (.cons (.call 22 true [] (.cons (.var 0) (.cons (.var 3) (.cons (.neg (.var 2)) .nil)))) .nil)))))))
def d__law_four : Df := ⟨2, 4, b__law_four⟩
def b__law_out : SS := (.ret (.ifx (.op .eq (.op .mod (.bi .int (.cons (.var 0) .nil)) (.lit (.int 2))) (.lit (.int 1))) (.op .ix (.var 1) (.op .div (.var 0) (.lit (.int 2)))) (.neg (.op .ix (.var 1) (.op .div (.var 0) (.lit (.int 2)))))))
def d__law_out : Df := ⟨2, 2, b__law_out⟩
def b__law_tuples : SS := (.seq (.ite (.isi (.var 0) .tuple) (.ret (.notT (.lc .seq (.var 0) (.name 1) (.not (.call 25 false [] (.cons (.var 1) .nil))) (.lit (.int 1)) [1]))) .nop)
  (.ret (.or (.isN (.var 0)) (.and (.isi (.var 0) .int) (.not (.isi (.var 0) .bool))))))
def d__law_tuples : Df := ⟨1, 2, b__law_tuples⟩
def b__law_odd : SS := (.ret (.op .ix (.lst (.cons (.lit (.bl true)) (.cons (.lit .non) (.cons (.lit (.str (Str.ofString "1"))) (.cons (.neg (.lit (.int 1))) (.cons (.op .add (.var 1) (.lit (.int 1))) (.cons (.tup (.cons (.lit (.int 0)) .nil)) (.cons (.lit (.bl false)) (.cons (.op .add (.var 1) (.op .pow (.lit (.int 10)) (.lit (.int 20)))) .nil))))))))) (.take (.cons (.var 0) (.cons (.lit (.int 8)) .nil)))))
def d__law_odd : Df := ⟨2, 2, b__law_odd⟩
def b__law_rid : SS := (.ret (.op .ix (.lst (.cons (.lit .non) (.cons (.lit (.int 7)) (.cons (.lit (.str (Str.ofString "012"))) (.cons (.lit (.bl true)) .nil))))) (.take (.cons (.var 0) (.cons (.lit (.int 4)) .nil)))))
def d__law_rid : Df := ⟨1, 1, b__law_rid⟩
def b__law_whole : SS := (.ret (.and (.isi (.var 0) .int) (.and (.not (.isi (.var 0) .bool)) (.chain .le .le (.var 1) (.var 0) (.var 2)))))
def d__law_whole : Df := ⟨3, 3, b__law_whole⟩
def b__law_shaped : SS := (.ret (.ifx (.op .eq (.take (.cons (.var 0) (.cons (.lit (.int 2)) .nil))) (.lit (.int 0))) (.bi .list (.cons (.var 1) .nil)) (.bi .tuple (.cons (.var 1) .nil))))
def d__law_shaped : Df := ⟨2, 2, b__law_shaped⟩
def b__law_plain : SS := (.ret (.ifx (.isi2 (.var 0) .list .tuple) (.bi .tuple (.cons (.lc .seq (.var 0) (.name 1) .yes (.call 30 false [] (.cons (.var 1) .nil)) [1]) .nil)) (.var 0)))
def d__law_plain : Df := ⟨1, 2, b__law_plain⟩
def b__law_like : SS := (.ret (.and (.op .eq (.var 0) (.var 1)) (.eqR false (.var 0) (.var 1))))
def d__law_like : Df := ⟨2, 2, b__law_like⟩
def b__law_slope_of : SS := (.seq (.try (.asg (.name 2) (.call 5 true [] (.cons (.var 0) (.cons (.var 1) .nil)))) (.hcons 2 (some 3) (.ret (.lst (.cons (.lit (.str (Str.ofString "BadSlope"))) (.cons (.call 30 false [] (.cons (.xf 3 2 (Str.ofString "slope")) .nil)) .nil)))) (.hcons 0 none (.ret (.lst (.cons (.lit (.str (Str.ofString "other"))) .nil))) .hnil)))
  (.ret (.var 2)))
def d__law_slope_of : Df := ⟨2, 4, b__law_slope_of⟩
def b__law_mirror : SS := (.seq (.try (.asg (.name 1) (.call 6 true [] (.cons (.var 0) .nil))) (.hcons 2 (some 2) (.ret (.lst (.cons (.lit (.str (Str.ofString "BadSlope"))) (.cons (.call 30 false [] (.cons (.xf 2 2 (Str.ofString "slope")) .nil)) .nil)))) (.hcons 0 none (.ret (.lst (.cons (.lit (.str (Str.ofString "other"))) .nil))) .hnil)))
  (.ret (.var 1)))
def d__law_mirror : Df := ⟨1, 3, b__law_mirror⟩
def b__law_deed : SS := (.seq (.try (.asg (.name 3) (.callV 0 true (.cons (.var 1) (.cons (.var 2) .nil)))) (.hcons 1 (some 4) (.ret (.lst (.cons (.lit (.str (Str.ofString "BadFace"))) (.cons (.xf 4 1 (Str.ofString "face")) .nil)))) (.hcons 3 (some 4) (.ret (.lst (.cons (.lit (.str (Str.ofString "BadDirection"))) (.cons (.xf 4 3 (Str.ofString "what")) .nil)))) (.hcons 2 (some 4) (.ret (.lst (.cons (.lit (.str (Str.ofString "BadSlope"))) (.cons (.call 30 false [] (.cons (.xf 4 2 (Str.ofString "slope")) .nil)) .nil)))) (.hcons 0 none (.ret (.lst (.cons (.lit (.str (Str.ofString "other"))) .nil))) .hnil)))))
  (.ret (.var 3)))
def d__law_deed : Df := ⟨3, 5, b__law_deed⟩
def b__law_is_slope : SS := (.seq (.ite (.or (.not (.isi2 (.var 0) .list .tuple)) (.op .ne (.bi .len (.cons (.var 0) .nil)) (.lit (.int 2)))) (.ret (.lit (.bl false))) .nop)
  (.seq (.ite (.or (.not (.call 28 true [] (.cons (.op .ix (.var 0) (.lit (.int 0))) (.cons (.lit (.int 1)) (.cons (.lit (.int 9)) .nil))))) (.not (.call 28 true [] (.cons (.op .ix (.var 0) (.lit (.int 1))) (.cons (.lit (.int 0)) (.cons (.lit (.int 9)) .nil)))))) (.ret (.lit (.bl false))) .nop)
  (.ret (.and (.op .eq (.call 20 true [] (.cons (.op .ix (.var 0) (.lit (.int 0))) (.cons (.op .ix (.var 0) (.lit (.int 1))) .nil))) (.lit (.int 1))) (.or (.var 1) (.op .gt (.op .ix (.var 0) (.lit (.int 1))) (.lit (.int 0))))))))
def d__law_is_slope : Df := ⟨2, 2, b__law_is_slope⟩
def b__law_slopes : SS := (.seq (.asg (.name 1) (.op .sub (.take (.cons (.var 0) (.cons (.lit (.int 12)) .nil))) (.lit (.int 1))))
  (.seq (.asg (.name 2) (.op .sub (.take (.cons (.var 0) (.cons (.lit (.int 12)) .nil))) (.lit (.int 1))))
  (.seq (.asg (.name 3) (.call 26 true [] (.cons (.var 0) (.cons (.lit (.int 9)) .nil))))
  (.seq (.asg (.name 4) (.call 29 true [] (.cons (.var 0) (.cons (.tup (.cons (.var 1) (.cons (.var 2) .nil))) .nil))))
  (.seq (.for .seq (.lst (.cons (.var 4) (.cons (.tup (.cons (.var 1) (.cons (.var 3) .nil))) (.cons (.lst (.cons (.var 3) (.cons (.var 2) .nil))) (.cons (.tup (.cons (.var 1) .nil)) (.cons (.tup (.cons (.lit (.int 1)) (.cons (.lit (.int 2)) (.cons (.lit (.int 3)) .nil)))) (.cons (.tup (.cons (.lit (.int 1)) (.cons (.lit (.int 0)) .nil))) (.cons (.lst (.cons (.lit (.int 1)) (.cons (.lit (.int 0)) .nil))) (.cons (.tup (.cons (.lit (.int 0)) (.cons (.lit (.int 1)) .nil))) (.cons (.var 3) .nil)))))))))) (.name 5) (.seq (.for .seq (.lst (.cons (.lit (.bl false)) (.cons (.lit (.bl true)) .nil))) (.name 6) (.seq (.asg (.name 7) (.ifx (.call 35 true [] (.cons (.var 5) (.cons (.var 6) .nil))) (.call 30 true [] (.cons (.var 5) .nil)) (.lst (.cons (.lit (.str (Str.ofString "BadSlope"))) (.cons (.call 30 true [] (.cons (.var 5) .nil)) .nil)))))
  (.ite (.not (.call 31 true [] (.cons (.call 32 true [] (.cons (.var 5) (.cons (.var 6) .nil))) (.cons (.var 7) .nil)))) (.ret (.lit (.bl false))) .nop)))
  (.seq (.asg (.name 7) (.lst (.cons (.lit (.str (Str.ofString "BadSlope"))) (.cons (.call 30 true [] (.cons (.var 5) .nil)) .nil))))
  (.seq (.ite (.call 35 true [] (.cons (.var 5) (.cons (.lit (.bl true)) .nil))) (.asg (.name 7) (.ifx (.op .eq (.op .ix (.var 5) (.lit (.int 1))) (.lit (.int 0))) (.tup (.cons (.lit (.int 1)) (.cons (.lit (.int 0)) .nil))) (.tup (.cons (.op .ix (.var 5) (.lit (.int 1))) (.cons (.op .ix (.var 5) (.lit (.int 0))) .nil))))) .nop)
  (.seq (.ite (.not (.call 31 true [] (.cons (.call 33 true [] (.cons (.var 5) .nil)) (.cons (.var 7) .nil)))) (.ret (.lit (.bl false))) .nop)
  (.seq (.asg (.name 8) (.take (.cons (.var 0) (.cons (.lit (.int 6)) .nil))))
  (.seq (.ite (.call 35 true [] (.cons (.var 5) (.cons (.lit (.bl true)) .nil))) (.asg (.name 7) (.bi .tuple (.cons (.bi .sorted (.cons (.call 23 true [] (.cons (.var 8) (.cons (.var 5) .nil))) .nil)) .nil))) .nop)
  (.seq (.ite (.not (.call 31 true [] (.cons (.call 34 true [] (.cons (.fnv 10) (.cons (.var 8) (.cons (.var 5) .nil)))) (.cons (.var 7) .nil)))) (.ret (.lit (.bl false))) .nop)
  (.ite (.not (.call 31 true [] (.cons (.call 34 true [] (.cons (.fnv 10) (.cons (.op .add (.lit (.int 6)) (.var 8)) (.cons (.var 5) .nil)))) (.cons (.lst (.cons (.lit (.str (Str.ofString "BadFace"))) (.cons (.op .add (.lit (.int 6)) (.var 8)) .nil))) .nil)))) (.ret (.lit (.bl false))) .nop)))))))))
  (.seq (.ite (.op .ne (.call 5 true [] (.cons (.lst (.cons (.lit (.int 1)) (.cons (.lit (.int 0)) .nil))) (.cons (.lit (.bl true)) .nil))) (.tup (.cons (.lit (.int 1)) (.cons (.lit (.int 0)) .nil)))) (.ret (.lit (.bl false))) .nop)
  (.seq (.try (.asg (.name 9) (.call 5 true [.bl false] (.cons (.lst (.cons (.lit (.int 1)) (.cons (.lit (.int 0)) .nil))) .nil))) (.hcons 2 (some 10) (.seq (.asg (.name 9) (.call 30 false [] (.cons (.xf 10 2 (Str.ofString "slope")) .nil)))
  (.ret (.op .eq (.var 9) (.tup (.cons (.lit (.int 1)) (.cons (.lit (.int 0)) .nil)))))) .hnil))
  (.ret (.lit (.bl false))))))))))
def d__law_slopes : Df := ⟨1, 11, b__law_slopes⟩
def b__law_word : SS := (.seq (.ite (.or (.not (.isi2 (.var 1) .list .tuple)) (.op .ne (.bi .len (.cons (.var 1) .nil)) (.lit (.int 3)))) (.ret (.lit (.str (Str.ofString "kind")))) .nop)
  (.seq (.ite (.tru (.lc .seq (.var 1) (.name 2) (.not (.call 28 false [] (.cons (.var 2) (.cons (.neg (.lit (.int 10000))) (.cons (.lit (.int 10000)) .nil))))) (.lit (.int 1)) [2])) (.ret (.lit (.str (Str.ofString "kind")))) .nop)
  (.seq (.ite (.op .ne (.op .ix (.var 1) (.op .div (.var 0) (.lit (.int 2)))) (.lit (.int 0))) (.ret (.lit (.str (Str.ofString "axis")))) .nop)
  (.seq (.asg (.name 3) (.call 21 true [] (.cons (.var 0) .nil)))
  (.seq (.ite (.and (.op .eq (.op .ix (.var 1) (.op .ix (.var 3) (.lit (.int 0)))) (.lit (.int 0))) (.op .eq (.op .ix (.var 1) (.op .ix (.var 3) (.lit (.int 1)))) (.lit (.int 0)))) (.ret (.lit (.str (Str.ofString "both")))) .nop)
  (.ret (.ifx (.op .eq (.call 20 true [] (.cons (.op .ix (.var 1) (.op .ix (.var 3) (.lit (.int 0)))) (.cons (.op .ix (.var 1) (.op .ix (.var 3) (.lit (.int 1)))) .nil))) (.lit (.int 1))) (.lit .non) (.lit (.str (Str.ofString "common"))))))))))
def d__law_word : Df := ⟨2, 4, b__law_word⟩
def b__law_drawn : SS := (.seq (.asg (.name 2) (.ifx (.op .eq (.take (.cons (.var 0) (.cons (.lit (.int 4)) .nil))) (.lit (.int 0))) (.lit (.int 10000)) (.lit (.int 6))))
  (.seq (.asg (.name 3) (.op .sub (.take (.cons (.var 0) (.cons (.op .add (.op .mul (.lit (.int 2)) (.var 2)) (.lit (.int 1))) .nil))) (.var 2)))
  (.seq (.asg (.name 4) (.op .sub (.take (.cons (.var 0) (.cons (.op .add (.op .mul (.lit (.int 2)) (.var 2)) (.lit (.int 1))) .nil))) (.var 2)))
  (.seq (.asg (.name 5) (.call 20 true [] (.cons (.var 3) (.cons (.var 4) .nil))))
  (.seq (.ite (.op .eq (.var 5) (.lit (.int 0))) (.ret (.call 22 true [] (.cons (.var 1) (.cons (.lit (.int 0)) (.cons (.op .sub (.lit (.int 1)) (.op .mul (.lit (.int 2)) (.take (.cons (.var 0) (.cons (.lit (.int 2)) .nil))))) .nil))))) .nop)
  (.seq (.asg (.name 6) (.bi .max2 (.cons (.var 5) (.cons (.lit (.int 1)) .nil))))
  (.ret (.call 22 true [] (.cons (.var 1) (.cons (.op .div (.var 3) (.var 6)) (.cons (.op .div (.var 4) (.var 6)) .nil)))))))))))
def d__law_drawn : Df := ⟨2, 7, b__law_drawn⟩
def b__law_spoilt : SS := (.seq (.asgO 3 (.bi .list (.cons (.var 2) .nil)))
  (.seq (.asg (.name 4) (.take (.cons (.var 0) (.cons (.lit (.int 9)) .nil))))
  (.seq (.ite (.op .eq (.var 4) (.lit (.int 0))) (.setO 3 (.op .div (.var 1) (.lit (.int 2))) (.op .add (.lit (.int 1)) (.take (.cons (.var 0) (.cons (.lit (.int 3)) .nil))))) .nop)
  (.seq (.ite (.op .eq (.var 4) (.lit (.int 1))) (.keep 3 (.asgO 3 (.lc .seq (.var 3) (.name 5) .yes (.op .mul (.lit (.int 2)) (.var 5)) [5]))) .nop)
  (.seq (.ite (.op .eq (.var 4) (.lit (.int 2))) (.asgO 3 (.lst (.cons (.lit (.int 0)) (.cons (.lit (.int 0)) (.cons (.lit (.int 0)) .nil))))) .nop)
  (.seq (.ite (.op .eq (.var 4) (.lit (.int 3))) (.setO 3 (.take (.cons (.var 0) (.cons (.lit (.int 3)) .nil))) (.op .ix (.lst (.cons (.lit (.bl true)) (.cons (.lit .non) (.cons (.lit (.str (Str.ofString "1"))) (.cons (.lit (.int 10001)) (.cons (.neg (.lit (.int 10001))) (.cons (.tup (.cons (.lit (.int 1)) .nil)) .nil))))))) (.take (.cons (.var 0) (.cons (.lit (.int 6)) .nil))))) .nop)
  (.seq (.ite (.op .eq (.var 4) (.lit (.int 4))) (.keep 3 (.ret (.op .ix (.lst (.cons (.slc (.var 3) .nop (.part (.lit (.int 2)))) (.cons (.op .add (.var 3) (.lst (.cons (.lit (.int 0)) .nil))) (.cons (.call 27 true [] (.cons (.var 0) .nil)) (.cons (.tup .nil) .nil))))) (.take (.cons (.var 0) (.cons (.lit (.int 4)) .nil)))))) .nop)
  (.seq (.ite (.op .eq (.var 4) (.lit (.int 5))) (.seq (.setO 3 (.op .div (.var 1) (.lit (.int 2))) (.lit (.int 2)))
  (.setO 3 (.op .ix (.call 21 true [] (.cons (.var 1) .nil)) (.lit (.int 0))) (.op .ix (.lst (.cons (.lit (.int 0)) (.cons (.lit (.int 10001)) (.cons (.lit (.bl false)) .nil)))) (.take (.cons (.var 0) (.cons (.lit (.int 3)) .nil)))))) .nop)
  (.seq (.ite (.op .eq (.var 4) (.lit (.int 6))) (.seq (.asgO 3 (.lst (.cons (.lit (.int 0)) (.cons (.lit (.int 0)) (.cons (.lit (.int 0)) .nil)))))
  (.setO 3 (.op .div (.var 1) (.lit (.int 2))) (.lit (.int 1)))) .nop)
  (.keep 3 (.ret (.call 29 true [] (.cons (.var 0) (.cons (.var 3) .nil))))))))))))))
def d__law_spoilt : Df := ⟨3, 6, b__law_spoilt⟩
def b__law_faceless : SS := (.seq (.asg (.name 1) (.call 26 true [] (.cons (.var 0) (.cons (.lit (.int 5)) .nil))))
  (.seq (.asgO 2 (.lst .nil))
  (.seq (.try (.app 2 (.call 4 true [] (.cons (.var 1) (.cons (.tup (.cons (.lit (.int 1)) (.cons (.lit (.int 2)) (.cons (.lit (.int 3)) .nil)))) .nil)))) (.hcons 1 (some 3) (.app 2 (.xf 3 1 (Str.ofString "face"))) .hnil))
  (.seq (.try (.app 2 (.call 8 true [] (.cons (.var 1) (.cons (.lit (.int 1)) (.cons (.lit (.int 2)) .nil))))) (.hcons 1 (some 3) (.app 2 (.xf 3 1 (Str.ofString "face"))) .hnil))
  (.keep 2 (.ret (.call 31 true [] (.cons (.var 2) (.cons (.lst (.cons (.var 1) (.cons (.var 1) .nil))) .nil)))))))))
def d__law_faceless : Df := ⟨1, 4, b__law_faceless⟩
def b_law : SS := (.seq (.ite (.or (.not (.call 36 true [] (.cons (.var 1) .nil))) (.not (.call 40 true [] (.cons (.var 1) .nil)))) (.ret (.lit (.bl false))) .nop)
  (.seq (.asg (.name 2) (.take (.cons (.var 1) (.cons (.lit (.int 6)) .nil))))
  (.seq (.asg (.name 3) (.call 38 true [] (.cons (.var 1) (.cons (.var 2) .nil))))
  (.seq (.asg (.name 4) (.call 21 true [] (.cons (.var 2) .nil)))
  (.seq (.asg (.name 5) (.op .ix (.var 3) (.op .ix (.var 4) (.lit (.int 0)))))
  (.seq (.asg (.name 6) (.op .ix (.var 3) (.op .ix (.var 4) (.lit (.int 1)))))
  (.seq (.ite (.or (.op .ne (.call 7 true [] (.cons (.var 2) (.cons (.bi .list (.cons (.var 3) .nil)) .nil))) (.var 3)) (.op .ne (.call 8 true [] (.cons (.var 2) (.cons (.var 5) (.cons (.var 6) .nil)))) (.var 3))) (.ret (.lit (.bl false))) .nop)
  (.seq (.ite (.or (.op .ne (.call 14 true [] (.cons (.var 2) (.cons (.var 3) .nil))) (.bi .tuple (.cons (.lc .seq (.var 3) (.name 7) .yes (.neg (.var 7)) [7]) .nil))) (.op .ne (.call 15 true [] (.cons (.var 2) (.cons (.bi .list (.cons (.var 3) .nil)) .nil))) (.call 22 true [] (.cons (.var 2) (.cons (.neg (.var 6)) (.cons (.var 5) .nil)))))) (.ret (.lit (.bl false))) .nop)
  (.seq (.asg (.name 8) (.lst (.cons (.tup (.cons (.var 5) (.cons (.var 6) .nil))) (.cons (.tup (.cons (.neg (.var 6)) (.cons (.var 5) .nil))) (.cons (.tup (.cons (.neg (.var 5)) (.cons (.neg (.var 6)) .nil))) (.cons (.tup (.cons (.var 6) (.cons (.neg (.var 5)) .nil))) .nil))))))
  (.seq (.asg (.name 9) (.lc .seq (.var 8) (.name 10) (.and (.op .ge (.op .ix (.var 10) (.lit (.int 0))) (.lit (.int 1))) (.op .ge (.op .ix (.var 10) (.lit (.int 1))) (.lit (.int 0)))) (.var 10) [10]))
  (.seq (.ite (.or (.op .ne (.bi .len (.cons (.var 9) .nil)) (.lit (.int 1))) (.or (.op .ne (.call 11 true [] (.cons (.var 2) (.cons (.var 3) .nil))) (.op .ix (.var 9) (.lit (.int 0)))) (.not (.call 25 true [] (.cons (.call 11 true [] (.cons (.var 2) (.cons (.var 3) .nil))) .nil))))) (.ret (.lit (.bl false))) .nop)
  (.seq (.asg (.name 11) (.take (.cons (.var 1) (.cons (.lit (.int 6)) .nil))))
  (.seq (.ite (.op .ne (.call 16 true [] (.cons (.var 11) (.cons (.var 3) .nil))) (.call 24 true [] (.cons (.var 11) (.cons (.var 3) .nil)))) (.ret (.lit (.bl false))) .nop)
  (.seq (.asg (.name 12) (.call 39 true [] (.cons (.var 1) (.cons (.var 2) (.cons (.var 3) .nil)))))
  (.seq (.asg (.name 13) (.call 37 true [] (.cons (.var 2) (.cons (.var 12) .nil))))
  (.seq (.for .seq (.lst (.cons (.fnv 7) (.cons (.fnv 11) (.cons (.fnv 15) (.cons (.fnv 14) .nil))))) (.name 14) (.seq (.asg (.name 15) (.call 34 true [] (.cons (.var 14) (.cons (.var 2) (.cons (.var 12) .nil)))))
  (.seq (.ite (.and (.notN (.var 13)) (.op .ne (.var 15) (.lst (.cons (.lit (.str (Str.ofString "BadDirection"))) (.cons (.var 13) .nil))))) (.ret (.lit (.bl false))) .nop)
  (.seq (.ite (.and (.isN (.var 13)) (.isi (.var 15) .list)) (.ret (.lit (.bl false))) .nop)
  (.ite (.not (.call 31 true [] (.cons (.call 34 true [] (.cons (.var 14) (.cons (.op .add (.var 11) (.lit (.int 6))) (.cons (.var 12) .nil)))) (.cons (.lst (.cons (.lit (.str (Str.ofString "BadFace"))) (.cons (.op .add (.var 11) (.lit (.int 6))) .nil))) .nil)))) (.ret (.lit (.bl false))) .nop)))))
  (.ret (.lit (.bl true)))))))))))))))))))
def d_law : Df := ⟨1, 16, b_law⟩
def dfs : List (Option Df) := [some d_is_whole, some d_is_sequence, some d_check_face, some d_face_axes, some d_framed, some d_check_slope, some d_mirrored_slope, some d_check_direction, some d_unframed, some d_quarter_turns, some d_directions_on, some d_slope_of, some d_slope_on, some d_reversed_direction, some d_back_of, some d_left_of, some d_outward_step, none, none, none, some d__law_common, some d__law_axes, some d__law_steps, some d__law_four, some d__law_out, some d__law_tuples, some d__law_odd, some d__law_rid, some d__law_whole, some d__law_shaped, some d__law_plain, some d__law_like, some d__law_slope_of, some d__law_mirror, some d__law_deed, some d__law_is_slope, some d__law_slopes, some d__law_word, some d__law_drawn, some d__law_spoilt, some d__law_faceless, none]
def cons : List D := [(.tup [(.tup [(.int 2), (.int 1)]), (.tup [(.int 1), (.int 2)]), (.tup [(.int 0), (.int 2)]), (.tup [(.int 2), (.int 0)]), (.tup [(.int 1), (.int 0)]), (.tup [(.int 0), (.int 1)])]), (.tup [(.int 1), (.int 0)])]
def xfs : List (List Str) := [[], [Str.ofString "face"], [Str.ofString "slope"], [Str.ofString "what"]]
def subs : List ((Nat × Nat) × Bool) := [((3, 3), true), ((3, 1), false), ((3, 2), false), ((3, 0), true), ((1, 3), false), ((1, 1), true), ((1, 2), false), ((1, 0), true), ((2, 3), false), ((2, 1), false), ((2, 2), true), ((2, 0), true)]
def tx : Text := ⟨fun i => (dfs[i]?).join, fun k => cons.getD k (.adr 0), fun _ => [], fun c => xfs.getD c [], fun a b => subs.lookup (a, b), 100000, fun f => [14, 7, 10, 15, 11].contains f⟩
abbrev n_is_whole : Nat := 0
abbrev n_is_sequence : Nat := 1
abbrev n_check_face : Nat := 2
abbrev n_face_axes : Nat := 3
abbrev n_framed : Nat := 4
abbrev n_check_slope : Nat := 5
abbrev n_mirrored_slope : Nat := 6
abbrev n_check_direction : Nat := 7
abbrev n_unframed : Nat := 8
abbrev n_quarter_turns : Nat := 9
abbrev n_directions_on : Nat := 10
abbrev n_slope_of : Nat := 11
abbrev n_slope_on : Nat := 12
abbrev n_reversed_direction : Nat := 13
abbrev n_back_of : Nat := 14
abbrev n_left_of : Nat := 15
abbrev n_outward_step : Nat := 16
abbrev n__law_hand : Nat := 17
abbrev n__law_mixed : Nat := 18
abbrev n__law_take : Nat := 19
abbrev n__law_common : Nat := 20
abbrev n__law_axes : Nat := 21
abbrev n__law_steps : Nat := 22
abbrev n__law_four : Nat := 23
abbrev n__law_out : Nat := 24
abbrev n__law_tuples : Nat := 25
abbrev n__law_odd : Nat := 26
abbrev n__law_rid : Nat := 27
abbrev n__law_whole : Nat := 28
abbrev n__law_shaped : Nat := 29
abbrev n__law_plain : Nat := 30
abbrev n__law_like : Nat := 31
abbrev n__law_slope_of : Nat := 32
abbrev n__law_mirror : Nat := 33
abbrev n__law_deed : Nat := 34
abbrev n__law_is_slope : Nat := 35
abbrev n__law_slopes : Nat := 36
abbrev n__law_word : Nat := 37
abbrev n__law_drawn : Nat := 38
abbrev n__law_spoilt : Nat := 39
abbrev n__law_faceless : Nat := 40
abbrev n_law : Nat := 41
end K04

set_option Elab.async false
set_option linter.all false
set_option maxRecDepth 100000
namespace Ez
open PySem PyProof.Rows
/-! ### sorted of a list of tuples of ints, all of one length, of any size and sign -/
section
variable {P : Program} {w : World} {A : Around} {s : Shared} {Z : Bool → Shared → Prop}
theorem katLexI {b : Bool} : ∀ {us vs : List Value} {ms ns : List Int} (j : Nat), IntsAre us ms → IntsAre vs ns → ms.length = ns.length → Z (HT.lexLt ms ns) s → PySem.W.KatLex P w A b false Z (us.zip vs) j s
  | _, _, _, _, j, .nil, .nil, _, z => PySem.W.kat_nil (show Z false s from z)
  | _, _, _, _, j, .nil, .cons _ _ _, e, _ => by simp at e
  | _, _, _, _, j, .cons _ _ _, .nil, e, _ => by simp at e
  | _, _, m :: ms, n :: ns, j, .cons _ a hu, .cons _ c hv, e, z => by
    refine PySem.W.kat_cons (SeqAt.EqAt.int_int m a n c P w _ _ ?_)
    rw [HT.lexLt_cons] at z
    refine PySem.W.kat_go (fun q => PySem.W.kat_yes ?_) (fun q => PySem.W.kat_no (TS.oneLt_ints _ ?_))
    · have q' : m = n := by simpa using q
      rw [if_pos q'] at z
      exact katLexI (j + 1) hu hv (by simpa using e) z
    · have q' : ¬ m = n := by simpa using q
      rw [if_neg q'] at z
      exact z
theorem cmpT {us : List Value} {k : Value → List Int} {d : Nat} (hp : ∀ u ∈ us, TS.TupInts s.heap u (k u) ∧ (k u).length = d) : SrtO.Cmp P w A s (tuples' true) (fun p => p.1 ∈ us) (SrtO.lt2 fun a c => HT.lexLt (k a) (k c)) := by
  intro p q m1 m2
  obtain ⟨⟨a, xs, ea, ⟨o, ho, _, n, hd⟩, hi⟩, ha⟩ := hp _ m1
  obtain ⟨⟨c, ys, ec, ⟨o', ho', _, n', hd'⟩, hi'⟩, hc⟩ := hp _ m2
  show wpAny (model P w) A (keyLt' (tuples' true) p.1 q.1) (fun r s' => s' = s ∧ r = HT.lexLt (k p.1) (k q.1)) (fun _ _ => False) s
  have g := katLexI (P := P) (w := w) (A := A) (s := s) (b := true) (Z := fun r s' => s' = s ∧ r = HT.lexLt (k p.1) (k q.1)) 0 hi hi' (ha.trans hc.symm) ⟨rfl, rfl⟩
  have z : decide (xs.size < ys.size) = false := by
    have l1 := hi.length
    have l2 := hi'.length
    simp only [Array.length_toList] at l1 l2
    exact decide_eq_false (by omega)
  rw [ea, ec] at *
  refine PySem.W.kat_lt ho hd ho' hd' ?_
  rw [z]
  exact g
theorem firstsT {h : Heap} : ∀ {us : List Value}, (∀ u ∈ us, ∃ ns, TS.TupInts h u ns ∧ 1 ≤ ns.length) → ∃ fs : List Value, PySem.W.KatTups h us fs ∧ fs.length = us.length ∧ ∀ f ∈ fs, ∃ n t, f = Value.int n t
  | [], _ => ⟨[], PySem.W.KatTups.nil, rfl, fun _ hf => absurd hf (by simp)⟩
  | u :: us, x => by
    obtain ⟨fs, g1, g2, g3⟩ := firstsT fun v hv => x v (List.mem_cons_of_mem _ hv)
    obtain ⟨ns, ⟨a, xs, rfl, ⟨o, ho, hc, n, hd⟩, hi⟩, l1⟩ := x u List.mem_cons_self
    cases e : xs.toList with
    | nil =>
      rw [e] at hi
      have l2 := hi.length
      simp only [List.length_nil] at l2
      omega
    | cons y ys =>
      obtain ⟨m, t, rfl⟩ := hi.all y (by rw [e]; exact List.mem_cons_self)
      refine ⟨_ :: fs, PySem.W.KatTups.cons (f := .int m t) ho hc hd ?_ g1, by rw [List.length_cons, List.length_cons, g2], fun f hf => ?_⟩
      · rw [← Array.getElem?_toList, e]; rfl
      · rcases List.mem_cons.mp hf with rfl | hf
        · exact ⟨m, t, rfl⟩
        · exact g3 f hf
theorem ableT {a : Addr} {us : List Value} {k : Value → List Int} {d : Nat} (h0 : 0 < us.length) (hd : 1 ≤ d) (hp : ∀ u ∈ us, TS.TupInts s.heap u (k u) ∧ (k u).length = d) (ha : ∀ o, s.heap.get? a = some o → o.cls ≠ .type "tuple") :
    SrtO.SortableO P w A s a us fun x y => HT.lexLt (k x) (k y) := by
  intro h' kp
  have hq : ∀ u ∈ us, TS.TupInts h' u (k u) ∧ (k u).length = d := fun u hu => ⟨(hp u hu).1.keeps fun b o e c => kp b o (fun z => by subst z; exact ha o e c) e, (hp u hu).2⟩
  obtain ⟨fs, g1, g2, g3⟩ := firstsT fun u hu => ⟨_, (hq u hu).1, by rw [(hq u hu).2]; exact hd⟩
  refine ⟨tuples' true, fun R E r => ?_, cmpT hq⟩
  refine PySem.W.kat_kind (T := .type "int") g1 (by omega) (fun f hf => ?_) (by rfl) ?_
  · obtain ⟨m, t, rfl⟩ := g3 f hf
    exact PySem.W.Looks.now
  · exact r
end
open L2 PySem.Spec
def F2 {α β : Type} (R : α → β → Prop) : List α → List β → Prop
  | [], [] => True
  | a :: l, b :: m => R a b ∧ F2 R l m
  | _, _ => False
theorem F2.left {α β : Type} {R : α → β → Prop} : ∀ {l : List α} {m : List β}, F2 R l m → ∀ a ∈ l, ∃ b ∈ m, R a b
  | [], [], _, a, h => absurd h (by simp)
  | x :: l, y :: m, ⟨h1, h2⟩, a, h => by
    rcases List.mem_cons.mp h with rfl | h
    · exact ⟨y, List.mem_cons_self, h1⟩
    · obtain ⟨b, hb, r⟩ := F2.left h2 a h
      exact ⟨b, List.mem_cons_of_mem _ hb, r⟩
theorem F2.map {α β γ : Type} {R : α → β → Prop} {f : γ → α} {g : γ → β} : ∀ {l : List γ}, (∀ x ∈ l, R (f x) (g x)) → F2 R (l.map f) (l.map g)
  | [], _ => trivial
  | x :: l, h => ⟨h x List.mem_cons_self, F2.map fun y hy => h y (List.mem_cons_of_mem _ hy)⟩
theorem F2.back {α β γ : Type} {R : α → β → Prop} {f : γ → α} {g : γ → β} : ∀ {l : List γ} {m : List β}, F2 R (l.map f) m → (∀ x ∈ l, ∀ b, R (f x) b → b = g x) → m = l.map g
  | [], [], _, _ => rfl
  | [], _ :: _, h, _ => h.elim
  | _ :: _, [], h, _ => h.elim
  | x :: l, b :: m, ⟨h1, h2⟩, k => by
    rw [k x List.mem_cons_self b h1, F2.back h2 fun y hy => k y (List.mem_cons_of_mem _ hy)]
    rfl
/-- sorted(xs), xs a list of tuples of d ints; R says which -/
def rSortX (K : PySem.W.Frag) : List V → Hp → VK → Prop := fun vs H Q => ∃ (a : Addr) (xs : List V) (ts : List (List Int)) (R : V → List Int → Prop) (d : Nat), vs = [V.ref a] ∧ SqL K H a xs ∧ 1 ≤ d ∧ (∀ x n, R x n → TupI K H x n ∧ n.length = d) ∧ F2 R xs ts ∧
  ∀ ys ms p, ms.Perm ts → SrtO.Srtd HT.lexLt ms → F2 R ys ms → H p = none → Q (.ref p) (upd H p (.lst ys))
theorem cr_sortX {X : Cx} : CallR X (.builtin "sorted") (rSortX X.K) := by
  intro pins s σ H vs us Q I rv g
  obtain ⟨a, xs, ts, R, d, rfl, sq, hd, hR, hx, q⟩ := g
  obtain ⟨its, ri, hl, hz⟩ := I.list sq
  rw [Vals.ref1 rv]
  obtain ⟨e1, e2⟩ := bkV_refs ri fun x m => by
    obtain ⟨n, _, r⟩ := hx.left x m
    obtain ⟨⟨t, e, _⟩, _⟩ := hR x n r
    exact ⟨t, e⟩
  have raw : ∀ u ∈ its, ∀ n, R (bkV u) n → TS.TupInts s.heap u n ∧ n.length = d := fun u hu n r => by
    obtain ⟨t, rfl⟩ := e2 u hu
    obtain ⟨⟨t', e, ht⟩, l⟩ := hR _ n r
    cases e
    exact ⟨tupI_raw I ht, l⟩
  have own : ∀ u ∈ its, R (bkV u) (TS.intsOf s.heap u) := fun u hu => by
    obtain ⟨n, _, r⟩ := hx.left (bkV u) (by rw [e1]; exact List.mem_map.mpr ⟨u, hu, rfl⟩)
    rw [(raw u hu n r).1.ints]
    exact r
  have ts_eq : ts = its.map (TS.intsOf s.heap) := F2.back (f := bkV) (by rw [← e1]; exact hx) fun u hu n r => (raw u hu n r).1.ints.symm
  refine SrtO.sorted_ord (ltv := fun u v => HT.lexLt (TS.intsOf s.heap u) (TS.intsOf s.heap v)) (NtL.swo_lexL _) hl.isList (by rw [← ri.length]; exact hz) (fun h2 h₁ b hb kk => ?_) fun out o1 o2 => ?_
  · refine ableT (s := { s with heap := h₁ }) (k := TS.intsOf s.heap) (by omega) hd (fun u hu => ?_) fun o e => ?_
    · obtain ⟨t1, t2⟩ := raw u hu _ (own u hu)
      exact ⟨t1.keeps fun c o e _ => (kk c o e).2, t2⟩
    have e' := e.symm.trans hb
    cases e'
    intro c
    exact absurd (Value.type.inj c) (by decide)
  · obtain ⟨n, hn⟩ := PyProof.Rows.sortedAll_at s.heap its out.toArray
    have g3 : ∀ u ∈ out, ∃ a, u = Value.ref a := fun u hu => e2 u (o2.perm.mem_iff.mp hu)
    refine ⟨.ref _, upd H (s.heap.objs.size + 1) (.lst (out.map bkV)), I.laid (t' := s.toks) (fun _ _ e => PyProof.Rows.sortedAll_old e) (Nat.le_succ _) ⟨?_, out, n, bkV_vals g3, hn⟩, rfl, q _ (out.map (TS.intsOf s.heap)) _ ?_ ?_ (F2.map fun u hu => own u (o2.perm.mem_iff.mp hu)) (I.hok.fresh (Nat.le_succ _))⟩
    · rw [List.length_map, o2.len, ← ri.length]
      exact hz
    · rw [ts_eq]
      exact o2.perm.map _
    · exact List.pairwise_map.mpr o1
/-- both kinds -/
def rSortB (K : PySem.W.Frag) : List V → Hp → VK → Prop := fun vs H Q => rSorted K vs H Q ∨ rSortX K vs H Q
theorem cr_sortB {X : Cx} : CallR X (.builtin "sorted") (rSortB X.K) := fun pins s σ H vs us Q I rv g => by
  rcases g with g | g
  · exact cr_sorted pins s σ H vs us Q I rv g
  · exact cr_sortX pins s σ H vs us Q I rv g
theorem cr_sortBK {X : Cx} {K : PySem.W.Frag} (e : X.K = K) : CallR X (.builtin "sorted") (rSortB K) := e ▸ cr_sortB
end Ez

set_option Elab.async false
set_option linter.all false
set_option maxRecDepth 100000
namespace Ez
open L2 PySem PyProof.Rows PySem.Spec
/-! ### rules joined -/
def rOr (r r' : R2) : R2 := fun x y H Q => r x y H Q ∨ r' x y H Q
theorem opOr {X : Cx} {f : Value → Value → Sem Value} {r r' : R2} (h : OpR X f r) (h' : OpR X f r') : OpR X f (rOr r r') := fun pins s σ H x y v u Q I a b c => c.elim (h pins s σ H x y v u Q I a b) (h' pins s σ H x y v u Q I a b)
def rInT (K : PySem.W.Frag) : R2 := fun x y H Q => ∃ d ds, Dp K H x d ∧ Dp K H y (.tuple ds) ∧ SeqAt.shaped d = true ∧ SeqAt.shaped (.tuple ds) = true ∧ Q (.bl (ds.any fun z => PyData.eqv z d)) H
def rNotInT (K : PySem.W.Frag) : R2 := fun x y H Q => ∃ d ds, Dp K H x d ∧ Dp K H y (.tuple ds) ∧ SeqAt.shaped d = true ∧ SeqAt.shaped (.tuple ds) = true ∧ Q (.bl (!ds.any fun z => PyData.eqv z d)) H
section
variable {X : Cx}
theorem op_inT (hu : X.A.units + 65 < cLine) : OpR X (compareOp .In) (rInT X.K) := by
  intro pins s σ H x y v u Q I rx ry h
  obtain ⟨d, ds, hd, he, sd, se, q⟩ := h
  obtain ⟨as, r1⟩ := Dp.reads I d x v hd rx
  obtain ⟨bs, r2⟩ := Dp.reads I (.tuple ds) y u he ry
  exact SeqAt.in_tuple_reads r2 r1 (SeqAt.canLay_of_shaped se) (SeqAt.canLay_of_shaped sd) (room_in_shaped sd hu) ⟨.bl _, H, I, rfl, q⟩
theorem op_notInT (hu : X.A.units + 65 < cLine) : OpR X (compareOp .NotIn) (rNotInT X.K) := by
  intro pins s σ H x y v u Q I rx ry h
  obtain ⟨d, ds, hd, he, sd, se, q⟩ := h
  obtain ⟨as, r1⟩ := Dp.reads I d x v hd rx
  obtain ⟨bs, r2⟩ := Dp.reads I (.tuple ds) y u he ry
  exact SeqAt.notIn_tuple_reads r2 r1 (SeqAt.canLay_of_shaped se) (SeqAt.canLay_of_shaped sd) (room_in_shaped sd hu) ⟨.bl _, H, I, rfl, q⟩
/-- + of ints, lists, tuples -/
def rAdd (K : PySem.W.Frag) : R2 := rOr (rI0 fun i j => .int (i + j)) (rOr rCat (rCatA K))
theorem op_addA : OpR X (binaryOp .Add) (rAdd X.K) := opOr op_add (opOr op_cat op_catA)
def rMul : R2 := rOr (rI CMulW fun i j => .int (i * j)) rRep
theorem op_mulA : OpR X (binaryOp .Mult) rMul := opOr op_mulW op_rep
theorem op_inA (hu : X.A.units + 65 < cLine) : OpR X (compareOp .In) (rOr (rInD X.K) (rInT X.K)) := opOr (op_inD hu) (op_inT hu)
theorem op_notInA (hu : X.A.units + 65 < cLine) : OpR X (compareOp .NotIn) (rOr (rNotInD X.K) (rNotInT X.K)) := opOr (op_notInD hu) (op_notInT hu)
/-- what stands still is walked: a list, a tuple -/
def iSeq (K : PySem.W.Frag) (tl : TE) : TI := fun σ H R => tl σ H fun x H1 => ∃ a, x = .ref a ∧ (((∃ xs, SqL K H1 a xs) ∧ R (Itl K a) H1) ∨ ((∃ xs, SqT K H1 a xs) ∧ R (Itt K a) H1))
theorem pi_seq {tg l : Expr} {tl : TE} (hl : PE X l tl) : PI X tg l (iSeq X.K tl) := by
  refine ⟨fun pins s σ H R I h => ?_⟩
  refine thn (hl.run pins s σ H _ I h) fun v s1 ⟨x, H1, I1, r1, q1⟩ => ?_
  obtain ⟨a, e, q1⟩ := q1
  subst e
  cases r1
  rcases q1 with ⟨⟨xs, hq⟩, q⟩ | ⟨⟨xs, hq⟩, q⟩
  · obtain ⟨its, rv, p, hz⟩ := I1.list hq
    refine wpAny_pyIter_list p.isList ?_
    refine ⟨s1.heap.objs.size, [s1.heap.objs.size], _, _, H1, rfl, I1.kept (t' := s1.toks) fun b o e => Heap.get?_push_of_some _ e, turn_list a _, ⟨_, Heap.get?_push_size _ rfl, rfl, rfl⟩, fun b hb => ?_, q⟩
    have e : b = s1.heap.objs.size := by simpa using hb
    subst e
    exact I1.fpOk (Nat.le_refl _) (I1.hok.fresh (Nat.le_refl _))
  · obtain ⟨its, rv, p, hz⟩ := I1.tuple hq
    refine wpAny_pyIter_tuple (show s1.heap.IsTuple a its.toArray from p) ?_
    refine ⟨s1.heap.objs.size, [s1.heap.objs.size], _, _, H1, rfl, I1.kept (t' := s1.toks) fun b o e => Heap.get?_push_of_some _ e, turn_tuple a _, ⟨_, Heap.get?_push_size _ rfl, rfl, rfl⟩, fun b hb => ?_, q⟩
    have e : b = s1.heap.objs.size := by simpa using hb
    subst e
    exact I1.fpOk (Nat.le_refl _) (I1.hok.fresh (Nat.le_refl _))
/-- a, b, .. = a tuple or a list of that length -/
def gSeq (K : PySem.W.Frag) (n : Nat) (t : TGs) : TG := fun v σ H Q => gTup K n t v σ H Q ∨ gLst K n t v σ H Q
theorem pg_seq {es : List Expr} {k : Nat} {t : TGs} {n : Nat} {pos : Pos} (hc : X.calm = true) (h : PGs X es t)
    (hn : (assignEach es X.env).length = n := by rfl) (hst : (assignEach es X.env).findIdx? (·.1) = none := by rfl) : PG X (.Tuple es k pos) (gSeq X.K n t) :=
  ⟨fun pins s σ H v u Q I r hw => hw.elim ((pg_tup hc h hn hst).run pins s σ H v u Q I r) ((pg_lst hc h hn hst).run pins s σ H v u Q I r)⟩
def rSlQ (K : PySem.W.Frag) : V → Option Int → Option Int → Hp → VK → Prop := fun x lo hi H Q => rSlL K x lo hi H Q ∨ rSlA K x lo hi H Q
theorem sl_seq : SlR X (rSlQ X.K) := sl_list.or sl_tupA
end
/-! ### defs about which nothing is being printed -/
section
variable {P : Program} {w : World} {K : PySem.W.Frag} {mg : Str → Option Value} {base : Heap} {sp : Sp} {ps : List Str} {k : Nat}
theorem fnG_ofD {x qual : Str} {params : Arguments} {body : List Stmt} {scope : Scope} {dvs : List V} {kws : List (Str × V)} {f : Addr} {fd : FuncData} {N : List Str} (F : FunD K x qual params body scope dvs kws f fd) (S : FnScope N ps scope) (len : ∀ vs H Q E, sp vs H Q E → vs.length = ps.length)
    (bodyR : ∀ (cdv : Value) (A : Around) (outer : List Env) (s : Shared) (H : Hp) (vs : List V) (Q : VK) (E : XK), A.guards = some [] → Room k (A.deeper (envOfC qual scope s.heap.objs.size f cdv)) → sp vs H Q E →
      ∃ t, PSs (cxOf (L2N.CX P w) P w K mg base N qual scope f cdv A outer s H E) body t ∧ t ⟨fun _ h => Q .non h, Q, fun _ _ => False, fun _ _ => False⟩ (start N vs) H) : FnG P w K mg base (k + 1) f fd ps sp := by
  refine ⟨len, ?_⟩
  intro A outer s H args us vs Q E room gs env bound rel h
  obtain ⟨oc, od, dflt, kV, doc, pm, an, cdv, ct, sl, eq, look, code, rest⟩ := F.ex
  subst eq
  have up : ∀ b o, base.get? b = some o → s.heap.get? b = some o := fun b o e => (env.bs b o e).1
  have kin := env.mod.kin.keeps up
  refine codeAny_call_function room.depth (kin _ _ look) rfl S.co S.gen rfl (PySem.W.codeRec_of kin code) (bound _ _ _ _ ?_)
  refine wpAny_newFunctionEnv_cells S.kind (fun y hy => ?_) ?_
  · rcases S.par y.1 (List.of_mem_zip (a := y.1) (b := y.2) hy).1 with z | z
    · exact Or.inl z
    · exact Or.inr ⟨z, PySem.W.cellsFrom_some _ _ _ (Or.inl z)⟩
  · intro env1 e1 s1 ic
    subst e1
    refine ⟨(env.mod.nolimit.keeps up).keeps ic.toInCall.keep, codeAny_func ?_⟩
    obtain ⟨t, d, p⟩ := bodyR cdv A outer s H vs Q E gs (room.deeper _) h
    refine wpAny_mono (d.run [] s1 (start N vs) H _ (inv_start S room.hd env (len vs H Q E h) rel ic) p) ?_ fun _ _ z => z
    intro fl s2 z
    match fl, z with
    | .ret u, ⟨v, σ2, H2, J, rv, q⟩ => exact ⟨v, H2, J.os, J.bare, J.base, J.hok, rv, q⟩
    | .next, ⟨σ2, H2, J, q⟩ => exact ⟨V.non, H2, J.os, J.bare, J.base, J.hok, rfl, q⟩
    | .brk, ⟨_, _, _, q⟩ => exact q.elim
    | .cont, ⟨_, _, _, q⟩ => exact q.elim
end
section
variable {X : Cx} {k : Nat} {f : Addr} {fd : FuncData} {ps : List Str} {sp : Sp} {dvs : List V} {ds : List Value} {x : Str} {p pos : Pos} {e : Expr} {es : List Expr} {ta : TA}
theorem run_G {E : XK} {pins : List (Addr × Obj)} {σ : L2.St} {H : Hp} {s : Shared} {Q : VK} {us : List Value} {vs : List V} (F : FnG X.prog X.w X.K X.mg X.base k f fd ps sp) (hr : Room k X.A) (gs : X.A.guards = some []) (hb : Binds X.K fd ps ds) (hd : Vals dvs ds) (hx : PassesAt (L2N.CX X.prog X.w) X σ E)
    (I : Inv X pins σ H s) (r : Vals vs us) (q : sp (vs ++ dvs) H Q E) : wpAny (model X.prog X.w) X.A (PySem.call (.ref f) us) (EP X pins σ Q) X.xe s := by
  refine wpAny_call (codeAny_mono (F.go X.A X.stack s H ⟨us, []⟩ (us ++ ds) (vs ++ dvs) Q E hr gs I.env0 (hb s us I.kIn ?_) (r.append hd) q) ?_)
  · rw [← (r.append hd).length]; exact F.size _ _ _ _ q
  · intro res s2 z
    match res, z with
    | .error u, z => exact hx pins H s u s2 I z
    | .ok (.ret u), z => exact I.after z
    | .ok .next, z => exact z.elim
    | .ok .brk, z => exact z.elim
    | .ok .cont, z => exact z.elim
/-- a call of a def by its name, what is raised is wished for at the caller's slots -/
theorem pe_callGS {E : L2.St → XK} (F : FnG X.prog X.w X.K X.mg X.base k f fd ps sp) (hr : Room k X.A) (gs : X.A.guards = some []) (hg : Gl X x) (hm : X.mg x = some (.ref f)) (hk : PySem.W.keepIn X.K (.ref f) = true) (hb : Binds X.K fd ps ds) (hd : Vals dvs ds) (hx : ∀ σ, PassesAt (L2N.CX X.prog X.w) X σ (E σ))
    (ha : PA X (e :: es) ta) (hdb : (x == ("__debug__" : Str)) = false := by decide) (he : starEach (e :: es) X.env = (false, eval e X.env) :: starEach es X.env := by rfl) (hpl : (backTo pos (starEach es X.env)).any (·.1) = false := by rfl) :
    PE X (.Call (.Name x p) (e :: es) [] pos) (tCallSD sp dvs E ta) := by
  constructor
  intro pins s σ H Q I h
  refine wpAny_Call_Name_kw (ld_glob I hg (pos := p) hm ?_ hdb)
  refine PySem.W.callWith_K (h₀ := X.base) I.ok.mod.kin hk (thn (ha.run pos pins s σ H _ I h) ?_) he hpl
  rintro us s1 ⟨vs, H1, J, r, q⟩
  exact ⟨J.kIn, run_G F hr gs hb hd (hx σ) J r q⟩
theorem pe_callGS0 {E : L2.St → XK} (F : FnG X.prog X.w X.K X.mg X.base k f fd ps sp) (hr : Room k X.A) (gs : X.A.guards = some []) (hg : Gl X x) (hm : X.mg x = some (.ref f)) (hk : PySem.W.keepIn X.K (.ref f) = true) (hb : Binds X.K fd ps ds) (hd : Vals dvs ds) (hx : ∀ σ, PassesAt (L2N.CX X.prog X.w) X σ (E σ))
    (hdb : (x == ("__debug__" : Str)) = false := by decide) : PE X (.Call (.Name x p) [] [] pos) (tCallSD sp dvs E tNil) := by
  constructor
  intro pins s σ H Q I h
  refine wpAny_Call_Name_kw (ld_glob I hg (pos := p) hm ?_ hdb)
  exact PySem.W.callWith_K0 I.kIn hk (run_G (us := []) F hr gs hb hd (hx σ) I .nil h)
/-- a local name that holds one of several defs -/
def tCallV (fn : Nat → Addr) (ok : Nat → Bool) (spf : Nat → Sp) (i : Nat) (E : L2.St → XK) (t : TA) : TE := fun σ H Q => ∃ f, ok f = true ∧ σ[i]? = some (some (.ref (fn f))) ∧ t σ H fun vs H1 => spf f vs H1 Q (E σ)
theorem pe_callV {fn : Nat → Addr} {ok : Nat → Bool} {spf : Nat → Sp} {i : Nat} {E : L2.St → XK} (A : ∀ f, ok f = true → ∃ (fd : FuncData) (ps : List Str), FnG X.prog X.w X.K X.mg X.base k (fn f) fd ps (spf f) ∧ PySem.W.keepIn X.K (.ref (fn f)) = true ∧ Binds X.K fd ps []) (hr : Room k X.A) (gs : X.A.guards = some []) (hN : X.N[i]? = some x) (hv : Vis X.env.scope x)
    (hx : ∀ σ, PassesAt (L2N.CX X.prog X.w) X σ (E σ)) (ha : PA X (e :: es) ta)
    (hdb : (x == ("__debug__" : Str)) = false := by decide) (hcd : (x == ("__classdict__" : Str)) = false := by decide)
    (he : starEach (e :: es) X.env = (false, eval e X.env) :: starEach es X.env := by rfl) (hpl : (backTo pos (starEach es X.env)).any (·.1) = false := by rfl) : PE X (.Call (.Name x p) (e :: es) [] pos) (tCallV fn ok spf i E ta) := by
  refine ⟨fun pins s σ H Q I h => ?_⟩
  obtain ⟨f, ho, hs, ht⟩ := h
  obtain ⟨fd, ps, F, hk, hB⟩ := A f ho
  refine wpAny_Call_Name_kw (thn ((pe_var (pos := p) hN hv hdb hcd).run pins s σ H (fun v H1 => v = .ref (fn f) ∧ H1 = H) I ⟨.ref (fn f), hs, rfl, rfl⟩) fun u s1 ⟨v, H1, I1, r1, q1⟩ => ?_)
  obtain ⟨rfl, rfl⟩ := q1
  cases r1
  refine PySem.W.callWith_K (h₀ := X.base) I.ok.mod.kin hk (thn (ha.run pos pins s1 σ _ _ I1 ht) fun us s2 ⟨vs, H2, I2, r, q⟩ => ⟨I2.kIn, ?_⟩) he hpl
  have q2 : spf f (vs ++ []) H2 Q (E σ) := by rw [List.append_nil]; exact q
  exact run_G (ds := []) F hr gs hB .nil (hx σ) I2 r q2
end
end Ez

set_option Elab.async false
set_option linter.all false
set_option maxRecDepth 100000
namespace Ez
open L2 PySem PyProof.Rows PySem.Spec
/-! ### the readings of the syntax -/
inductive Snk
  | no
  | out (E : XK)
  | tr (W : WX)
def Snk.at : Snk → L2.St → XK
  | .no => fun _ => E0
  | .out E => fun _ => E
  | .tr W => WE W
structure Dn where
  K : KB
  sp : Nat → Sp
  ok : Nat → Bool
  con : Nat → Addr
  take : Sp
  snk : Snk
  sx : Addr × Value × Option Addr
structure Dq where
  e : TE
  t : TT
  a : TA
  o : TO
def TE.no : TE := fun _ _ _ => False
def taOf (K : PySem.W.Frag) (te : TE) : TA := fun σ H Q => te σ H fun v H1 => ∃ a xs, v = .ref a ∧ SqT K H1 a xs ∧ Q xs H1
def toOf (te : TE) : TO := fun σ H Q => te σ H fun v H1 => (v = .non ∧ Q none H1) ∨ ∃ i, v = .int i ∧ Q (some i) H1
def Dn.of (κ : Dn) (te : TE) : Dq := ⟨te, tB te, taOf κ.K te, toOf te⟩
def Dn.wt (κ : Dn) (te : TE) (tt : TT) : Dq := ⟨te, tt, taOf κ.K te, toOf te⟩
def den2 (K : PySem.W.Frag) : Op2 → R2
  | .add => rAdd K
  | .sub => rI0 fun i j => .int (i - j)
  | .mul => rMul
  | .div => rI CDivZ fun i j => .int (i.fdiv j)
  | .mod => rI (fun _ j => 0 < j) fun i j => .int (i % j)
  | .pow => rI CPow fun i j => .int (i ^ j.toNat)
  | .shl => rI CPow fun i j => .int (i * 2 ^ j.toNat)
  | .shr => rI (fun _ j => 0 ≤ j) fun i j => .int (i / 2 ^ j.toNat)
  | .and => rI0 fun i j => .int (Builtin.bitAnd i j)
  | .or => rI0 fun i j => .int (Builtin.bitOr i j)
  | .xor => rI0 fun i j => .int (Builtin.bitXor i j)
  | .lt => rI0 fun i j => .bl (decide (i < j))
  | .le => rI0 fun i j => .bl (decide (i ≤ j))
  | .gt => rI0 fun i j => .bl (decide (j < i))
  | .ge => rI0 fun i j => .bl (decide (j ≤ i))
  | .eq => rEqD K
  | .ne => rNeD K
  | .inn => rOr (rInD K) (rInT K)
  | .nin => rOr (rNotInD K) (rNotInT K)
  | .isB => fun x y H Q => ∃ a b, x = .bl a ∧ y = .bl b ∧ Q (.bl (decide (a = b))) H
  | .isnB => fun x y H Q => ∃ a b, x = .bl a ∧ y = .bl b ∧ Q (.bl (!decide (a = b))) H
  | .ix => rIx K
abbrev CRd := List V → Hp → VK → Prop
def crLen (K : PySem.W.Frag) : CRd := fun zs H Q => ∃ p ys, zs = [.ref p] ∧ (SqL K H p ys ∨ SqT K H p ys) ∧ Q (.int ys.length) H
def crAbs : CRd := fun zs H Q => ∃ i, zs = [.int i] ∧ Q (.int (if i < 0 then -i else i)) H
def crInt : CRd := fun zs H Q => (∃ i, zs = [.int i] ∧ Q (.int i) H) ∨ ∃ k, zs = [.bl k] ∧ Q (.int (if k then 1 else 0)) H
def crMin : CRd := fun zs H Q => ∃ i j, zs = [.int i, .int j] ∧ Q (.int (if j < i then j else i)) H
def crMax : CRd := fun zs H Q => ∃ i j, zs = [.int i, .int j] ∧ Q (.int (if j > i then j else i)) H
def crList (K : PySem.W.Frag) : CRd := fun zs H Q => ∃ p ys, zs = [.ref p] ∧ (SqL K H p ys ∨ SqT K H p ys) ∧ ∀ l, H l = none → Q (.ref l) (upd H l (.lst ys))
def crTup (K : PySem.W.Frag) : CRd := fun zs H Q => ∃ p ys, zs = [.ref p] ∧ ((SqL K H p ys ∧ ∀ l, H l = none → Q (.ref l) (upd H l (.tup ys))) ∨ (SqT K H p ys ∧ Q (.ref p) H))
def crGcd3 : CRd := fun zs H Q => ∃ i j k : Int, zs = [.int i, .int j, .int k] ∧ Q (.int ((Nat.gcd (Nat.gcd i.natAbs j.natAbs) k.natAbs : Nat) : Int)) H
def crLcm : CRd := fun zs H Q => ∃ i j : Int, zs = [.int i, .int j] ∧ (i.natAbs.log2 < 4000 ∧ j.natAbs.log2 < 4000) ∧ Q (.int ((Nat.lcm i.natAbs j.natAbs : Nat) : Int)) H
def crNo : CRd := fun _ _ _ => False
def rReprA (K : PySem.W.Frag) : CRd := fun xs H Q => ∃ (v : V) (d : PyData), xs = [v] ∧ Dp K H v d ∧ d.showable = true ∧ d.hasDict = false ∧ d.depth ≤ 60 ∧ d.shown.length ≤ sizeLine ∧ Q (.str d.shown) H
def denB (K : PySem.W.Frag) : Bi → CRd
  | .len => crLen K
  | .abs => crAbs
  | .int => crInt
  | .gcd2 => rGcd
  | .gcd3 => crGcd3
  | .lcm2 => crLcm
  | .min2 => crMin
  | .max2 => crMax
  | .sum => rSum K
  | .sorted => rSortB K
  | .list => crList K
  | .tuple => crTup K
  | _ => crNo
def denGp (K : PySem.W.Frag) : Tg → TG × TGs
  | .name i => ⟨gName i, gNil⟩
  | .tup t => ⟨gSeq K t.len (denGp K t).2, gNil⟩
  | .nil => ⟨gName 0, gNil⟩
  | .cons a b => ⟨gName 0, gCons (denGp K a).1 (denGp K b).2⟩
def denI (K : PySem.W.Frag) : ItK → Dq → TI
  | .seq, d => iSeq K d.e
  | .rng1, d => iRng1 d.a
  | .rng2, d => iRng2 d.a
  | .enum, d => iSeq K d.e
  | .zip, d => iSeq K d.e
def den (κ : Dn) : EE → Dq
  | .var i => κ.of (tVar i)
  | .lit d => κ.of (match d with | .non => tC .non | .bl b => tC (.bl b) | .int i => tC (.int i) | .str x => tC (.str x) | _ => TE.no)
  | .con k => κ.of (tC (.ref (κ.con k)))
  | .fnv f => κ.of (tC (.ref (κ.K.fn f)))
  | .clv c => κ.of (tC (.ref (κ.K.cls c)))
  | .op o a b => κ.of (tOp (den2 κ.K o) (den κ a).e (den κ b).e)
  | .neg a => κ.of (tUn (rU fun i => .int (-i)) (den κ a).e)
  | .and a b => κ.wt (tAndV (den κ a).e (den κ b).e) (tAnd (den κ a).t (den κ b).t)
  | .or a b => κ.wt (tOrV (den κ a).e (den κ b).e) (tOr (den κ a).t (den κ b).t)
  | .not a => κ.wt (tNotV (den κ a).e) (tNot (den κ a).t)
  | .notT a => κ.of (tNotT κ.K (den κ a).e)
  | .isN a => κ.of (tIsN (den κ a).e)
  | .notN a => κ.of (tNotN (den κ a).e)
  | .tru a => κ.wt (tNotV (tNotT κ.K (den κ a).e)) (fun σ H Q => (den κ a).e σ H fun x H' => ∃ k, TruV κ.K x H' k ∧ Q k H')
  | .chain o o' a b c => κ.of (tChain (den2 κ.K o) (den2 κ.K o') (den κ a).e (den κ b).e (den κ c).e)
  | .ifx t a b => κ.of (tIf (den κ t).t (den κ a).e (den κ b).e)
  | .nil => { κ.of (tTup tNil) with a := tNil }
  | .cons a b => { κ.of (tTup (tCons (den κ a).e (den κ b).a)) with a := tCons (den κ a).e (den κ b).a }
  | .star a b => { κ.of (tTup (StX.tStar κ.K (den κ a).e (den κ b).a)) with a := StX.tStar κ.K (den κ a).e (den κ b).a }
  | .tup a => κ.of (tTup (den κ a).a)
  | .lst a => κ.of (tLst (den κ a).a)
  | .slc a lo hi => κ.of (tSl (rSlQ κ.K) (den κ a).e (den κ lo).o (den κ hi).o)
  | .nop => { κ.of (tC .non) with o := tNoPart }
  | .part a => { κ.of (den κ a).e with o := tPart (den κ a).e }
  | .call f sk dvs a => κ.of (tCallSD (κ.sp f) dvs (cond sk κ.snk.at Snk.no.at) (den κ a).a)
  | .callV i sk a => κ.of (tCallV κ.K.fn κ.ok κ.sp i (cond sk κ.snk.at Snk.no.at) (den κ a).a)
  | .take a => κ.of (tCall κ.take [] E0 (den κ a).a)
  | .bi b a => κ.of (tCB (denB κ.K b) (den κ a).a)
  | .isi a t => κ.of (tCB (rIsi κ.K) (tCons (den κ a).e (tCons (tC (.ty t.name)) tNil)))
  | .isi2 a t u => κ.of (tCB (rIsiT κ.K) (tCons (den κ a).e (tCons (tTup (tCons (tC (.ty t.name)) (tCons (tC (.ty u.name)) tNil))) tNil)))
  | .isC _ _ => κ.of TE.no
  | .lc k it tg t e vs => κ.of (tLc (denI κ.K k (den κ it)) (denGp κ.K tg).1 (den κ t).t (den κ e).e vs)
  | .yes => κ.wt (tC (.bl true)) tYes
  | .eqR n a b => κ.of (tOp (cond n rNe rEq) (tCB (rReprA κ.K) (tCons (den κ a).e tNil)) (tCB (rReprA κ.K) (tCons (den κ b).e tNil)))
  | .xf i c f => κ.of (tXf κ.sx.1 κ.sx.2.1 κ.sx.2.2 (κ.K.cls c) f (tVar i))
  | .fld _ _ => κ.of TE.no
  | .lenO i => κ.of (tCB (crLen κ.K) (tCons (tVar i) tNil))
  | .tupO i => κ.of (tCB (crTup κ.K) (tCons (tVar i) tNil))
  | .ixO i a => κ.of (tOp (rIx κ.K) (tVar i) (den κ a).e)
/-! ### what holds of the slots -/
def AbsV (K : KB) (sx : Addr × Value × Option Addr) : Sl → Sv → Prop
  | _, .unk => True
  | s, .dat d => s = .dat d
  | s, .own ds => ∃ p, s = .own p ds
  | s, .exc c ds => ∃ dx, s = .dat (.exc sx.1 dx (K.cls c) (K.xf c) ds) ∧ sx.2.1 = .ref (K.cls c) ∧ sx.2.2 = some dx
def Abs (K : KB) (sx : Addr × Value × Option Addr) (q : List Sl) (ρ : Vars) : Prop := q.length = ρ.length ∧ ∀ (i : Nat) s v, q[i]? = some s → ρ[i]? = some v → AbsV K sx s v
section
variable {K : KB} {sx : Addr × Value × Option Addr} {q : List Sl} {ρ : Vars} {i : Nat} {d : D} {ds : List D}
theorem Abs.at (A : Abs K sx q ρ) {v : Sv} (h : ρ[i]? = some v) : ∃ s, q[i]? = some s ∧ AbsV K sx s v := by
  have hi : i < q.length := by rw [A.1]; exact (List.getElem?_eq_some_iff.mp h).1
  exact ⟨q[i], List.getElem?_eq_getElem hi, A.2 i _ v (List.getElem?_eq_getElem hi) h⟩
theorem Abs.dat (A : Abs K sx q ρ) (h : ρ[i]? = some (.dat d)) : q[i]? = some (.dat d) := by
  obtain ⟨s, e, v⟩ := A.at h
  cases (show s = .dat d from v); exact e
theorem Abs.own (A : Abs K sx q ρ) (h : ρ[i]? = some (.own ds)) : ∃ p, q[i]? = some (.own p ds) := by
  obtain ⟨s, e, p, rfl⟩ := A.at h
  exact ⟨p, e⟩
theorem Abs.set (A : Abs K sx q ρ) {s : Sl} {v : Sv} (h : AbsV K sx s v) : Abs K sx (q.set i s) (ρ.set i v) := by
  refine ⟨by rw [List.length_set, List.length_set, A.1], fun j s' v' e e' => ?_⟩
  rcases set_get e with ⟨a, b⟩ | ⟨a, b⟩
  · subst a; subst b
    rcases set_get e' with ⟨_, z⟩ | ⟨z, _⟩
    · subst z; exact h
    · exact absurd rfl z
  · rcases set_get e' with ⟨z, _⟩ | ⟨_, z⟩
    · exact absurd z a
    · exact A.2 j s' v' b z
theorem Abs.wipe (A : Abs K sx q ρ) : ∀ vs, Abs K sx (wipeS q vs) (wipeV ρ vs)
  | [] => A
  | v :: vs => (Abs.wipe A vs).set trivial
end
end Ez

set_option Elab.async false
set_option linter.all false
set_option maxRecDepth 100000
namespace Ez
open L2 PySem PyProof.Rows PySem.Spec
open Tr
def hdC (c : Cn) : Prop := c.W = HandW c.K c.K.hand
def pmC (K : KT) (g : List D → R) : Pm where
  pre := fun W ds => (g ds).All (W = HandW K K.hand) (fun _ => True) (fun _ => True)
  post := fun ds r => (g ds).Ret r
  exn := fun ds C ns es => ∃ x, (g ds).Exn x ∧ C = K.cls x.c ∧ ns = K.xf x.c ∧ es = x.ds
def pmTake (K : KT) : Pm := .f2 (fun W x y => ∃ p m, x = .adr p ∧ y = .int m ∧ 0 < m ∧ Bd 8000 m ∧ W = HandW K p) (fun _ y r => ∃ m v, y = .int m ∧ r = .int v ∧ 0 ≤ v ∧ v < m)
def SnkOk (c : Cn) (κ : Dn) (Z : Vars → Xn → Prop) : Prop :=
  ∀ q ρ G' H' s' dx xs x, Z ρ x → Abs c.K.toKB κ.sx q ρ → c.S G' H' → c.R G' H' s' q → G' dx = some (.xd ((c.K.xf x.c).zip xs)) → (c.K.xf x.c).length = x.ds.length → IsL c.K G' x.ds xs → κ.snk.at s' (.ref (c.K.cls x.c)) (some dx) H'
structure Sd (c : Cn) (κ : Dn) (Γ : Pgm) : Prop where
  eK : κ.K = c.K.toKB
  sp : ∀ f vs H Q E, spD c.K (pmC c.K (Γ.call f)) vs H Q E → κ.sp f vs H Q E
  ok : κ.ok = Γ.ok
  con : ∀ k G, Is c.K G (Γ.con k) (.ref (κ.con k))
  xf : c.K.xf = Γ.xf
  take : ∀ vs H Q E, spD c.K (pmTake c.K) vs H Q E → κ.take vs H Q E
  sub : ∀ a b r, Γ.sub a b = some r → PySem.W.exmOne c.K (.ref (c.K.cls a)) (.ref (c.K.cls b)) = some r
section
variable {c : Cn} {q : List Sl} {ρ : Vars} {P : D → Prop} {Zx : Xn → Prop} {hd : Prop}
/-! operations -/
theorem odL {r r' : R2} {x y : D} (h : opD c r x y P) : opD c (rOr r r') x y P := fun G H vx vy o i j Q hq => .inl (h G H vx vy o i j Q hq)
theorem odR {r r' : R2} {x y : D} (h : opD c r' x y P) : opD c (rOr r r') x y P := fun G H vx vy o i j Q hq => .inr (h G H vx vy o i j Q hq)
theorem IsL.rep {K : KT} {G : Hp} {ds : List D} {xs : List V} (h : IsL K G ds xs) : ∀ n, IsL K G (List.replicate n ds).flatten (List.replicate n xs).flatten
  | 0 => rfl
  | n + 1 => by rw [List.replicate_succ, List.replicate_succ, List.flatten_cons, List.flatten_cons]; exact IsL.app h (IsL.rep h n)
theorem rep_len {α : Type} (n : Nat) (l : List α) : (List.replicate n l).flatten.length = n * l.length := by
  induction n with
  | zero => simp
  | succ n ih => rw [List.replicate_succ, List.flatten_cons, List.length_append, ih, Nat.add_mul, Nat.one_mul]; omega
theorem od_rep {ds : List D} {k : Int} (h : ds.length * k.toNat ≤ 10000 ∧ k ≤ 10000 ∧ -10000 ≤ k) (p : P (.lst (List.replicate k.toNat ds).flatten)) : opD c rRep (.lst ds) (.int k) P := fun G H vx vy o a b Q hq => by
  obtain ⟨l, xs, rfl, h1, h2⟩ := a
  cases (show vy = V.int k from b)
  refine ⟨l, k, xs, rfl, rfl, o.sub _ _ h1, by omega, by omega, by rw [IsL.len h2]; exact Nat.le_trans h.1 (by decide), fun n hn => ?_⟩
  exact hq _ _ _ _ p ((Stp.refl o).lay hn) ⟨n, _, rfl, upd_same, IsL.mono (Ex.new (none_of_sub o.sub hn)) _ (IsL.rep (K := c.K) h2 _)⟩
theorem any_py (x : PyData) : ∀ l : List D, ((D.pyL l).any fun z => PyData.eqv z x) = l.any fun z => PyData.eqv z.py x
  | [] => rfl
  | d :: r => by
    show (PyData.eqv d.py x || (D.pyL r).any fun z => PyData.eqv z x) = _
    rw [any_py x r]; rfl
theorem od_inL {x : D} {l : List D} (hx : D.cmp x = true) (hl : D.cmp (.lst l) = true) (k : P (.bl (l.any fun z => D.eqv z x))) : opD c (rInD c.K) x (.lst l) P := fun G H vx vy o i j Q hq =>
  ⟨x.py, D.pyL l, Is.dp o.sub x (Bool.and_eq_true_iff.mp hx).1 i, Is.dp o.sub (.lst l) (Bool.and_eq_true_iff.mp hl).1 j, D.shp hx, D.shp hl, by rw [any_py]; exact hq G H _ _ k (Stp.refl o) rfl⟩
theorem od_ninL {x : D} {l : List D} (hx : D.cmp x = true) (hl : D.cmp (.lst l) = true) (k : P (.bl (!l.any fun z => D.eqv z x))) : opD c (rNotInD c.K) x (.lst l) P := fun G H vx vy o i j Q hq =>
  ⟨x.py, D.pyL l, Is.dp o.sub x (Bool.and_eq_true_iff.mp hx).1 i, Is.dp o.sub (.lst l) (Bool.and_eq_true_iff.mp hl).1 j, D.shp hx, D.shp hl, by rw [any_py]; exact hq G H _ _ k (Stp.refl o) rfl⟩
theorem od_inT {x : D} {l : List D} (hx : D.cmp x = true) (hl : D.cmp (.tup l) = true) (k : P (.bl (l.any fun z => D.eqv z x))) : opD c (rInT c.K) x (.tup l) P := fun G H vx vy o i j Q hq =>
  ⟨x.py, D.pyL l, Is.dp o.sub x (Bool.and_eq_true_iff.mp hx).1 i, Is.dp o.sub (.tup l) (Bool.and_eq_true_iff.mp hl).1 j, D.shp hx, D.shp hl, by rw [any_py]; exact hq G H _ _ k (Stp.refl o) rfl⟩
theorem od_ninT {x : D} {l : List D} (hx : D.cmp x = true) (hl : D.cmp (.tup l) = true) (k : P (.bl (!l.any fun z => D.eqv z x))) : opD c (rNotInT c.K) x (.tup l) P := fun G H vx vy o i j Q hq =>
  ⟨x.py, D.pyL l, Is.dp o.sub x (Bool.and_eq_true_iff.mp hx).1 i, Is.dp o.sub (.tup l) (Bool.and_eq_true_iff.mp hl).1 j, D.shp hx, D.shp hl, by rw [any_py]; exact hq G H _ _ k (Stp.refl o) rfl⟩
theorem all_ite {α ε : Type} {P : α → Prop} {X : ε → Prop} {p : Prop} [Decidable p] {t : Tr ε α} (h : All hd P X (if p then t else bad)) : p ∧ All hd P X t := by
  by_cases e : p
  · rw [if_pos e] at h; exact ⟨e, h⟩
  · rw [if_neg e] at h; exact h.elim
theorem od2 {o : Op2} {x y : D} (h : All hd P Zx (op2 o x y)) : opD c (den2 c.K o) x y P := by
  cases o with
  | add =>
    have h : All hd P Zx (o2_add x y) := h
    unfold o2_add at h
    split at h
    · exact odL (od_i h)
    · obtain ⟨a, b⟩ := all_ite h; exact odR (odL (od_catL a b))
    · obtain ⟨a, b⟩ := all_ite h; exact odR (odR (od_catT a b))
    · exact h.elim
  | sub =>
    have h : All hd P Zx (o2_sub x y) := h
    unfold o2_sub at h
    split at h
    · exact od_i h
    · exact h.elim
  | mul =>
    have h : All hd P Zx (o2_mul x y) := h
    unfold o2_mul at h
    split at h
    · obtain ⟨a, b⟩ := all_ite h; exact odL (od_ci (show CMulW _ _ by unfold CMulW; omega) b)
    · obtain ⟨a, b⟩ := all_ite h; exact odR (od_rep a b)
    · exact h.elim
  | div =>
    have h : All hd P Zx (o2_div x y) := h
    unfold o2_div at h
    split at h
    · obtain ⟨a, b⟩ := all_ite h; exact od_ci a b
    · exact h.elim
  | mod =>
    have h : All hd P Zx (o2_mod x y) := h
    unfold o2_mod at h
    split at h
    · obtain ⟨a, b⟩ := all_ite h; exact od_ci a b
    · exact h.elim
  | pow =>
    have h : All hd P Zx (o2_pow x y) := h
    unfold o2_pow at h
    split at h
    · obtain ⟨a, b⟩ := all_ite h; exact od_ci a b
    · exact h.elim
  | shl =>
    have h : All hd P Zx (o2_shl x y) := h
    unfold o2_shl at h
    split at h
    · obtain ⟨a, b⟩ := all_ite h; exact od_ci a b
    · exact h.elim
  | shr =>
    have h : All hd P Zx (o2_shr x y) := h
    unfold o2_shr at h
    split at h
    · obtain ⟨a, b⟩ := all_ite h; exact od_ci a b
    · exact h.elim
  | and =>
    have h : All hd P Zx (o2_and x y) := h
    unfold o2_and at h
    split at h
    · exact od_i h
    · exact h.elim
  | or =>
    have h : All hd P Zx (o2_or x y) := h
    unfold o2_or at h
    split at h
    · exact od_i h
    · exact h.elim
  | xor =>
    have h : All hd P Zx (o2_xor x y) := h
    unfold o2_xor at h
    split at h
    · exact od_i h
    · exact h.elim
  | lt =>
    have h : All hd P Zx (o2_lt x y) := h
    unfold o2_lt at h
    split at h
    · exact od_b h
    · exact h.elim
  | le =>
    have h : All hd P Zx (o2_le x y) := h
    unfold o2_le at h
    split at h
    · exact od_b h
    · exact h.elim
  | gt =>
    have h : All hd P Zx (o2_gt x y) := h
    unfold o2_gt at h
    split at h
    · exact od_b h
    · exact h.elim
  | ge =>
    have h : All hd P Zx (o2_ge x y) := h
    unfold o2_ge at h
    split at h
    · exact od_b h
    · exact h.elim
  | eq =>
    have h : All hd P Zx (o2_eq x y) := h
    unfold o2_eq at h
    obtain ⟨a, b⟩ := all_ite h
    obtain ⟨a1, a2⟩ := Bool.and_eq_true_iff.mp a
    exact od_eq a1 a2 b
  | ne =>
    have h : All hd P Zx (o2_ne x y) := h
    unfold o2_ne at h
    obtain ⟨a, b⟩ := all_ite h
    obtain ⟨a1, a2⟩ := Bool.and_eq_true_iff.mp a
    exact od_ne a1 a2 b
  | inn =>
    have h : All hd P Zx (o2_inn x y) := h
    unfold o2_inn at h
    split at h
    · obtain ⟨a, b⟩ := all_ite h
      obtain ⟨a1, a2⟩ := Bool.and_eq_true_iff.mp a
      exact odL (od_inL a1 a2 b)
    · obtain ⟨a, b⟩ := all_ite h
      obtain ⟨a1, a2⟩ := Bool.and_eq_true_iff.mp a
      exact odR (od_inT a1 a2 b)
    · exact h.elim
  | nin =>
    have h : All hd P Zx (o2_nin x y) := h
    unfold o2_nin at h
    split at h
    · obtain ⟨a, b⟩ := all_ite h
      obtain ⟨a1, a2⟩ := Bool.and_eq_true_iff.mp a
      exact odL (od_ninL a1 a2 b)
    · obtain ⟨a, b⟩ := all_ite h
      obtain ⟨a1, a2⟩ := Bool.and_eq_true_iff.mp a
      exact odR (od_ninT a1 a2 b)
    · exact h.elim
  | isB =>
    have h : All hd P Zx (o2_isB x y) := h
    unfold o2_isB at h
    split at h
    · exact od_bb (f := fun a b => decide (a = b)) h
    · exact h.elim
  | isnB =>
    have h : All hd P Zx (o2_isnB x y) := h
    unfold o2_isnB at h
    split at h
    · exact od_bb (f := fun a b => !decide (a = b)) h
    · exact h.elim
  | ix =>
    have h : All hd P Zx (o2_ix x y) := h
    unfold o2_ix at h
    split at h
    · split at h
      · rename_i e; exact od_ixT e h
      · exact h.elim
    · split at h
      · rename_i e; exact od_ixL e h
      · exact h.elim
    · exact h.elim
/-! built-ins -/
theorem insI_perm (x : Int) : ∀ l, (insI x l).Perm (x :: l)
  | [] => .refl _
  | y :: r => by
    unfold insI
    split
    · exact .refl _
    · exact ((insI_perm x r).cons y).trans (.swap x y r)
theorem sortI_perm : ∀ l, (sortI l).Perm l
  | [] => .refl _
  | x :: r => (insI_perm x (sortI r)).trans ((sortI_perm r).cons x)
theorem insI_sorted (x : Int) : ∀ l : List Int, l.Pairwise (· ≤ ·) → (insI x l).Pairwise (· ≤ ·)
  | [], _ => List.pairwise_singleton _ _
  | y :: r, h => by
    unfold insI
    obtain ⟨h1, h2⟩ := List.pairwise_cons.mp h
    split
    · rename_i hxy
      refine List.pairwise_cons.mpr ⟨fun z hz => ?_, h⟩
      rcases List.mem_cons.mp hz with rfl | hz
      · exact hxy
      · exact Int.le_trans hxy (h1 z hz)
    · rename_i hxy
      refine List.pairwise_cons.mpr ⟨fun z hz => ?_, insI_sorted x r h2⟩
      rcases List.mem_cons.mp ((insI_perm x r).mem_iff.mp hz) with rfl | hz
      · omega
      · exact h1 z hz
theorem sortI_sorted : ∀ l : List Int, (sortI l).Pairwise (· ≤ ·)
  | [] => .nil
  | x :: r => insI_sorted x _ (sortI_sorted r)
theorem sorted_one : ∀ {l m : List Int}, l.Perm m → l.Pairwise (· ≤ ·) → m.Pairwise (· ≤ ·) → l = m
  | [], m, p, _, _ => by cases m with
    | nil => rfl
    | cons y r => exact absurd p.length_eq (by simp)
  | x :: l, [], p, _, _ => absurd p.length_eq (by simp)
  | x :: l, y :: m, p, h, k => by
    obtain ⟨h1, h2⟩ := List.pairwise_cons.mp h
    obtain ⟨k1, k2⟩ := List.pairwise_cons.mp k
    have e : x = y := by
      have a : x ≤ y := by
        rcases List.mem_cons.mp (p.mem_iff.mpr (List.mem_cons_self : y ∈ y :: m)) with z | z
        · exact Int.le_of_eq z.symm
        · exact h1 y z
      have b : y ≤ x := by
        rcases List.mem_cons.mp (p.mem_iff.mp (List.mem_cons_self : x ∈ x :: l)) with z | z
        · exact Int.le_of_eq z.symm
        · exact k1 x z
      omega
    subst e
    rw [sorted_one ((List.perm_cons x).mp p) h2 k2]
theorem intsOf_some : ∀ {l : List D} {ns : List Int}, intsOf l = some ns → l = ns.map D.int
  | [], ns, h => by cases h; rfl
  | d :: r, ns, h => by
    cases d with
    | int i =>
      unfold intsOf at h
      cases e : intsOf r with
      | none => rw [e] at h; cases h
      | some ms => rw [e] at h; cases h; rw [intsOf_some e]; rfl
    | _ => cases h
theorem IsL.ints {K : KT} {G : Hp} : ∀ {ns : List Int} {xs : List V}, IsL K G (ns.map D.int) xs → xs = ns.map V.int
  | [], _, h => h
  | n :: ns, _, ⟨x, r, e, h1, h2⟩ => by
    rw [e, IsL.ints h2]
    cases (show x = V.int n from h1); rfl
theorem cb_sum {ns : List Int} {P : D → Prop} (k : P (.int ns.sum)) : cbD c (rSum c.K) [.lst (ns.map D.int)] P := fun G H vs o a Q hq => by
  obtain ⟨v, rfl, p, xs, rfl, h1, h2⟩ := IsL.one_of a
  rw [IsL.ints h2] at h1
  exact ⟨p, ns, rfl, h1.sq o.sub, hq G H _ _ k (Stp.refl o) rfl⟩
theorem cb_sorted {ns : List Int} {P : D → Prop} (hl : ns.length < 64) (k : P (.lst ((sortI ns).map D.int))) : cbD c (rSortB c.K) [.lst (ns.map D.int)] P := fun G H vs o a Q hq => by
  obtain ⟨v, rfl, p, xs, rfl, h1, h2⟩ := IsL.one_of a
  rw [IsL.ints h2] at h1
  refine Or.inl ⟨p, ns, rfl, h1.sq o.sub, hl, fun ns' p' hp hs hn => ?_⟩
  rw [sorted_one (hp.trans (sortI_perm ns).symm) hs (sortI_sorted ns)]
  exact hq _ _ _ _ k ((Stp.refl o).lay hn) ⟨p', _, rfl, upd_same, isInts _⟩
theorem lexI_eq : ∀ a b : List Int, lexI a b = HT.lexLt a b
  | [], [] => rfl
  | [], _ :: _ => rfl
  | _ :: _, [] => rfl
  | a :: l, b :: m => by
    rw [HT.lexLt_cons]
    show (bif decide (a = b) then lexI l m else decide (a < b)) = _
    by_cases e : a = b
    · rw [if_pos e, decide_eq_true e, ← lexI_eq l m]; rfl
    · rw [if_neg e, decide_eq_false e]; rfl
theorem lex_tot : ∀ {a b : List Int}, HT.lexLt a b = false → HT.lexLt b a = false → a = b
  | [], [], _, _ => rfl
  | [], _ :: _, h, _ => by cases h
  | _ :: _, [], _, h => by cases h
  | a :: l, b :: m, h, k => by
    rw [HT.lexLt_cons] at h k
    by_cases e : a = b
    · rw [if_pos e] at h
      rw [if_pos e.symm] at k
      rw [e, lex_tot h k]
    · rw [if_neg e] at h
      rw [if_neg (Ne.symm e)] at k
      have h' := of_decide_eq_false h
      have k' := of_decide_eq_false k
      omega
theorem insX_perm (x : List Int) : ∀ l, (insX x l).Perm (x :: l)
  | [] => .refl _
  | y :: r => by
    show (bif lexI y x then y :: insX x r else x :: y :: r).Perm _
    cases lexI y x
    · exact .refl _
    · exact ((insX_perm x r).cons y).trans (.swap x y r)
theorem sortX_perm : ∀ l, (sortX l).Perm l
  | [] => .refl _
  | x :: r => (insX_perm x (sortX r)).trans ((sortX_perm r).cons x)
theorem insX_srt (x : List Int) : ∀ l : List (List Int), SrtO.Srtd HT.lexLt l → SrtO.Srtd HT.lexLt (insX x l)
  | [], _ => List.pairwise_singleton _ _
  | y :: r, h => by
    obtain ⟨h1, h2⟩ := List.pairwise_cons.mp h
    show SrtO.Srtd HT.lexLt (bif lexI y x then y :: insX x r else x :: y :: r)
    rw [lexI_eq]
    cases e : HT.lexLt y x
    · refine List.pairwise_cons.mpr ⟨fun z hz => ?_, h⟩
      rcases List.mem_cons.mp hz with rfl | hz
      · exact e
      · exact NtL.lex_tr _ _ _ e (h1 z hz)
    · refine List.pairwise_cons.mpr ⟨fun z hz => ?_, insX_srt x r h2⟩
      rcases List.mem_cons.mp ((insX_perm x r).mem_iff.mp hz) with rfl | hz
      · exact NtL.lex_asym _ _ e
      · exact h1 z hz
theorem sortX_srt : ∀ l, SrtO.Srtd HT.lexLt (sortX l)
  | [] => .nil
  | x :: r => insX_srt x _ (sortX_srt r)
theorem srt_one : ∀ {l m : List (List Int)}, l.Perm m → SrtO.Srtd HT.lexLt l → SrtO.Srtd HT.lexLt m → l = m
  | [], m, p, _, _ => (List.Perm.eq_nil p.symm).symm
  | x :: l, [], p, _, _ => absurd p.length_eq (by simp)
  | x :: l, y :: m, p, h, k => by
    obtain ⟨h1, h2⟩ := List.pairwise_cons.mp h
    obtain ⟨k1, k2⟩ := List.pairwise_cons.mp k
    have z : ∀ u : List Int, HT.lexLt u u = false := fun u => (NtL.swo_lexL (fun v : List Int => v)).refl u
    have e1 : HT.lexLt y x = false := by
      rcases List.mem_cons.mp (p.mem_iff.mpr (List.mem_cons_self : y ∈ y :: m)) with q | q
      · rw [q]; exact z x
      · exact h1 y q
    have e2 : HT.lexLt x y = false := by
      rcases List.mem_cons.mp (p.mem_iff.mp (List.mem_cons_self : x ∈ x :: l)) with q | q
      · rw [q]; exact z y
      · exact k1 x q
    have e := lex_tot e1 e2
    subst e
    rw [srt_one ((List.perm_cons y).mp p) h2 k2]
theorem tupsOf_some : ∀ {l : List D} {ts : List (List Int)}, tupsOf l = some ts → l = ts.map tupI
  | [], ts, h => by cases h; rfl
  | d :: r, ts, h => by
    cases d with
    | tup m =>
      have h' : (match intsOf m with | some n => (tupsOf r).map (n :: ·) | none => none) = some ts := h
      cases e : intsOf m with
      | none => rw [e] at h'; cases h'
      | some n =>
        rw [e] at h'
        cases e2 : tupsOf r with
        | none => simp only [e2] at h'; cases h'
        | some ms => simp only [e2] at h'; cases h'; rw [tupsOf_some e2, intsOf_some e]; rfl
    | _ => cases h
theorem sameLen_of {ts : List (List Int)} (h : sameLen ts = true) : ∃ d, 1 ≤ d ∧ ∀ n ∈ ts, n.length = d := by
  cases ts with
  | nil => exact ⟨1, Nat.le_refl 1, fun n hn => absurd hn (by simp)⟩
  | cons x r =>
    obtain ⟨h1, h2⟩ := Bool.and_eq_true_iff.mp (show (decide (1 ≤ x.length) && r.all fun y => decide (y.length = x.length)) = true from h)
    refine ⟨x.length, of_decide_eq_true h1, fun n hn => ?_⟩
    rcases List.mem_cons.mp hn with rfl | hn
    · rfl
    · exact of_decide_eq_true (List.all_eq_true.mp h2 n hn)
theorem isF2 {K : KT} {G : Hp} : ∀ {ts : List (List Int)} {xs : List V}, (∃ d, ∀ n ∈ ts, n.length = d) → IsL K G (ts.map tupI) xs → ∀ d, (∀ n ∈ ts, n.length = d) → F2 (fun x n => Is K G (tupI n) x ∧ n.length = d) xs ts
  | [], _, _, h, _, _ => by cases (show _ = [] from h); trivial
  | n :: ts, _, _, ⟨x, r, e, h1, h2⟩, d, hd => by
    subst e
    exact ⟨⟨h1, hd n List.mem_cons_self⟩, isF2 ⟨d, fun m hm => hd m (List.mem_cons_of_mem _ hm)⟩ h2 d fun m hm => hd m (List.mem_cons_of_mem _ hm)⟩
theorem f2Is {K : KT} {G : Hp} {d : Nat} : ∀ {ts : List (List Int)} {xs : List V}, F2 (fun x n => Is K G (tupI n) x ∧ n.length = d) xs ts → IsL K G (ts.map tupI) xs
  | [], [], _ => rfl
  | [], _ :: _, h => h.elim
  | _ :: _, [], h => h.elim
  | _ :: _, x :: r, ⟨h1, h2⟩ => ⟨x, r, rfl, h1.1, f2Is h2⟩
theorem cb_sortX {ts : List (List Int)} {P : D → Prop} (hl : sameLen ts = true) (k : P (.lst ((sortX ts).map tupI))) : cbD c (rSortB c.K) [.lst (ts.map tupI)] P := fun G H vs o a Q hq => by
  obtain ⟨v, rfl, p, xs, rfl, h1, h2⟩ := IsL.one_of a
  obtain ⟨d, d1, hd⟩ := sameLen_of hl
  refine Or.inr ⟨p, xs, ts, fun x n => Is c.K G (tupI n) x ∧ n.length = d, d, rfl, h1.sq o.sub, d1, fun x n r => ⟨?_, r.2⟩, isF2 ⟨d, hd⟩ h2 d hd, fun ys ms p' hp hs hf hn => ?_⟩
  · obtain ⟨t, zs, e, g1, g2⟩ := r.1
    rw [IsL.ints g2] at g1
    exact ⟨t, e, g1.sq o.sub⟩
  rw [srt_one (hp.trans (sortX_perm ts).symm) hs (sortX_srt ts)] at hf
  exact hq _ _ _ _ k ((Stp.refl o).lay hn) ⟨p', _, rfl, upd_same, IsL.mono (Ex.new (none_of_sub o.sub hn)) _ (f2Is hf)⟩
mutual
theorem D.same_eq : ∀ {x y : D}, D.same x y = true → x = y
  | .non, .non, _ => rfl
  | .bl a, .bl b, h => by rw [eq_of_beq (show (a == b) = true from h)]
  | .int a, .int b, h => by rw [of_decide_eq_true (show decide (a = b) = true from h)]
  | .str a, .str b, h => by rw [of_decide_eq_true (show decide (a = b) = true from h)]
  | .tup a, .tup b, h => by rw [D.sameL_eq (show D.sameL a b = true from h)]
  | .lst a, .lst b, h => by rw [D.sameL_eq (show D.sameL a b = true from h)]
theorem D.sameL_eq : ∀ {x y : List D}, D.sameL x y = true → x = y
  | [], [], _ => rfl
  | a :: r, b :: s, h => by
    obtain ⟨h1, h2⟩ := Bool.and_eq_true_iff.mp (show (D.same a b && D.sameL r s) = true from h)
    rw [D.same_eq h1, D.sameL_eq h2]
end
theorem cb_repr {x : D} {P : D → Prop} (h : D.repOk x = true) (k : P (.str (D.text x))) : cbD c (rReprA c.K) [x] P := fun G H vs o a Q hq => by
  obtain ⟨h, h3⟩ := Bool.and_eq_true_iff.mp h
  obtain ⟨h1, h2⟩ := Bool.and_eq_true_iff.mp h
  obtain ⟨s1, s2, s3⟩ := D.shown_of _ h1
  obtain ⟨v, rfl, i⟩ := IsL.one_of a
  exact ⟨v, _, rfl, Is.dp o.sub x s2 i, s1, PyData.hasDict_of_canLay _ (D.lay _ s2), by rw [D.deq]; exact of_decide_eq_true h2, Nat.le_trans s3 (Nat.le_trans (of_decide_eq_true h3) (by decide)), hq _ _ _ _ k (Stp.refl o) rfl⟩
theorem cbB {b : Bi} {xs : List D} (h : All hd P Zx (biD b xs)) : cbD c (denB c.K b) xs P := by
  cases b with
  | len =>
    have h : All hd P Zx (bi_lenD xs) := h
    unfold bi_lenD at h
    split at h
    · exact cb_lenL h
    · exact cb_lenT h
    · exact cb_lenS h
    · exact h.elim
  | abs =>
    have h : All hd P Zx (bi_absD xs) := h
    unfold bi_absD at h
    split at h
    · exact cb_abs h
    · exact h.elim
  | int =>
    have h : All hd P Zx (bi_intD xs) := h
    unfold bi_intD at h
    split at h
    · exact cb_int h
    · exact h.elim
  | gcd2 =>
    have h : All hd P Zx (bi_gcd2D xs) := h
    unfold bi_gcd2D at h
    split at h
    · exact cb_gcd h
    · exact h.elim
  | gcd3 =>
    have h : All hd P Zx (bi_gcd3D xs) := h
    unfold bi_gcd3D at h
    split at h
    · rename_i i j k _
      intro G H vs o a Q hq
      obtain ⟨v, r, rfl, h1, h2⟩ := a
      obtain ⟨u, w, rfl, h3, h4⟩ := IsL.two_of h2
      cases (show v = V.int i from h1); cases (show u = V.int j from h3); cases (show w = V.int k from h4)
      exact ⟨i, j, k, rfl, hq G H _ _ h (Stp.refl o) rfl⟩
    · exact h.elim
  | lcm2 =>
    have h : All hd P Zx (bi_lcm2D xs) := h
    unfold bi_lcm2D at h
    split at h
    · rename_i i j _
      obtain ⟨b, h⟩ := all_ite h
      intro G H vs o a Q hq
      obtain ⟨v, u, rfl, h1, h2⟩ := IsL.two_of a
      cases (show v = V.int i from h1); cases (show u = V.int j from h2)
      exact ⟨i, j, rfl, b, hq G H _ _ h (Stp.refl o) rfl⟩
    · exact h.elim
  | min2 =>
    have h : All hd P Zx (bi_min2D xs) := h
    unfold bi_min2D at h
    split at h
    · exact cb_min h
    · exact h.elim
  | max2 =>
    have h : All hd P Zx (bi_max2D xs) := h
    unfold bi_max2D at h
    split at h
    · exact cb_max h
    · exact h.elim
  | list =>
    have h : All hd P Zx (bi_listD xs) := h
    unfold bi_listD at h
    split at h
    · exact cb_listT h
    · exact cb_listL h
    · exact h.elim
  | tuple =>
    have h : All hd P Zx (bi_tupleD xs) := h
    unfold bi_tupleD at h
    split at h
    · exact cb_tupT h
    · exact cb_tupL h
    · exact h.elim
  | sorted =>
    have h : All hd P Zx (bi_sortedD xs) := h
    unfold bi_sortedD at h
    split at h
    · split at h
      · rename_i ns e
        obtain ⟨h1, h2⟩ := all_ite h
        rw [intsOf_some e]
        exact cb_sorted h1 h2
      · split at h
        · rename_i ts e
          obtain ⟨h1, h2⟩ := all_ite h
          rw [tupsOf_some e]
          exact cb_sortX h1 h2
        · exact h.elim
    · exact h.elim
  | repr => exact (show False from h).elim
  | sum =>
    have h : All hd P Zx (bi_sumD xs) := h
    unfold bi_sumD at h
    split at h
    · split at h
      · rename_i ns e
        rw [intsOf_some e]
        exact cb_sum h
      · exact h.elim
    · exact h.elim
theorem isi_of {d : D} {t : BT} {b : Bool} (h : isiD d t = some b) : ∃ n, D.tyn d = some n ∧ kitB n t.name = some b := by
  cases d <;> cases t <;> first
    | (cases h; done)
    | (cases h; exact ⟨_, rfl, kit_NoneType_int⟩) | (cases h; exact ⟨_, rfl, kit_NoneType_bool⟩) | (cases h; exact ⟨_, rfl, kit_NoneType_str⟩) | (cases h; exact ⟨_, rfl, kit_NoneType_tuple⟩) | (cases h; exact ⟨_, rfl, kit_NoneType_list⟩)
    | (cases h; exact ⟨_, rfl, kit_bool_int⟩) | (cases h; exact ⟨_, rfl, kit_bool_bool⟩) | (cases h; exact ⟨_, rfl, kit_bool_str⟩) | (cases h; exact ⟨_, rfl, kit_bool_tuple⟩) | (cases h; exact ⟨_, rfl, kit_bool_list⟩)
    | (cases h; exact ⟨_, rfl, kit_int_int⟩) | (cases h; exact ⟨_, rfl, kit_int_bool⟩) | (cases h; exact ⟨_, rfl, kit_int_str⟩) | (cases h; exact ⟨_, rfl, kit_int_tuple⟩) | (cases h; exact ⟨_, rfl, kit_int_list⟩)
    | (cases h; exact ⟨_, rfl, kit_str_int⟩) | (cases h; exact ⟨_, rfl, kit_str_bool⟩) | (cases h; exact ⟨_, rfl, kit_str_str⟩) | (cases h; exact ⟨_, rfl, kit_str_tuple⟩) | (cases h; exact ⟨_, rfl, kit_str_list⟩)
    | (cases h; exact ⟨_, rfl, kit_tuple_int⟩) | (cases h; exact ⟨_, rfl, kit_tuple_bool⟩) | (cases h; exact ⟨_, rfl, kit_tuple_str⟩) | (cases h; exact ⟨_, rfl, kit_tuple_tuple⟩) | (cases h; exact ⟨_, rfl, kit_tuple_list⟩)
    | (cases h; exact ⟨_, rfl, kit_list_int⟩) | (cases h; exact ⟨_, rfl, kit_list_bool⟩) | (cases h; exact ⟨_, rfl, kit_list_str⟩) | (cases h; exact ⟨_, rfl, kit_list_tuple⟩) | (cases h; exact ⟨_, rfl, kit_list_list⟩)
/-! targets -/
theorem sndGw {vs : List Nat} {K : KB} (eK : K = c.K.toKB) : ∀ (tg : Tg), tg.inn vs = true → ∀ (ρ ρ' : Vars) (q : List Sl) (N : List Sl → Prop) (sx : Addr × Value × Option Addr), Abs c.K.toKB sx q ρ → (∀ q', Abs c.K.toKB sx q' ρ' → N q') →
    (∀ d, evalG false tg d ρ = some ρ' → wpW c (denGp K tg).1 vs d q N) ∧ (∀ ds, evalG true tg (.tup ds) ρ = some ρ' → wpWs c (denGp K tg).2 vs ds q N)
  | .name i, hi, ρ, ρ', q, N, sx, A, hN => by
      refine ⟨fun d e => ?_, fun ds e => by cases e⟩
      unfold evalG at e
      split at e
      · rename_i hl
        cases e
        exact ww_name (by simpa [Tg.inn] using hi) (by rw [A.1]; exact hl) (hN _ (A.set rfl))
      · cases e
  | .tup t, hi, ρ, ρ', q, N, sx, A, hN => by
      refine ⟨fun d e => ?_, fun ds e => by cases e⟩
      have ih := sndGw eK t hi ρ ρ' q N sx A hN
      cases d with
      | tup l =>
        unfold evalG at e
        split at e
        · rename_i hl
          intro G H s v S R hv Q hq
          subst eK
          exact .inl (ww_tup hl (ih.2 l e) G H s v S R hv Q hq)
        · cases e
      | lst l =>
        unfold evalG at e
        split at e
        · rename_i hl
          intro G H s v S R hv Q hq
          subst eK
          exact .inr (ww_lst hl (ih.2 l e) G H s v S R hv Q hq)
        · cases e
      | _ => cases e
  | .nil, hi, ρ, ρ', q, N, sx, A, hN => by
      refine ⟨fun d e => (by cases d <;> cases e), fun ds e => ?_⟩
      cases ds with
      | nil => cases e; exact ww_nil (hN _ A)
      | cons x xs => cases e
  | .cons a b, hi, ρ, ρ', q, N, sx, A, hN => by
      refine ⟨fun d e => (by cases d <;> cases e), fun ds e => ?_⟩
      cases ds with
      | nil => cases e
      | cons x xs =>
        unfold evalG at e
        obtain ⟨ha, hb⟩ := Bool.and_eq_true_iff.mp (show (a.inn vs && b.inn vs) = true from hi)
        split at e
        · rename_i ρ1 h1
          exact ww_cons ((sndGw eK a ha ρ ρ1 q _ sx A fun q' A' => (sndGw eK b hb ρ1 ρ' q' N sx A' hN).2 xs e).1 x h1)
        · cases e
theorem sndG {K : KB} (eK : K = c.K.toKB) : ∀ (tg : Tg) (ρ ρ' : Vars) (q : List Sl) (N : List Sl → Prop) (sx : Addr × Value × Option Addr), Abs c.K.toKB sx q ρ → (∀ q', Abs c.K.toKB sx q' ρ' → N q') →
    (∀ d, evalG false tg d ρ = some ρ' → wpG c (denGp K tg).1 d q N) ∧ (∀ ds, evalG true tg (.tup ds) ρ = some ρ' → wpGs c (denGp K tg).2 ds q N)
  | .name i, ρ, ρ', q, N, sx, A, hN => by
      refine ⟨fun d e => ?_, fun ds e => by cases e⟩
      unfold evalG at e
      split at e
      · rename_i hl
        cases e
        exact wg_name (by rw [A.1]; exact hl) (hN _ (A.set rfl))
      · cases e
  | .tup t, ρ, ρ', q, N, sx, A, hN => by
      refine ⟨fun d e => ?_, fun ds e => by cases e⟩
      have ih := sndG eK t ρ ρ' q N sx A hN
      cases d with
      | tup l =>
        unfold evalG at e
        split at e
        · rename_i hl
          intro G H s v S R hv Q hq
          subst eK
          exact .inl (wg_tup hl (ih.2 l e) G H s v S R hv Q hq)
        · cases e
      | lst l =>
        unfold evalG at e
        split at e
        · rename_i hl
          intro G H s v S R hv Q hq
          subst eK
          exact .inr (wg_lst hl (ih.2 l e) G H s v S R hv Q hq)
        · cases e
      | _ => cases e
  | .nil, ρ, ρ', q, N, sx, A, hN => by
      refine ⟨fun d e => (by cases d <;> cases e), fun ds e => ?_⟩
      cases ds with
      | nil => cases e; exact wg_nil (hN _ A)
      | cons x xs => cases e
  | .cons a b, ρ, ρ', q, N, sx, A, hN => by
      refine ⟨fun d e => (by cases d <;> cases e), fun ds e => ?_⟩
      cases ds with
      | nil => cases e
      | cons x xs =>
        unfold evalG at e
        split at e
        · rename_i ρ1 h1
          exact wg_cons ((sndG eK a ρ ρ1 q _ sx A fun q' A' => (sndG eK b ρ1 ρ' q' N sx A' hN).2 xs e).1 x h1)
        · cases e
end
end Ez

set_option Elab.async false
set_option linter.all false
set_option maxRecDepth 100000
namespace Ez
open L2 PySem PyProof.Rows PySem.Spec
open Tr
def IsB (B : Bool → Prop) (d : D) : Prop := ∃ b, d = .bl b ∧ B b
def IsT (L : List D → Prop) (d : D) : Prop := ∃ xs, d = .tup xs ∧ L xs
def IsO (O : Option Int → Prop) (d : D) : Prop := (d = .non ∧ O none) ∨ ∃ i, d = .int i ∧ O (some i)
theorem wp_star {c : Cn} {q : List Sl} {ta : TE} {tr : TA} {F : PySem.W.Frag} (hF : F = c.K.toKB.K) {P : List D → Prop} (h : wpE c ta q fun x => ∃ l, seqL x = some l ∧ wpA c tr q fun xs => P (l ++ xs)) : wpA c (StX.tStar F ta tr) q P := by
  subst hF
  intro G H s S R Q hq
  refine h G H s S R _ fun G1 H1 v x hx T1 i1 => ?_
  obtain ⟨l, e, h1⟩ := hx
  cases x with
  | tup ds =>
    cases e
    obtain ⟨p, xs, rfl, a1, a2⟩ := i1
    exact ⟨p, xs, rfl, .inl (a1.sq T1.ok.sub), h1 G1 H1 s (S.trans T1) (R.step T1) _ fun G2 H2 vs ys h2 T2 i2 => hq G2 H2 _ _ h2 (T1.trans T2) (IsL.app (IsL.mono T2.ex _ a2) i2)⟩
  | lst ds =>
    cases e
    obtain ⟨p, xs, rfl, a1, a2⟩ := i1
    exact ⟨p, xs, rfl, .inr (a1.sq T1.ok.sub), h1 G1 H1 s (S.trans T1) (R.step T1) _ fun G2 H2 vs ys h2 T2 i2 => hq G2 H2 _ _ h2 (T1.trans T2) (IsL.app (IsL.mono T2.ex _ a2) i2)⟩
  | _ => cases e
theorem wa_mono {c : Cn} {q : List Sl} {ta : TA} {P P' : List D → Prop} (h : wpA c ta q P) (k : ∀ d, P d → P' d) : wpA c ta q P' := fun G H s S R Q hq => h G H s S R Q fun G' H' v d p => hq G' H' v d (k d p)
structure S4 (c : Cn) (κ : Dn) (Γ : Pgm) (Z : Vars → Xn → Prop) (y : EE) (q : List Sl) (ρ : Vars) : Prop where
  e : ∀ P, All (hdC c) P (Z ρ) (evalE Γ y ρ) → wpE c (den κ y).e q P
  t : ∀ B, All (hdC c) (IsB B) (Z ρ) (evalE Γ y ρ) → wpT c (den κ y).t q B
  a : ∀ L, All (hdC c) (IsT L) (Z ρ) (evalE Γ y ρ) → wpA c (den κ y).a q L
  o : ∀ O, All (hdC c) (IsO O) (Z ρ) (evalE Γ y ρ) → wpO c (den κ y).o q O
def Snd (c : Cn) (κ : Dn) (Γ : Pgm) (Z : Vars → Xn → Prop) (e : EE) : Prop := ∀ q ρ, Abs c.K.toKB κ.sx q ρ → S4 c κ Γ Z e q ρ
section
variable {c : Cn} {κ : Dn} {Γ : Pgm} {Z : Vars → Xn → Prop} {q : List Sl} {ρ : Vars} {te : TE}
theorem wa_of {L : List D → Prop} (h : wpE c te q (IsT L)) : wpA c (taOf c.K te) q L := fun G H s S R Q hq =>
  h G H s S R _ fun G1 H1 v d h1 T1 i1 => by
    obtain ⟨xs, rfl, k⟩ := h1
    obtain ⟨a, vs, rfl, j1, j2⟩ := i1
    exact ⟨a, vs, rfl, j1.sq T1.ok.sub, hq G1 H1 vs xs k T1 j2⟩
theorem wo_of {O : Option Int → Prop} (h : wpE c te q (IsO O)) : wpO c (toOf te) q O := fun G H s S R Q hq =>
  h G H s S R _ fun G1 H1 v d h1 T1 i1 => by
    rcases h1 with ⟨rfl, k⟩ | ⟨i, rfl, k⟩
    · exact .inl ⟨i1, hq G1 H1 _ k T1⟩
    · exact .inr ⟨i, i1, hq G1 H1 _ k T1⟩
theorem S4.of (S : Sd c κ Γ) {e : EE} (he : den κ e = κ.of te) (h : ∀ P, All (hdC c) P (Z ρ) (evalE Γ e ρ) → wpE c te q P) : S4 c κ Γ Z e q ρ := by
  refine ⟨fun P k => ?_, fun B k => ?_, fun L k => ?_, fun O k => ?_⟩
  · rw [he]; exact h P k
  · rw [he]; exact wt_B (h _ k)
  · rw [he]; show wpA c (taOf κ.K te) q L; rw [S.eK]; exact wa_of (h _ k)
  · rw [he]; exact wo_of (h _ k)
theorem S4.wt (S : Sd c κ Γ) {e : EE} {tt : TT} (he : den κ e = κ.wt te tt) (h : ∀ P, All (hdC c) P (Z ρ) (evalE Γ e ρ) → wpE c te q P) (h2 : ∀ B, All (hdC c) (IsB B) (Z ρ) (evalE Γ e ρ) → wpT c tt q B) : S4 c κ Γ Z e q ρ := by
  refine ⟨fun P k => ?_, fun B k => ?_, fun L k => ?_, fun O k => ?_⟩
  · rw [he]; exact h P k
  · rw [he]; exact h2 B k
  · rw [he]; show wpA c (taOf κ.K te) q L; rw [S.eK]; exact wa_of (h _ k)
  · rw [he]; exact wo_of (h _ k)
theorem mono_e {P P' : D → Prop} (h : wpE c te q P) (k : ∀ d, P d → P' d) : wpE c te q P' := wp_mono h k
theorem S4.fe {y : EE} (s : S4 c κ Γ Z y q ρ) {P P' : D → Prop} (h : All (hdC c) P (Z ρ) (evalE Γ y ρ)) (k : ∀ d, P d → P' d) : wpE c (den κ y).e q P' := wp_mono (s.e P h) k
theorem S4.ft {y : EE} (s : S4 c κ Γ Z y q ρ) {P : D → Prop} {B : Bool → Prop} (h : All (hdC c) P (Z ρ) (evalE Γ y ρ)) (k : ∀ d, P d → IsB B d) : wpT c (den κ y).t q B := s.t B (h.mono k fun _ z => z)
theorem S4.fa {y : EE} (s : S4 c κ Γ Z y q ρ) {P : D → Prop} {L : List D → Prop} (h : All (hdC c) P (Z ρ) (evalE Γ y ρ)) (k : ∀ d, P d → IsT L d) : wpA c (den κ y).a q L := s.a L (h.mono k fun _ z => z)
theorem S4.fo {y : EE} (s : S4 c κ Γ Z y q ρ) {P : D → Prop} {O : Option Int → Prop} (h : All (hdC c) P (Z ρ) (evalE Γ y ρ)) (k : ∀ d, P d → IsO O d) : wpO c (den κ y).o q O := s.o O (h.mono k fun _ z => z)
/-- a call of a def by its number -/
theorem sp_run (S : Sd c κ Γ) (hz : SnkOk c κ Z) {f : Nat} {sk : Bool} {ds : List D} {P : D → Prop} {G H : Hp} {s : L2.St} {vs : List V} (Sp : c.S G H) (R : c.R G H s q) (A : Abs c.K.toKB κ.sx q ρ) (i : IsL c.K G ds vs)
    (h : All (hdC c) P (Z ρ) (if sk then Γ.call f ds else (Γ.call f ds).noX)) {Q : VK} (hq : ∀ G' H' v d, P d → Stp c.W G H G' H' → Is c.K G' d v → Q v H') : κ.sp f vs H Q ((cond sk κ.snk.at Snk.no.at) s) := by
  refine S.sp _ _ _ _ _ ?_
  cases sk with
  | true =>
    simp only [if_true, cond_true] at h ⊢
    refine ⟨c.W, G, ds, Sp.ok, i, h.mono (fun _ _ => trivial) (fun _ _ => trivial), fun G' H' v d a T i' => hq G' H' v d (h.of_ret a) T i', fun G' H' C dx ns es xs a T e1 e2 e3 => ?_⟩
    obtain ⟨x, hx, rfl, rfl, rfl⟩ := a
    exact hz q ρ G' H' s dx xs x (h.of_exn hx) A (Sp.trans T) (R.step T) e1 e2 e3
  | false =>
    simp only [Bool.false_eq_true, if_false, cond_false] at h ⊢
    have h := h.of_noX
    refine ⟨c.W, G, ds, Sp.ok, i, h.mono (fun _ _ => trivial) (fun _ _ => trivial), fun G' H' v d a T i' => hq G' H' v d (h.of_ret a) T i', fun G' H' C dx ns es xs a T e1 e2 e3 => ?_⟩
    obtain ⟨x, hx, _⟩ := a
    exact (h.of_exn hx).elim
theorem rngL_get : ∀ (n : Nat) (lo : Int) (i : Nat), i < n → (rngL lo n)[i]? = some (.int (lo + i))
  | 0, _, _, h => absurd h (Nat.not_lt_zero _)
  | n + 1, lo, 0, _ => by show some (D.int lo) = _; rw [show lo + ((0 : Nat) : Int) = lo by omega]
  | n + 1, lo, i + 1, h => by
    show (rngL (lo + 1) n)[i]? = _
    rw [rngL_get n (lo + 1) i (by omega)]
    rw [show lo + 1 + (i : Int) = lo + ((i + 1 : Nat) : Int) by omega]
theorem rngL_len : ∀ (n : Nat) (lo : Int), (rngL lo n).length = n
  | 0, _ => rfl
  | n + 1, lo => congrArg (· + 1) (rngL_len n (lo + 1))
theorem drop_at {l : List D} {i : Nat} {x : D} (h : l[i]? = some x) : l.drop i = x :: l.drop (i + 1) := by
  obtain ⟨hi, e⟩ := List.getElem?_eq_some_iff.mp h
  rw [List.drop_eq_getElem_cons hi, e]
theorem wp_slQ {te : TE} {tl th : TO} {P : D → Prop} (h : wpE c te q fun x => wpO c tl q fun lo => wpO c th q fun hi => ∃ ds, (x = .lst ds ∧ P (.lst (cutD ds lo hi))) ∨ (x = .tup ds ∧ P (.tup (cutD ds lo hi)))) : wpE c (tSl (rSlQ c.K) te tl th) q P := fun G H s S R Q hq =>
  h G H s S R _ fun G1 H1 v d h1 T1 i1 => h1 G1 H1 s (S.trans T1) (R.step T1) _ fun G2 H2 lo h2 T2 => h2 G2 H2 s ((S.trans T1).trans T2) ((R.step T1).step T2) _ fun G3 H3 hi h3 T3 => by
    obtain ⟨ds, ⟨rfl, hp⟩ | ⟨rfl, hp⟩⟩ := h3
    · obtain ⟨a, xs, rfl, a1, a2⟩ := i1
      have e := T2.ex.trans T3.ex
      refine .inl ⟨a, xs, rfl, (a1.mono e).sq T3.ok.sub, fun p hp0 => ?_⟩
      have T := ((T1.trans T2).trans T3).lay (o := .lst (cutV xs lo hi)) hp0
      exact hq _ _ _ _ hp T ⟨p, _, rfl, upd_same, IsL.mono (Ex.new (none_of_sub T3.ok.sub hp0)) _ (IsL.mono e _ (IsL.cut a2 lo hi))⟩
    · obtain ⟨a, xs, rfl, a1, a2⟩ := i1
      have e := T2.ex.trans T3.ex
      have TT := (T1.trans T2).trans T3
      refine .inr ⟨a, xs, rfl, (a1.mono e).sq T3.ok.sub, fun z => ?_, fun _ p hp0 => ?_⟩
      · rw [IsL.whole a2 z.1 z.2] at hp
        exact hq _ _ _ _ hp TT ⟨a, xs, rfl, a1.mono e, IsL.mono e _ a2⟩
      · exact hq _ _ _ _ hp (TT.lay hp0) ⟨p, _, rfl, .inl upd_same, IsL.mono (Ex.new (none_of_sub T3.ok.sub hp0)) _ (IsL.mono e _ (IsL.cut a2 lo hi))⟩
theorem items_none {k : ItK} {d : D} {l : List D} (hk : k ≠ .seq ∧ k ≠ .rng1 ∧ k ≠ .rng2) (h : itemsOf k d = some l) : False := by
  cases k <;> simp_all [itemsOf]
theorem items_seq {d : D} {l : List D} (h : itemsOf .seq d = some l) : d = .lst l ∨ d = .tup l ∨ d = .scr l := by
  cases d with
  | lst l' => cases h; exact .inl rfl
  | tup l' => cases h; exact .inr (.inl rfl)
  | scr l' => cases h; exact .inr (.inr rfl)
  | _ => cases h
theorem items_r1 {d : D} {l : List D} (h : itemsOf .rng1 d = some l) : ∃ n : Int, d = .tup [.int n] ∧ -10000 ≤ n ∧ n ≤ 10000 ∧ l = rngL 0 n.toNat := by
  unfold itemsOf at h
  split at h
  all_goals first
    | (cases h; done)
    | (rename_i hk hd; cases hk; done)
    | skip
  all_goals first
    | (split at h
       · rename_i n _ hn; cases h; exact ⟨n, rfl, hn.1, hn.2, rfl⟩
       · cases h)
    | contradiction
theorem items_r2 {d : D} {l : List D} (h : itemsOf .rng2 d = some l) : ∃ a b : Int, d = .tup [.int a, .int b] ∧ 0 ≤ a ∧ a ≤ 10000 ∧ -10000 ≤ b ∧ b ≤ 10000 ∧ l = rngL a (b - a).toNat := by
  unfold itemsOf at h
  split at h
  all_goals first
    | (cases h; done)
    | skip
  all_goals first
    | (split at h
       · rename_i a b _ hn; cases h; exact ⟨a, b, rfl, hn.1, hn.2.1, hn.2.2.1, hn.2.2.2, rfl⟩
       · cases h)
    | contradiction
/-- a comprehension over what stands -/
theorem wp_lcQ {g : TG} {ta : TE} {tt : TT} {te : TE} {vs : List Nat} {P : D → Prop} (h : wpE c ta q fun d => ∃ ds, (d = .lst ds ∨ d = .tup ds ∨ d = .scr ds) ∧ ds.length ≤ 10000 ∧ ∃ I : Nat → List D → Prop, I 0 [] ∧
      (∀ i x acc, ds[i]? = some x → I i acc → lcTurn c g tt te vs q x acc (I (i + 1))) ∧ ∀ acc, I ds.length acc → P (.lst acc)) : wpE c (tLc (iSeq c.K ta) g tt te vs) q P := fun G H s S R Q hq =>
  h G H s S R _ fun G1 H1 v d h1 T1 i1 => by
    obtain ⟨ds, hd, hz, I, h0, hs, he⟩ := h1
    have start : ∀ A, H1 A = none → LcAt c G1 H1 A 0 (I 0) (upd H1 A (.lst [])) := fun A hA =>
      ⟨G1, [], [], h0, Nat.le_refl 0, (Stp.refl T1.ok).put hA (none_of_sub T1.ok.sub hA) (T1.ok.notM hA), upd_same, none_of_sub T1.ok.sub hA, rfl⟩
    rcases hd with rfl | rfl | rfl
    · obtain ⟨a, xs, rfl, l1, l2⟩ := i1
      refine ⟨a, rfl, .inl ⟨⟨xs, l1.sq T1.ok.sub⟩, fun A hA => lc_list (xs := xs) (fun i => LcAt c G1 H1 A i (I i)) (start A hA) (fun i H' _ w => ?_) (fun i x H' e w => ?_) fun H' w => ?_⟩⟩
      · obtain ⟨G2, acc, ys, _, _, T2, _⟩ := w
        exact (l1.mono T2.ex).sq T2.ok.sub
      · obtain ⟨d, ed, id⟩ := IsL.back l2 e
        have : i < ds.length := (List.getElem?_eq_some_iff.mp ed).1
        exact lc_turn hA (S.trans T1) (R.step T1) (by omega) w id fun acc ha => hs i d acc ed ha
      · rw [IsL.len l2] at w
        exact lc_end hA T1.ok w fun G' v acc ha T' iv => hq G' H' v _ (he acc ha) (T1.trans T') iv
    · obtain ⟨a, xs, rfl, l1, l2⟩ := i1
      refine ⟨a, rfl, .inr ⟨⟨xs, l1.sq T1.ok.sub⟩, fun A hA => lc_tup (xs := xs) (fun i => LcAt c G1 H1 A i (I i)) (start A hA) (fun i H' _ w => ?_) (fun i x H' e w => ?_) fun H' w => ?_⟩⟩
      · obtain ⟨G2, acc, ys, _, _, T2, _⟩ := w
        exact (l1.mono T2.ex).sq T2.ok.sub
      · obtain ⟨d, ed, id⟩ := IsL.back l2 e
        have : i < ds.length := (List.getElem?_eq_some_iff.mp ed).1
        exact lc_turn hA (S.trans T1) (R.step T1) (by omega) w id fun acc ha => hs i d acc ed ha
      · rw [IsL.len l2] at w
        exact lc_end hA T1.ok w fun G' v acc ha T' iv => hq G' H' v _ (he acc ha) (T1.trans T') iv
    · obtain ⟨a, xs, rfl, l1, l2⟩ := i1
      refine ⟨a, rfl, .inl ⟨⟨xs, rd_sq T1.ok.sub l1⟩, fun A hA => lc_list (xs := xs) (fun i => LcAt c G1 H1 A i (I i)) (start A hA) (fun i H' _ w => ?_) (fun i x H' e w => ?_) fun H' w => ?_⟩⟩
      · obtain ⟨G2, acc, ys, _, _, T2, _⟩ := w
        exact rd_sq T2.ok.sub (rd_sq T2.ex l1)
      · obtain ⟨d, ed, id⟩ := IsL.back l2 e
        have : i < ds.length := (List.getElem?_eq_some_iff.mp ed).1
        exact lc_turn hA (S.trans T1) (R.step T1) (by omega) w id fun acc ha => hs i d acc ed ha
      · rw [IsL.len l2] at w
        exact lc_end hA T1.ok w fun G' v acc ha T' iv => hq G' H' v _ (he acc ha) (T1.trans T') iv
noncomputable abbrev lcF (Γ : Pgm) (ρ : Vars) (tg : Tg) (t e : EE) (vs : List Nat) (x : D) : Tr Xn (Option D) := match evalG false tg x (wipeV ρ vs) with
  | some ρ' => (evalE Γ t ρ').noX.bind fun | .bl true => (evalE Γ e ρ').noX.bind fun y => ret (some y) | .bl false => ret none | _ => bad
  | none => bad
theorem lc_snd (eK : κ.K = c.K.toKB) {tg : Tg} {t e : EE} {vs : List Nat} (hv : tg.inn vs = true) (ht : Snd c κ Γ Z t) (he : Snd c κ Γ Z e) (A : Abs c.K.toKB κ.sx q ρ) {P : D → Prop} {X : Xn → Prop} {x : D} {r acc : List D}
    (h : All (hdC c) P X (lcGo (lcF Γ ρ tg t e vs) (x :: r) acc)) : lcTurn c (denGp κ.K tg).1 (den κ t).t (den κ e).e vs q x acc fun acc' => All (hdC c) P X (lcGo (lcF Γ ρ tg t e vs) r acc') := by
  have h1 : All (hdC c) P X ((lcF Γ ρ tg t e vs x).bind fun | some y => lcGo (lcF Γ ρ tg t e vs) r (acc ++ [y]) | none => lcGo (lcF Γ ρ tg t e vs) r acc) := h
  unfold lcF at h1
  split at h1
  · rename_i ρ' hg
    refine (sndGw eK tg hv (wipeV ρ vs) ρ' (wipeS q vs) _ κ.sx (A.wipe vs) fun q2 A2 => ?_).1 x hg
    have h2 := h1.bind.bind.of_noX
    refine (ht q2 ρ' A2).ft (h2.mono (fun _ z => z) fun _ z => z.elim) fun d hd => ?_
    cases d with
    | bl b =>
      cases b with
      | true =>
        refine ⟨true, rfl, fun _ => ?_, fun z => nomatch z⟩
        exact (he q2 ρ' A2).e _ ((show All _ _ _ ((evalE Γ e ρ').noX.bind _) from hd).bind.of_noX.mono (fun y hy => hy) fun _ z => z.elim)
      | false => exact ⟨false, rfl, fun z => (nomatch z), fun _ => hd⟩
    | _ => exact hd.elim
  · exact h1.elim
theorem sndE (S : Sd c κ Γ) (hz : SnkOk c κ Z) : ∀ e : EE, Snd c κ Γ Z e
  | .var i => fun q ρ A => .of S rfl fun P h => by
      have h : All (hdC c) P (Z ρ) (getV ρ i) := h
      unfold getV at h
      split at h
      · rename_i e; exact wp_var (A.dat e) h
      · exact h.elim
  | .lit d => fun q ρ A => .of S rfl fun P h => by
      cases d with
      | non => exact wp_non h
      | bl b => exact wp_bl h
      | int i => exact wp_int h
      | str x => exact wp_str h
      | _ => exact (show False from h).elim
  | .con k => fun q ρ A => .of S rfl fun P h => wp_ref (S.con k) h
  | .fnv f => fun q ρ A => .of S rfl fun P h => wp_ref (d := .fn f) (fun G => by rw [S.eK]; rfl) h
  | .clv f => fun q ρ A => .of S rfl fun P h => wp_ref (d := .cls f) (fun G => by rw [S.eK]; rfl) h
  | .op o a b => fun q ρ A => .of S rfl fun P h => wp_op ((sndE S hz a q ρ A).fe h.bind fun x hx => (sndE S hz b q ρ A).fe hx.bind fun y hy => by
      rw [S.eK]; exact od2 hy)
  | .neg a => fun q ρ A => .of S rfl fun P h => wp_un ((sndE S hz a q ρ A).fe h.bind fun x hx => by
      cases x <;> first | exact ud_neg hx | exact hx.elim)
  | .and a b => fun q ρ A => .wt S rfl (fun P h => wp_andV ((sndE S hz a q ρ A).fe h.bind fun x hx => by
      cases x with
      | bl v => cases v with
        | true => exact ⟨true, rfl, fun _ => (sndE S hz b q ρ A).e _ hx, fun z => nomatch z⟩
        | false => exact ⟨false, rfl, fun z => (nomatch z), fun _ => hx⟩
      | _ => exact hx.elim)) fun B h => wt_and ((sndE S hz a q ρ A).ft h.bind (fun x hx => by
      cases x with
      | bl v => cases v with
        | true => exact ⟨true, rfl, fun _ => (sndE S hz b q ρ A).t _ hx, fun z => nomatch z⟩
        | false =>
          obtain ⟨_, e, hx⟩ := (show IsB B (.bl false) from hx)
          cases e; exact ⟨false, rfl, fun z => (nomatch z), fun _ => hx⟩
      | _ => exact hx.elim))
  | .or a b => fun q ρ A => .wt S rfl (fun P h => wp_orV ((sndE S hz a q ρ A).fe h.bind fun x hx => by
      cases x with
      | bl v => cases v with
        | false => exact ⟨false, rfl, fun _ => (sndE S hz b q ρ A).e _ hx, fun z => nomatch z⟩
        | true => exact ⟨true, rfl, fun z => (nomatch z), fun _ => hx⟩
      | _ => exact hx.elim)) fun B h => wt_or ((sndE S hz a q ρ A).ft h.bind (fun x hx => by
      cases x with
      | bl v => cases v with
        | false => exact ⟨false, rfl, fun _ => (sndE S hz b q ρ A).t _ hx, fun z => nomatch z⟩
        | true =>
          obtain ⟨_, e, hx⟩ := (show IsB B (.bl true) from hx)
          cases e; exact ⟨true, rfl, fun z => (nomatch z), fun _ => hx⟩
      | _ => exact hx.elim))
  | .not a => fun q ρ A => .wt S rfl (fun P h => wp_notV ((sndE S hz a q ρ A).fe h.bind fun x hx => by
      cases x with
      | bl v => exact ⟨v, rfl, hx⟩
      | _ => exact hx.elim)) fun B h => wt_not ((sndE S hz a q ρ A).ft h.bind (fun x hx => by
      cases x with
      | bl v =>
        obtain ⟨_, e, hx⟩ := (show IsB B (.bl (!v)) from hx)
        cases e; exact ⟨v, rfl, hx⟩
      | _ => exact hx.elim))
  | .notT a => fun q ρ A => .of S rfl fun P h => by
      show wpE c (tNotT κ.K (den κ a).e) q P
      rw [S.eK]
      refine wp_notT ((sndE S hz a q ρ A).fe h.bind fun x hx => ?_)
      cases x with
      | lst l => exact ⟨l.isEmpty, rfl, by simpa [truD, All] using hx⟩
      | tup l => exact ⟨l.isEmpty, rfl, by simpa [truD, All] using hx⟩
      | non => exact ⟨true, rfl, hx⟩
      | bl b => exact ⟨!b, rfl, hx⟩
      | int i => exact ⟨i == 0, rfl, by simpa [truD, All] using hx⟩
      | _ => exact hx.elim
  | .isN a => fun q ρ A => .of S rfl fun P h => wp_isN ((sndE S hz a q ρ A).fe h.bind fun x hx => hx)
  | .notN a => fun q ρ A => .of S rfl fun P h => wp_notN ((sndE S hz a q ρ A).fe h.bind fun x hx => hx)
  | .tru a => fun q ρ A => .wt S rfl (fun P h => by
      show wpE c (tNotV (tNotT κ.K (den κ a).e)) q P
      rw [S.eK]
      refine wp_notV (wp_notT ((sndE S hz a q ρ A).fe h.bind fun x hx => ?_))
      cases x with
      | lst l => exact ⟨l.isEmpty, rfl, _, rfl, by simpa [truD, All] using hx⟩
      | tup l => exact ⟨l.isEmpty, rfl, _, rfl, by simpa [truD, All] using hx⟩
      | non => exact ⟨true, rfl, _, rfl, hx⟩
      | bl b => exact ⟨!b, rfl, _, rfl, by rw [Bool.not_not]; exact hx⟩
      | int i => exact ⟨i == 0, rfl, _, rfl, by simpa [truD, All] using hx⟩
      | _ => exact hx.elim) fun B h => by
      show wpT c (fun σ H Q => (den κ a).e σ H fun x H' => ∃ k, TruV κ.K x H' k ∧ Q k H') q B
      rw [S.eK]
      refine wt_tru ((sndE S hz a q ρ A).fe h.bind fun x hx => ?_)
      cases x with
      | lst l =>
        obtain ⟨_, e, hx⟩ := (show IsB B (.bl (!l.isEmpty)) from hx)
        cases e; exact ⟨l.isEmpty, rfl, hx⟩
      | tup l =>
        obtain ⟨_, e, hx⟩ := (show IsB B (.bl (!l.isEmpty)) from hx)
        cases e; exact ⟨l.isEmpty, rfl, hx⟩
      | non =>
        obtain ⟨_, e, hx⟩ := (show IsB B (.bl false) from hx)
        cases e; exact ⟨true, rfl, hx⟩
      | bl b =>
        obtain ⟨_, e, hx⟩ := (show IsB B (.bl b) from hx)
        cases e; exact ⟨!b, rfl, by rw [Bool.not_not]; exact hx⟩
      | int i =>
        obtain ⟨_, e, hx⟩ := (show IsB B (.bl (!(i == 0))) from hx)
        cases e; exact ⟨i == 0, rfl, hx⟩
      | _ => exact hx.elim
  | .chain o o' a b k => fun q ρ A => .of S rfl fun P h => by
      show wpE c (tChain (den2 κ.K o) (den2 κ.K o') (den κ a).e (den κ b).e (den κ k).e) q P
      rw [S.eK]
      refine wp_chain ((sndE S hz a q ρ A).fe h.bind fun x hx => (sndE S hz b q ρ A).fe hx.bind fun y hy => od2 (hd := hdC c) (Zx := Z ρ) (hy.bind.mono (fun z hz' => ?_) fun _ z => z))
      cases z with
      | bl v => cases v with
        | true => exact ⟨true, rfl, fun _ => mono_e ((sndE S hz k q ρ A).e _ (show All _ _ _ ((evalE Γ k ρ).bind _) from hz').bind) fun w hw => od2 hw, fun z => nomatch z⟩
        | false => exact ⟨false, rfl, fun z => (nomatch z), fun _ => hz'⟩
      | _ => exact hz'.elim
  | .ifx t a b => fun q ρ A => .of S rfl fun P h => wp_if ((sndE S hz t q ρ A).ft h.bind (fun x hx => by
      cases x with
      | bl v => cases v with
        | true => exact ⟨true, rfl, fun _ => (sndE S hz a q ρ A).e _ hx, fun z => nomatch z⟩
        | false => exact ⟨false, rfl, fun z => (nomatch z), fun _ => (sndE S hz b q ρ A).e _ hx⟩
      | _ => exact hx.elim))
  | .nil => fun q ρ A => by
      have e : ∀ P, All (hdC c) P (Z ρ) (evalE Γ .nil ρ) → wpE c (tTup tNil) q P := fun P h => wp_tup (wp_nil ⟨by decide, h⟩)
      exact ⟨e, fun B h => wt_B (e _ h), fun L h => wp_nil (by obtain ⟨_, e, k⟩ := (show IsT L (.tup []) from h); cases e; exact k), fun O h => wo_of (e _ h)⟩
  | .cons a b => fun q ρ A => by
      have e : ∀ P, All (hdC c) P (Z ρ) (evalE Γ (.cons a b) ρ) → wpE c (tTup (tCons (den κ a).e (den κ b).a)) q P := fun P h =>
        wp_tup (wp_cons ((sndE S hz a q ρ A).fe h.bind fun x hx => (sndE S hz b q ρ A).fa hx.bind fun y hy => by
          cases y with
          | tup xs => obtain ⟨h1, h2⟩ := all_ite hy; exact ⟨xs, rfl, by rw [List.length_cons]; omega, h2⟩
          | _ => exact hy.elim))
      exact ⟨e, fun B h => wt_B (e _ h), fun L h => wp_cons ((sndE S hz a q ρ A).fe h.bind fun x hx => (sndE S hz b q ρ A).fa hx.bind fun y hy => by
          cases y with
          | tup xs =>
            obtain ⟨h1, h2⟩ := all_ite hy
            obtain ⟨_, e, k⟩ := (show IsT L (.tup (x :: xs)) from h2)
            cases e; exact ⟨xs, rfl, k⟩
          | _ => exact hy.elim), fun O h => wo_of (e _ h)⟩
  | .star a b => fun q ρ A => by
      have hF : κ.K.K = c.K.toKB.K := by rw [S.eK]
      have key : ∀ {P : D → Prop}, All (hdC c) P (Z ρ) (evalE Γ (.star a b) ρ) → wpA c (StX.tStar κ.K.K (den κ a).e (den κ b).a) q fun xs => xs.length ≤ 10000 ∧ P (.tup xs) := fun {P} h =>
        wp_star hF ((sndE S hz a q ρ A).fe h.bind fun x hx => by
          cases e : seqL x with
          | none => rw [e] at hx; exact hx.elim
          | some l =>
            rw [e] at hx
            refine ⟨l, rfl, (sndE S hz b q ρ A).fa hx.bind fun y hy => ?_⟩
            cases y with
            | tup xs => obtain ⟨h1, h2⟩ := all_ite hy; exact ⟨xs, rfl, by rw [List.length_append]; exact h1, h2⟩
            | _ => exact hy.elim)
      have e : ∀ P, All (hdC c) P (Z ρ) (evalE Γ (.star a b) ρ) → wpE c (tTup (StX.tStar κ.K.K (den κ a).e (den κ b).a)) q P := fun P h => wp_tup (key h)
      exact ⟨e, fun B h => wt_B (e _ h), fun L h => wa_mono (key h) fun xs z => by
        obtain ⟨_, ez, k⟩ := (show IsT L (.tup xs) from z.2)
        cases ez; exact k, fun O h => wo_of (e _ h)⟩
  | .tup a => fun q ρ A => .of S rfl fun P h => wp_tup ((sndE S hz a q ρ A).fa h.bind fun x hx => by
      cases x with
      | tup xs => exact ⟨xs, rfl, all_ite hx⟩
      | _ => exact hx.elim)
  | .lst a => fun q ρ A => .of S rfl fun P h => wp_lst ((sndE S hz a q ρ A).fa h.bind fun x hx => by
      cases x with
      | tup xs => exact ⟨xs, rfl, all_ite hx⟩
      | _ => exact hx.elim)
  | .slc a lo hi => fun q ρ A => .of S rfl fun P h => by
      show wpE c (tSl (rSlQ κ.K) (den κ a).e (den κ lo).o (den κ hi).o) q P
      rw [S.eK]
      refine wp_slQ ((sndE S hz a q ρ A).fe h.bind fun x hx => (sndE S hz lo q ρ A).fo hx.bind fun l hl => ?_)
      split at hl
      · exact hl.elim
      · rename_i lo' e
        have k : wpO c (den κ hi).o q fun hi' => ∃ ds, (x = .lst ds ∧ P (.lst (cutD ds lo' hi'))) ∨ (x = .tup ds ∧ P (.tup (cutD ds lo' hi'))) := (sndE S hz hi q ρ A).fo hl.bind fun y hy => by
          split at hy
          · exact hy.elim
          · rename_i hi' e2
            have kk : ∃ ds, (x = .lst ds ∧ P (.lst (cutD ds lo' hi'))) ∨ (x = .tup ds ∧ P (.tup (cutD ds lo' hi'))) := by
              cases x with
              | lst ds => exact ⟨ds, .inl ⟨rfl, hy⟩⟩
              | tup ds => exact ⟨ds, .inr ⟨rfl, hy⟩⟩
              | _ => exact (show False from hy).elim
            cases y with
            | int i => cases e2; exact .inr ⟨i, rfl, kk⟩
            | non => cases e2; exact .inl ⟨rfl, kk⟩
            | _ => cases e2
        cases l with
        | int i => cases e; exact .inr ⟨i, rfl, k⟩
        | non => cases e; exact .inl ⟨rfl, k⟩
        | _ => cases e
  | .nop => fun q ρ A => by
      have e : ∀ P, All (hdC c) P (Z ρ) (evalE Γ .nop ρ) → wpE c (tC .non) q P := fun P h => wp_non h
      exact ⟨e, fun B h => wt_B (e _ h), fun L h => by show wpA c (taOf κ.K (tC .non)) q L; rw [S.eK]; exact wa_of (e _ h), fun O h => wo_none (by
        rcases (show IsO O .non from h) with ⟨_, k⟩ | ⟨_, e, _⟩
        · exact k
        · cases e)⟩
  | .part a => fun q ρ A => by
      have e : ∀ P, All (hdC c) P (Z ρ) (evalE Γ (.part a) ρ) → wpE c (den κ a).e q P := fun P h => (sndE S hz a q ρ A).fe h.bind fun x hx => by
        cases x with
        | int i => exact hx
        | _ => exact hx.elim
      exact ⟨e, fun B h => wt_B (e _ h), fun L h => by show wpA c (taOf κ.K (den κ a).e) q L; rw [S.eK]; exact wa_of (e _ h), fun O h => wo_some ((sndE S hz a q ρ A).fe h.bind fun x hx => by
        cases x with
        | int i =>
          rcases (show IsO O (.int i) from hx) with ⟨e, _⟩ | ⟨_, e, k⟩
          · cases e
          · cases e; exact ⟨i, rfl, k⟩
        | _ => exact hx.elim)⟩
  | .call f sk dvs a => fun q ρ A => .of S rfl fun P h => fun G H s Sp R Q hq =>
      (sndE S hz a q ρ A).fa (L := fun ds => dvs.all scaV = true ∧ All (hdC c) P (Z ρ) (if sk then Γ.call f (ds ++ dvs.map dOf) else (Γ.call f (ds ++ dvs.map dOf)).noX)) h.bind (fun x hx => by
        cases x with
        | tup xs => exact ⟨xs, rfl, all_ite hx⟩
        | _ => exact hx.elim) G H s Sp R _ fun G1 H1 vs ds h1 T1 i1 =>
          sp_run S hz (Sp.trans T1) (R.step T1) A (IsL.app i1 (isDef h1.1)) h1.2 fun G2 H2 v d p T2 i2 => hq G2 H2 v d p (T1.trans T2) i2
  | .callV i sk a => fun q ρ A => .of S rfl fun P h => fun G H s Sp R Q hq => by
      have h0 := h.bind
      unfold getV at h0
      generalize e : ρ[i]? = o at h0
      cases o with
      | none => exact (show False from h0).elim
      | some sv =>
      cases sv with
      | dat d =>
        cases d with
        | fn f =>
          obtain ⟨ho, h1⟩ := all_ite (show All (hdC c) P (Z ρ) (if Γ.ok f = true then _ else bad) from h0)
          obtain ⟨v, e1, e2⟩ := R.dat i _ (A.dat e)
          cases (show v = V.ref (c.K.fn f) from e2)
          refine ⟨f, by rw [S.ok]; exact ho, by rw [S.eK]; exact e1, ?_⟩
          exact (sndE S hz a q ρ A).fa (L := fun ds => All (hdC c) P (Z ρ) (if sk then Γ.call f ds else (Γ.call f ds).noX)) h1.bind (fun x hx => by
            cases x with
            | tup xs => exact ⟨xs, rfl, hx⟩
            | _ => exact hx.elim) G H s Sp R _ fun G1 H1 vs ds h1 T1 i1 =>
              sp_run S hz (Sp.trans T1) (R.step T1) A i1 h1 fun G2 H2 v d p T2 i2 => hq G2 H2 v d p (T1.trans T2) i2
        | _ => exact (show False from h0).elim
      | _ => exact (show False from h0).elim
  | .take a => fun q ρ A => .of S rfl fun P h => by
      show wpE c (tCall κ.take [] E0 (den κ a).a) q P
      intro G H s Sp R Q hq
      refine (sndE S hz a q ρ A).fa (L := fun ds => ∃ m, ds = [.hand, .int m] ∧ hdC c ∧ 0 < m ∧ m.natAbs < 2 ^ 8000 ∧ ∀ v, 0 ≤ v → v < m → P (.int v)) h.bind (fun x hx => ?_) G H s Sp R _ fun G1 H1 vs ds h1 T1 i1 => ?_
      · match x, hx with
        | .tup [.hand, .int m], ⟨h1, h2, h3, h4⟩ => exact ⟨_, rfl, m, rfl, h1, h2, h3, h4⟩
      · obtain ⟨m, rfl, k1, k2, k3, k4⟩ := h1
        refine S.take _ _ _ _ ⟨c.W, G1, [.adr c.K.hand, .int m], T1.ok, ?_, ⟨c.K.hand, m, rfl, rfl, k2, k3, k1⟩, fun G2 H2 v d hd T2 i2 => ?_, fun _ _ _ _ _ _ _ z => z.elim⟩
        · rw [List.append_nil]
          obtain ⟨x, r, rfl, j1, j2⟩ := i1
          exact ⟨x, r, rfl, j1, j2⟩
        · obtain ⟨m', v', e, rfl, v0, v1⟩ := hd
          cases e
          exact hq G2 H2 v _ (k4 v' v0 v1) (T1.trans T2) i2
  | .bi b a => fun q ρ A => .of S rfl fun P h => wp_cb ((sndE S hz a q ρ A).fa h.bind fun x hx => by
      cases x with
      | tup xs => exact ⟨xs, rfl, by rw [S.eK]; exact cbB hx⟩
      | _ => exact hx.elim)
  | .isi a t => fun q ρ A => .of S rfl fun P h => wp_cb (wp_cons ((sndE S hz a q ρ A).fe h.bind fun x hx => wp_cons (wp_ty (wp_nil (by
      split at hx
      · rename_i b e
        obtain ⟨n, h1, h2⟩ := isi_of e
        rw [S.eK]
        exact cb_isi h1 h2 hx
      · exact hx.elim)))))
  | .isi2 a t u => fun q ρ A => .of S rfl fun P h => by
      show wpE c (tCB (rIsiT κ.K) _) q P
      rw [S.eK]
      refine wp_isi2 ((sndE S hz a q ρ A).fe h.bind fun x hx => ?_)
      split at hx
      · rename_i b b' e e'
        obtain ⟨n, h1, h2⟩ := isi_of e
        obtain ⟨n', h1', h2'⟩ := isi_of e'
        rw [h1] at h1'; cases h1'
        exact ⟨n, b, b', h1, h2, h2', hx⟩
      · exact hx.elim
  | .isC _ _ => fun q ρ A => .of S rfl fun P h => h.elim
  | .lc k it tg t e vs => fun q ρ A => .of S rfl fun P h => by
      have hb := h.bind
      have go : ∀ {l : List D}, All (hdC c) P (Z ρ) (if l.length ≤ 10000 ∧ tg.inn vs = true then lcGo (lcF Γ ρ tg t e vs) l [] else bad) →
          l.length ≤ 10000 ∧ ∃ I : Nat → List D → Prop, I 0 [] ∧ (∀ i x acc, l[i]? = some x → I i acc → lcTurn c (denGp κ.K tg).1 (den κ t).t (den κ e).e vs q x acc (I (i + 1))) ∧ ∀ acc, I l.length acc → P (.lst acc) := by
        intro l hl
        obtain ⟨⟨h1, h2⟩, h3⟩ := all_ite hl
        refine ⟨h1, fun i acc => All (hdC c) P (Z ρ) (lcGo (lcF Γ ρ tg t e vs) (l.drop i) acc), h3, fun i x acc hi hI => ?_, fun acc hI => ?_⟩
        · have hI : All (hdC c) P (Z ρ) (lcGo (lcF Γ ρ tg t e vs) (l.drop i) acc) := hI
          rw [drop_at hi] at hI
          exact lc_snd S.eK h2 (sndE S hz t) (sndE S hz e) A hI
        · have hI : All (hdC c) P (Z ρ) (lcGo (lcF Γ ρ tg t e vs) (l.drop l.length) acc) := hI
          rw [List.drop_length] at hI
          exact hI
      cases k with
      | seq =>
        show wpE c (tLc (iSeq κ.K (den κ it).e) (denGp κ.K tg).1 (den κ t).t (den κ e).e vs) q P
        rw [show iSeq κ.K.K (den κ it).e = iSeq c.K (den κ it).e by rw [S.eK]]
        refine wp_lcQ ((sndE S hz it q ρ A).fe hb fun d hd => ?_)
        split at hd
        · rename_i l e
          exact ⟨l, items_seq e, go hd⟩
        · exact hd.elim
      | rng1 =>
        refine wp_lcR1 ((sndE S hz it q ρ A).fa hb fun d hd => ?_)
        split at hd
        · rename_i l e
          obtain ⟨n, rfl, n1, n2, rfl⟩ := items_r1 e
          obtain ⟨_, I, i0, i1, i2⟩ := go hd
          refine ⟨_, rfl, n, rfl, n1, n2, I, i0, fun i acc hi hI => ?_, fun acc hI => i2 acc (by rw [rngL_len]; exact hI)⟩
          exact i1 i (.int i) acc (by rw [rngL_get _ _ _ (by omega)]; rw [Int.zero_add]) hI
        · exact hd.elim
      | rng2 =>
        refine wp_lcR2 ((sndE S hz it q ρ A).fa hb fun d hd => ?_)
        split at hd
        · rename_i l e
          obtain ⟨a, b, rfl, n1, n2, n3, n4, rfl⟩ := items_r2 e
          obtain ⟨_, I, i0, i1, i2⟩ := go hd
          exact ⟨_, rfl, a, b, rfl, n3, n4, n1, n2, I, i0, fun i acc hi hI => i1 i _ acc (rngL_get _ _ _ (by omega)) hI, fun acc hI => i2 acc (by rw [rngL_len]; exact hI)⟩
        · exact hd.elim
      | enum =>
        show wpE c (tLc (iSeq κ.K (den κ it).e) (denGp κ.K tg).1 (den κ t).t (den κ e).e vs) q P
        rw [show iSeq κ.K.K (den κ it).e = iSeq c.K (den κ it).e by rw [S.eK]]
        refine wp_lcQ ((sndE S hz it q ρ A).fe hb fun d hd => ?_)
        split at hd
        · rename_i l e
          exact (items_none (by simp) e).elim
        · exact hd.elim
      | zip =>
        show wpE c (tLc (iSeq κ.K (den κ it).e) (denGp κ.K tg).1 (den κ t).t (den κ e).e vs) q P
        rw [show iSeq κ.K.K (den κ it).e = iSeq c.K (den κ it).e by rw [S.eK]]
        refine wp_lcQ ((sndE S hz it q ρ A).fe hb fun d hd => ?_)
        split at hd
        · rename_i l e
          exact (items_none (by simp) e).elim
        · exact hd.elim
  | .yes => fun q ρ A => .wt S rfl (fun P h => wp_bl h) fun B h => wt_yes (by obtain ⟨_, e, k⟩ := (show IsB B (.bl true) from h); cases e; exact k)
  | .eqR n a b => fun q ρ A => .of S rfl fun P h => by
      show wpE c (tOp (cond n rNe rEq) (tCB (rReprA κ.K) (tCons (den κ a).e tNil)) (tCB (rReprA κ.K) (tCons (den κ b).e tNil))) q P
      rw [S.eK]
      refine wp_op (wp_cb (wp_cons ((sndE S hz a q ρ A).fe h.bind fun x hx => wp_nil ?_)))
      obtain ⟨h1, h2⟩ := all_ite hx
      refine cb_repr h1 (wp_cb (wp_cons ((sndE S hz b q ρ A).fe h2.bind fun y hy => wp_nil ?_)))
      obtain ⟨h3, h4⟩ := all_ite hy
      rw [← D.same_eq h3]
      cases n with
      | true => exact cb_repr h1 (od_neS h4)
      | false => exact cb_repr h1 (od_eqS h4)
  | .xf i k f => fun q ρ A => .of S rfl fun P h => by
      have h : All (hdC c) P (Z ρ) (match ρ[i]? with
        | some (.exc c' ds) => if k = c' then (match ((Γ.xf k).zip ds).lookup f with | some d => ret d | none => bad) else bad
        | _ => bad) := h
      split at h
      · rename_i c' ds e
        obtain ⟨rfl, h'⟩ := all_ite h
        clear h
        split at h'
        · rename_i d e2
          obtain ⟨s, e3, dx, rfl, e4, e5⟩ := A.at e
          show wpE c (tXf κ.sx.1 κ.sx.2.1 κ.sx.2.2 (κ.K.cls k) f (tVar i)) q P
          rw [e4, e5, S.eK]
          exact wp_xf (wp_var e3 ⟨_, _, d, rfl, by rw [S.xf]; exact e2, h'⟩)
        · exact h'.elim
      · exact h.elim
  | .fld _ _ => fun q ρ A => .of S rfl fun P h => h.elim
  | .lenO i => fun q ρ A => .of S rfl fun P h => by
      show wpE c (tCB (crLen κ.K) _) q P
      rw [S.eK]
      have h0 := h.bind
      unfold getO at h0
      split at h0
      · rename_i d e
        exact wp_cb (wp_cons (wp_var (A.dat e) (wp_nil (cbB (b := .len) h0))))
      · rename_i ds e
        obtain ⟨p, e⟩ := A.own e
        exact wp_lenO e h0
      · exact h0.elim
  | .tupO i => fun q ρ A => .of S rfl fun P h => by
      show wpE c (tCB (crTup κ.K) _) q P
      rw [S.eK]
      have h0 := h.bind
      unfold getO at h0
      split at h0
      · rename_i d e
        exact wp_cb (wp_cons (wp_var (A.dat e) (wp_nil (cbB (b := .tuple) h0))))
      · rename_i ds e
        obtain ⟨p, e⟩ := A.own e
        exact wp_tupO e h0
      · exact h0.elim
  | .ixO i a => fun q ρ A => .of S rfl fun P h => by
      show wpE c (tOp (rIx κ.K) (tVar i) (den κ a).e) q P
      rw [S.eK]
      have h0 := h.bind
      unfold getO at h0
      split at h0
      · rename_i d e
        exact wp_op (wp_var (A.dat e) ((sndE S hz a q ρ A).fe (show All (hdC c) P (Z ρ) _ from h0).bind fun y hy => od2 (o := .ix) hy))
      · rename_i ds e
        obtain ⟨p, e⟩ := A.own e
        refine wp_ixO e ((sndE S hz a q ρ A).fe (show All (hdC c) P (Z ρ) _ from h0).bind fun y hy => ?_)
        cases y with
        | int k =>
          have hy : All (hdC c) P (Z ρ) (match atI ds k with | some d => ret d | none => bad) := hy
          split at hy
          · rename_i d e2; exact ix_of e2 hy
          · exact hy.elim
        | _ => exact hy.elim
      · exact h0.elim
end
end Ez

set_option Elab.async false
set_option linter.all false
set_option maxRecDepth 100000
namespace Ez
open L2 PySem PyProof.Rows PySem.Spec
open Tr
structure Ds where
  ts : TS
  hs : List Clause
def mkx (ns : List Str) (ws : List V) : List (Str × V) := ns.zip ws.reverse
def denS (κ : Dn) : SS → Ds
  | .nop => ⟨tNext, []⟩
  | .seq a b => ⟨tSeq (denS κ a).ts (denS κ b).ts, []⟩
  | .asg tg e => ⟨tAsg (den κ e).e (denGp κ.K tg).1, []⟩
  | .asgO i e => ⟨tAsg (den κ e).e (gName i), []⟩
  | .par i j a => ⟨tPar i j (den κ a).a, []⟩
  | .app i e => ⟨tDrop (tBM κ.K "list" rAppend (tVar i) (tCons (den κ e).e tNil)), []⟩
  | .setO i ix e => ⟨tAsg (den κ e).e (gSub (tVar i) (den κ ix).e rSetL), []⟩
  | .ret e => ⟨tRet (den κ e).e, []⟩
  | .retN => ⟨tRetN, []⟩
  | .ite t a b => ⟨tIfS (den κ t).t (denS κ a).ts (denS κ b).ts, []⟩
  | .for k it tg b => ⟨tFor (denI κ.K k (den κ it)) (denGp κ.K tg).1 (denS κ b).ts, []⟩
  | .whl t b => ⟨tWhile (den κ t).t (denS κ b).ts, []⟩
  | .rse c a => ⟨fun _ σ H => tMkO (κ.K.cls c) (spEx (κ.K.cls c) (mkx (κ.K.xf c)) (κ.K.xf c).length) [] (den κ a).a σ H fun cls d H' => κ.snk.at σ cls d H', []⟩
  | .try b h => ⟨runTb (fun Wx => (denS { κ with snk := .tr Wx } b).ts) (fun D' => wTry κ.K (fun _ _ _ _ => False) D' (denS κ h).hs), []⟩
  | .hnil => ⟨tNext, []⟩
  | .hcons c i b r => ⟨tNext, (.ref (κ.K.cls c), i, fun a cls d => (denS { κ with sx := (a, cls, d), snk := .no } b).ts) :: (denS κ r).hs⟩
  | .drop e => ⟨tDrop (den κ e).e, []⟩
  | .keep _ s => denS κ s
  | .brk => ⟨tBreak, []⟩
  | .cnt => ⟨tCont, []⟩
def FlOk (c : Cn) (sx : Addr × Value × Option Addr) (F : Fn) : Fl → Prop
  | .nx ρ => ∀ q, Abs c.K.toKB sx q ρ → F.nx q
  | .rt d ρ => ∀ q, Abs c.K.toKB sx q ρ → F.rt q d
  | .bk ρ => ∀ q, Abs c.K.toKB sx q ρ → F.bk q
  | .ct ρ => ∀ q, Abs c.K.toKB sx q ρ → F.ct q
abbrev Zs (Z : Vars → Xn → Prop) : Xn × Vars → Prop := fun y => Z y.2 y.1
section
variable {c : Cn} {κ : Dn} {Γ : Pgm} {Z : Vars → Xn → Prop} {q : List Sl} {ρ : Vars} {te : TE} {F : Fn}
/-! new lists -/
theorem Stp.but {W : Wd} {G H G1 H1 : Hp} {A : Addr} (hA : H A = none) (hG : G1 A = none) (hm : ¬ W.M A) (T : Stp W G H G1 H1) : Stp W G H G1 (butH H1 A) := by
  refine ⟨⟨fun a u e => ?_, T.ok.cln, fun a m => ?_, W.stb T.ok.inv (Ex.refl _) fun a m => ?_⟩, T.ex, T.fresh, fun a u n e => ?_, fun a u e => ?_⟩
  · by_cases z : a = A
    · rw [z, hG] at e; cases e
    · rw [butH_ne z]; exact T.ok.sub a u e
  · have z : a ≠ A := fun e => hm (e ▸ m)
    rw [butH_ne z]; exact T.ok.liv a m
  · have z : a ≠ A := fun e => hm (e ▸ m)
    exact butH_ne z
  · have z : a ≠ A := fun e' => by rw [e', hA] at e; cases e
    rw [butH_ne z]; exact T.kp a u n e
  · have z : a ≠ A := fun e' => by rw [e', hA] at e; cases e
    rw [butH_ne z]; exact T.th a u e
theorem upd_but {H : Hp} {A : Addr} {o : HO} (h : H A = some o) : upd (butH H A) A o = H := by
  funext a
  by_cases z : a = A
  · rw [z, upd_same, h]
  · rw [upd_ne z, butH_ne z]
theorem lc_endF {G1 H1 H : Hp} {A : Addr} {i : Nat} {I : List D → Prop} (hA : H1 A = none) (ok : Ok c.W G1 H1) (w : LcAt c G1 H1 A i I H) {Q : VK}
    (hq : ∀ G' H' p xs ds, I ds → Stp c.W G1 H1 G' H' → H' p = none → IsL c.K G' ds xs → Q (.ref p) (upd H' p (.lst xs))) : Q (.ref A) H := by
  obtain ⟨G, acc, xs, ha, hl, T, a1, a2, a3⟩ := w
  have := hq G (butH H A) A xs acc ha (Stp.but hA a2 (ok.notM hA) T) butH_eq a3
  rw [upd_but a1] at this
  exact this
def QF (P : List D → Prop) (c : Cn) (G H : Hp) (Q : VK) : Prop := ∀ G' H1 p xs ds, P ds → Stp c.W G H G' H1 → H1 p = none → IsL c.K G' ds xs → Q (.ref p) (upd H1 p (.lst xs))
/-- the same comprehension, its list nobody else's -/
theorem wf_lcQ {g : TG} {ta : TE} {tt : TT} {te : TE} {vs : List Nat} {P : List D → Prop} (h : wpE c ta q fun d => ∃ ds, (d = .lst ds ∨ d = .tup ds ∨ d = .scr ds) ∧ ds.length ≤ 10000 ∧ ∃ I : Nat → List D → Prop, I 0 [] ∧
      (∀ i x acc, ds[i]? = some x → I i acc → lcTurn c g tt te vs q x acc (I (i + 1))) ∧ ∀ acc, I ds.length acc → P acc) : wpF c (tLc (iSeq c.K ta) g tt te vs) q P := fun G H s S R Q hq =>
  h G H s S R _ fun G1 H1 v d h1 T1 i1 => by
    obtain ⟨ds, hd, hz, I, h0, hs, he⟩ := h1
    have start : ∀ A, H1 A = none → LcAt c G1 H1 A 0 (I 0) (upd H1 A (.lst [])) := fun A hA =>
      ⟨G1, [], [], h0, Nat.le_refl 0, (Stp.refl T1.ok).put hA (none_of_sub T1.ok.sub hA) (T1.ok.notM hA), upd_same, none_of_sub T1.ok.sub hA, rfl⟩
    rcases hd with rfl | rfl | rfl
    · obtain ⟨a, xs, rfl, l1, l2⟩ := i1
      refine ⟨a, rfl, .inl ⟨⟨xs, l1.sq T1.ok.sub⟩, fun A hA => lc_list (xs := xs) (fun i => LcAt c G1 H1 A i (I i)) (start A hA) (fun i H' _ w => ?_) (fun i x H' e w => ?_) fun H' w => ?_⟩⟩
      · obtain ⟨G2, acc, ys, _, _, T2, _⟩ := w
        exact (l1.mono T2.ex).sq T2.ok.sub
      · obtain ⟨d, ed, id⟩ := IsL.back l2 e
        have : i < ds.length := (List.getElem?_eq_some_iff.mp ed).1
        exact lc_turn hA (S.trans T1) (R.step T1) (by omega) w id fun acc ha => hs i d acc ed ha
      · rw [IsL.len l2] at w
        exact lc_endF hA T1.ok w fun G' H' p xs acc ha T' hp iv => hq G' H' p xs acc (he acc ha) (T1.trans T') hp iv
    · obtain ⟨a, xs, rfl, l1, l2⟩ := i1
      refine ⟨a, rfl, .inr ⟨⟨xs, l1.sq T1.ok.sub⟩, fun A hA => lc_tup (xs := xs) (fun i => LcAt c G1 H1 A i (I i)) (start A hA) (fun i H' _ w => ?_) (fun i x H' e w => ?_) fun H' w => ?_⟩⟩
      · obtain ⟨G2, acc, ys, _, _, T2, _⟩ := w
        exact (l1.mono T2.ex).sq T2.ok.sub
      · obtain ⟨d, ed, id⟩ := IsL.back l2 e
        have : i < ds.length := (List.getElem?_eq_some_iff.mp ed).1
        exact lc_turn hA (S.trans T1) (R.step T1) (by omega) w id fun acc ha => hs i d acc ed ha
      · rw [IsL.len l2] at w
        exact lc_endF hA T1.ok w fun G' H' p xs acc ha T' hp iv => hq G' H' p xs acc (he acc ha) (T1.trans T') hp iv
    · obtain ⟨a, xs, rfl, l1, l2⟩ := i1
      refine ⟨a, rfl, .inl ⟨⟨xs, rd_sq T1.ok.sub l1⟩, fun A hA => lc_list (xs := xs) (fun i => LcAt c G1 H1 A i (I i)) (start A hA) (fun i H' _ w => ?_) (fun i x H' e w => ?_) fun H' w => ?_⟩⟩
      · obtain ⟨G2, acc, ys, _, _, T2, _⟩ := w
        exact rd_sq T2.ok.sub (rd_sq T2.ex l1)
      · obtain ⟨d, ed, id⟩ := IsL.back l2 e
        have : i < ds.length := (List.getElem?_eq_some_iff.mp ed).1
        exact lc_turn hA (S.trans T1) (R.step T1) (by omega) w id fun acc ha => hs i d acc ed ha
      · rw [IsL.len l2] at w
        exact lc_endF hA T1.ok w fun G' H' p xs acc ha T' hp iv => hq G' H' p xs acc (he acc ha) (T1.trans T') hp iv
theorem wf_lcR1 {g : TG} {tt : TT} {te : TE} {vs : List Nat} {ta : TA} {P : List D → Prop} (h : wpA c ta q fun ds => ∃ n : Int, ds = [.int n] ∧ -10000 ≤ n ∧ n ≤ 10000 ∧ ∃ I : Nat → List D → Prop, I 0 [] ∧
      (∀ (i : Nat) acc, (i : Int) < n → I i acc → lcTurn c g tt te vs q (.int i) acc (I (i + 1))) ∧ ∀ acc, I n.toNat acc → P acc) : wpF c (tLc (iRng1 ta) g tt te vs) q P := fun G H s S R Q hq =>
  h G H s S R _ fun G1 H1 vs' ds h1 T1 i1 => by
    obtain ⟨n, rfl, n1, n2, I, h0, hs, hd⟩ := h1
    obtain ⟨v, rfl, iv⟩ := IsL.one_of i1
    cases (show v = V.int n from iv)
    refine ⟨n, rfl, by omega, by omega, fun A hA => lc_range (lo := 0) (n := n.toNat) (fun i => LcAt c G1 H1 A i (I i)) ?_ (fun i H' hi w => ?_) fun H' w => ?_⟩
    · exact ⟨G1, [], [], h0, Nat.le_refl 0, (Stp.refl T1.ok).put hA (none_of_sub T1.ok.sub hA) (T1.ok.notM hA), upd_same, none_of_sub T1.ok.sub hA, rfl⟩
    · have e0 : (0 : Int) + (i : Int) = (i : Int) := Int.zero_add _
      rw [e0]
      exact lc_turn (x := .int i) hA (S.trans T1) (R.step T1) (by omega) w rfl fun acc ha => hs i acc (by omega) ha
    · exact lc_endF hA T1.ok w fun G' H' p xs acc ha T' hp iv => hq G' H' p xs acc (hd acc ha) (T1.trans T') hp iv
theorem wf_lcR2 {g : TG} {tt : TT} {te : TE} {vs : List Nat} {ta : TA} {P : List D → Prop} (h : wpA c ta q fun ds => ∃ lo n : Int, ds = [.int lo, .int n] ∧ -10000 ≤ n ∧ n ≤ 10000 ∧ 0 ≤ lo ∧ lo ≤ 10000 ∧ ∃ I : Nat → List D → Prop, I 0 [] ∧
      (∀ (i : Nat) acc, lo + (i : Int) < n → I i acc → lcTurn c g tt te vs q (.int (lo + i)) acc (I (i + 1))) ∧ ∀ acc, I (n - lo).toNat acc → P acc) : wpF c (tLc (iRng2 ta) g tt te vs) q P := fun G H s S R Q hq =>
  h G H s S R _ fun G1 H1 vs' ds h1 T1 i1 => by
    obtain ⟨lo, n, rfl, n1, n2, n3, n4, I, h0, hs, hd⟩ := h1
    obtain ⟨v, w, rfl, iv, iw⟩ := IsL.two_of i1
    cases (show v = V.int lo from iv)
    cases (show w = V.int n from iw)
    refine ⟨lo, n, rfl, ⟨by omega, by omega, by omega, by omega⟩, fun A hA => lc_range (lo := lo) (n := (n - lo).toNat) (fun i => LcAt c G1 H1 A i (I i)) ?_ (fun i H' hi w => ?_) fun H' w => ?_⟩
    · exact ⟨G1, [], [], h0, Nat.le_refl 0, (Stp.refl T1.ok).put hA (none_of_sub T1.ok.sub hA) (T1.ok.notM hA), upd_same, none_of_sub T1.ok.sub hA, rfl⟩
    · exact lc_turn (x := .int (lo + i)) hA (S.trans T1) (R.step T1) (by omega) w rfl fun acc ha => hs i acc (by omega) ha
    · exact lc_endF hA T1.ok w fun G' H' p xs acc ha T' hp iv => hq G' H' p xs acc (hd acc ha) (T1.trans T') hp iv
def IsL' (P : List D → Prop) (d : D) : Prop := ∃ l, d = .lst l ∧ P l
theorem sndF (S : Sd c κ Γ) (hz : SnkOk c κ Z) (e : EE) (he : e.fresh = true) (A : Abs c.K.toKB κ.sx q ρ) {P : List D → Prop} (h : All (hdC c) (IsL' P) (Z ρ) (evalE Γ e ρ)) : wpF c (den κ e).e q P := by
  cases e with
  | lst a =>
    refine wf_lst ((sndE S hz a q ρ A).fa h.bind fun x hx => ?_)
    cases x with
    | tup xs =>
      obtain ⟨h1, h2⟩ := all_ite hx
      obtain ⟨_, e, k⟩ := (show IsL' P (.lst xs) from h2)
      cases e; exact ⟨xs, rfl, h1, k⟩
    | _ => exact hx.elim
  | bi b a =>
    cases b with
    | list =>
      refine (S.eK ▸ wf_listT : wpA c _ q _ → wpF c (tCB (crList κ.K) (den κ a).a) q P) ((sndE S hz a q ρ A).fa h.bind fun x hx => ?_)
      match x, hx with
      | .tup [.tup l], hx =>
        obtain ⟨_, e, k⟩ := (show IsL' P (.lst l) from hx)
        cases e; exact ⟨_, rfl, l, .inl rfl, k⟩
      | .tup [.lst l], hx =>
        obtain ⟨_, e, k⟩ := (show IsL' P (.lst l) from hx)
        cases e; exact ⟨_, rfl, l, .inr rfl, k⟩
    | _ => cases he
  | lc k it tg t e vs =>
    have hb := h.bind
    have go : ∀ {l : List D}, All (hdC c) (IsL' P) (Z ρ) (if l.length ≤ 10000 ∧ tg.inn vs = true then lcGo (lcF Γ ρ tg t e vs) l [] else bad) →
        l.length ≤ 10000 ∧ ∃ I : Nat → List D → Prop, I 0 [] ∧ (∀ i x acc, l[i]? = some x → I i acc → lcTurn c (denGp κ.K tg).1 (den κ t).t (den κ e).e vs q x acc (I (i + 1))) ∧ ∀ acc, I l.length acc → P acc := by
      intro l hl
      obtain ⟨⟨h1, h2⟩, h3⟩ := all_ite hl
      refine ⟨h1, fun i acc => All (hdC c) (IsL' P) (Z ρ) (lcGo (lcF Γ ρ tg t e vs) (l.drop i) acc), h3, fun i x acc hi hI => ?_, fun acc hI => ?_⟩
      · have hI : All (hdC c) (IsL' P) (Z ρ) (lcGo (lcF Γ ρ tg t e vs) (l.drop i) acc) := hI
        rw [drop_at hi] at hI
        exact lc_snd S.eK h2 (sndE S hz t) (sndE S hz e) A hI
      · have hI : All (hdC c) (IsL' P) (Z ρ) (lcGo (lcF Γ ρ tg t e vs) (l.drop l.length) acc) := hI
        rw [List.drop_length] at hI
        obtain ⟨_, e, k⟩ := (show IsL' P (.lst acc) from hI)
        cases e; exact k
    cases k with
    | seq =>
      show wpF c (tLc (iSeq κ.K (den κ it).e) (denGp κ.K tg).1 (den κ t).t (den κ e).e vs) q P
      rw [show iSeq κ.K.K (den κ it).e = iSeq c.K (den κ it).e by rw [S.eK]]
      refine wf_lcQ ((sndE S hz it q ρ A).fe hb fun d hd => ?_)
      split at hd
      · rename_i l e
        exact ⟨l, items_seq e, go hd⟩
      · exact hd.elim
    | rng1 =>
      refine wf_lcR1 ((sndE S hz it q ρ A).fa hb fun d hd => ?_)
      split at hd
      · rename_i l e
        obtain ⟨n, rfl, n1, n2, rfl⟩ := items_r1 e
        obtain ⟨_, I, i0, i1, i2⟩ := go hd
        refine ⟨_, rfl, n, rfl, n1, n2, I, i0, fun i acc hi hI => ?_, fun acc hI => i2 acc (by rw [rngL_len]; exact hI)⟩
        exact i1 i (.int i) acc (by rw [rngL_get _ _ _ (by omega)]; rw [Int.zero_add]) hI
      · exact hd.elim
    | rng2 =>
      refine wf_lcR2 ((sndE S hz it q ρ A).fa hb fun d hd => ?_)
      split at hd
      · rename_i l e
        obtain ⟨a, b, rfl, n1, n2, n3, n4, rfl⟩ := items_r2 e
        obtain ⟨_, I, i0, i1, i2⟩ := go hd
        exact ⟨_, rfl, a, b, rfl, n3, n4, n1, n2, I, i0, fun i acc hi hI => i1 i _ acc (rngL_get _ _ _ (by omega)) hI, fun acc hI => i2 acc (by rw [rngL_len]; exact hI)⟩
      · exact hd.elim
    | enum =>
      show wpF c (tLc (iSeq κ.K (den κ it).e) (denGp κ.K tg).1 (den κ t).t (den κ e).e vs) q P
      rw [show iSeq κ.K.K (den κ it).e = iSeq c.K (den κ it).e by rw [S.eK]]
      refine wf_lcQ ((sndE S hz it q ρ A).fe hb fun d hd => ?_)
      split at hd
      · rename_i l e
        exact (items_none (by simp) e).elim
      · exact hd.elim
    | zip =>
      show wpF c (tLc (iSeq κ.K (den κ it).e) (denGp κ.K tg).1 (den κ t).t (den κ e).e vs) q P
      rw [show iSeq κ.K.K (den κ it).e = iSeq c.K (den κ it).e by rw [S.eK]]
      refine wf_lcQ ((sndE S hz it q ρ A).fe hb fun d hd => ?_)
      split at hd
      · rename_i l e
        exact (items_none (by simp) e).elim
      · exact hd.elim
  | _ => cases he
end
end Ez

set_option Elab.async false
set_option linter.all false
set_option maxRecDepth 100000
namespace Ez
open L2 PySem PyProof.Rows PySem.Spec
open Tr
section
variable {c : Cn} {κ : Dn} {Γ : Pgm} {Z : Vars → Xn → Prop} {q : List Sl} {ρ : Vars} {te : TE} {F : Fn}
/-! loops over what stands -/
theorem ws_forQ {g : TG} {ta : TE} {tb : TS} (h : wpE c ta q fun d => ∃ ds, (d = .lst ds ∨ d = .tup ds ∨ d = .scr ds) ∧ ∃ I : Nat → List Sl → Prop, I 0 q ∧
      (∀ i x q', ds[i]? = some x → I i q' → wpG c g x q' fun q2 => wpS c tb q2 { F with nx := I (i + 1), ct := I (i + 1), bk := F.nx }) ∧ ∀ q', I ds.length q' → F.nx q') :
    wpS c (tFor (iSeq c.K ta) g tb) q F := fun D' s G H S R p =>
  h G H s S R _ fun G1 H1 v d h1 T1 i1 => by
    obtain ⟨ds, hd, I, h0, hs, he⟩ := h1
    have p1 := p.more T1.ex
    rcases hd with rfl | rfl | rfl
    · obtain ⟨a, xs, rfl, l1, l2⟩ := i1
      refine ⟨a, rfl, .inl ⟨⟨xs, l1.sq T1.ok.sub⟩, for_list (xs := xs) (fun i => LpAt c G1 (I i)) ⟨G1, q, h0, Ex.refl G1, S.trans T1, R.step T1⟩ (fun i s' H' _ z => ?_) (fun i x s' H' e z => ?_) fun s' H' z => ?_⟩⟩
      · obtain ⟨G2, q2, _, e2, S2, _⟩ := z
        exact (l1.mono e2).sq S2.ok.sub
      · obtain ⟨G2, q2, w, e2, S2, R2⟩ := z
        obtain ⟨d, ed, id⟩ := IsL.back l2 e
        exact turn_at p1 e2 S2 R2 (Is.mono e2 d id) (hs i d q2 ed w)
      · obtain ⟨G2, q2, w, e2, S2, R2⟩ := z
        rw [IsL.len l2] at w
        exact p1.nx s' H' G2 q2 (he q2 w) e2 S2 R2
    · obtain ⟨a, xs, rfl, l1, l2⟩ := i1
      refine ⟨a, rfl, .inr ⟨⟨xs, l1.sq T1.ok.sub⟩, for_tup (xs := xs) (fun i => LpAt c G1 (I i)) ⟨G1, q, h0, Ex.refl G1, S.trans T1, R.step T1⟩ (fun i s' H' _ z => ?_) (fun i x s' H' e z => ?_) fun s' H' z => ?_⟩⟩
      · obtain ⟨G2, q2, _, e2, S2, _⟩ := z
        exact (l1.mono e2).sq S2.ok.sub
      · obtain ⟨G2, q2, w, e2, S2, R2⟩ := z
        obtain ⟨d, ed, id⟩ := IsL.back l2 e
        exact turn_at p1 e2 S2 R2 (Is.mono e2 d id) (hs i d q2 ed w)
      · obtain ⟨G2, q2, w, e2, S2, R2⟩ := z
        rw [IsL.len l2] at w
        exact p1.nx s' H' G2 q2 (he q2 w) e2 S2 R2
    · obtain ⟨a, xs, rfl, l1, l2⟩ := i1
      refine ⟨a, rfl, .inl ⟨⟨xs, rd_sq T1.ok.sub l1⟩, for_list (xs := xs) (fun i => LpAt c G1 (I i)) ⟨G1, q, h0, Ex.refl G1, S.trans T1, R.step T1⟩ (fun i s' H' _ z => ?_) (fun i x s' H' e z => ?_) fun s' H' z => ?_⟩⟩
      · obtain ⟨G2, q2, _, e2, S2, _⟩ := z
        exact rd_sq S2.ok.sub (rd_sq e2 l1)
      · obtain ⟨G2, q2, w, e2, S2, R2⟩ := z
        obtain ⟨d, ed, id⟩ := IsL.back l2 e
        exact turn_at p1 e2 S2 R2 (Is.mono e2 d id) (hs i d q2 ed w)
      · obtain ⟨G2, q2, w, e2, S2, R2⟩ := z
        rw [IsL.len l2] at w
        exact p1.nx s' H' G2 q2 (he q2 w) e2 S2 R2
/-! raising -/
theorem IsL.rev {K : KT} {G : Hp} : ∀ {ds : List D} {xs : List V}, IsL K G ds xs → IsL K G ds.reverse xs.reverse
  | [], _, h => by cases (show _ = [] from h); exact rfl
  | d :: ds, _, ⟨x, r, p, a, b⟩ => by rw [p, List.reverse_cons, List.reverse_cons]; exact IsL.app (IsL.rev b) (IsL.one a)
theorem ws_rse (hz : SnkOk c κ Z) (eK : κ.K = c.K.toKB) {k : Nat} {ta : TA} (A : Abs c.K.toKB κ.sx q ρ) (h : wpA c ta q fun ds => ds.length = (c.K.xf k).length ∧ ds.length ≤ 100 ∧ Z ρ ⟨k, ds.reverse⟩) :
    wpS c (fun _ σ H => tMkO (κ.K.cls k) (spEx (κ.K.cls k) (mkx (κ.K.xf k)) (κ.K.xf k).length) [] ta σ H fun cls d H' => κ.snk.at σ cls d H') q F := fun D' s G H S R p => by
  rw [eK]
  refine h G H s S R _ fun G1 H1 vs ds h1 T1 i1 => ?_
  obtain ⟨h1, h2, h3⟩ := h1
  have lv := IsL.len i1
  refine ⟨by rw [lv]; omega, fun a ha => ⟨a, vs ++ [], rfl, by rw [List.append_nil, lv, h1], upd_same, fun d H' nd da e1 e2 e3 => ⟨rfl, d, mkx (c.K.xf k) (vs ++ []), e1, e2, ?_, ?_⟩⟩⟩
  · rw [upd_ne da] at nd; exact nd
  · have nd' : H1 d = none := by rw [upd_ne da] at nd; exact nd
    have eH : upd (del H' a) d (.xd (mkx (c.K.xf k) (vs ++ []))) = upd H1 d (.xd ((c.K.xf k).zip vs.reverse)) := by
      rw [List.append_nil]
      funext b
      by_cases h1 : b = d
      · rw [h1, upd_same, upd_same]; rfl
      · rw [upd_ne h1, upd_ne h1]
        by_cases h2 : b = a
        · rw [h2, del_same, ha]
        · rw [del_ne h2, e3 b h2 h1, upd_ne h2]
    rw [eH]
    have e4 : Ex G1 (upd G1 d (.xd ((c.K.xf k).zip vs.reverse))) := Ex.new (none_of_sub T1.ok.sub nd')
    refine hz q ρ (upd G1 d _) _ s d vs.reverse ⟨k, ds.reverse⟩ h3 A ((S.trans T1).lay nd') ?_ upd_same (by rw [List.length_reverse, h1]) (IsL.rev (IsL.mono e4 ds i1))
    exact (R.step T1).step ((Stp.refl T1.ok).lay nd')
theorem Sd.chg (S : Sd c κ Γ) {c' : Cn} {κ' : Dn} (e : c'.K = c.K) (h1 : κ'.K = κ.K) (h2 : κ'.sp = κ.sp) (h3 : κ'.ok = κ.ok) (h4 : κ'.con = κ.con) (h5 : κ'.take = κ.take) : Sd c' κ' Γ :=
  ⟨by rw [h1, S.eK, e], fun f vs H Q E z => by rw [h2]; rw [e] at z; exact S.sp f vs H Q E z, by rw [h3, S.ok], fun k G => by rw [e, h4]; exact S.con k G, by rw [e, S.xf], fun vs H Q E z => by rw [h5]; rw [e] at z; exact S.take vs H Q E z, fun a b r h => by rw [e]; exact S.sub a b r h⟩
theorem noExc_at (h : noExc ρ = true) {i : Nat} {v : Sv} (e : ρ[i]? = some v) : v.isExc = false := by
  have := List.all_eq_true.mp h v (List.mem_of_getElem? e)
  simpa using this
theorem Abs.chg {K : KB} {sx sx' : Addr × Value × Option Addr} (h : noExc ρ = true) (A : Abs K sx q ρ) : Abs K sx' q ρ := ⟨A.1, fun i s v e e' => by
  have z := A.2 i s v e e'
  have n := noExc_at h e'
  cases v with
  | exc c ds => cases n
  | _ => exact z⟩
theorem Abs.clr {K : KB} {sx sx' : Addr × Value × Option Addr} (A : Abs K sx q ρ) : Abs K sx' q (ρ.map Sv.clr) := ⟨by rw [List.length_map]; exact A.1, fun i s v e e' => by
  rw [List.getElem?_map] at e'
  cases z : ρ[i]? with
  | none => rw [z] at e'; cases e'
  | some v' =>
    rw [z] at e'
    cases e'
    have w := A.2 i s v' e z
    cases v' with
    | exc c ds => trivial
    | _ => exact w⟩
abbrev SndT (c : Cn) (κ : Dn) (Γ : Pgm) (Z : Vars → Xn → Prop) (s : SS) : Prop := ∀ (F : Fn) (q : List Sl) (ρ : Vars), Abs c.K.toKB κ.sx q ρ → All (hdC c) (FlOk c κ.sx F) (Zs Z) (evalS Γ s none ρ) → wpS c (denS κ s).ts q F
theorem snk_no {κ : Dn} : SnkOk c κ (fun _ _ => False) := fun _ _ _ _ _ _ _ _ z => z.elim
theorem mono_S {ts : TS} {F F' : Fn} (h : wpS c ts q F') (k1 : ∀ q', F'.nx q' → F.nx q') (k2 : ∀ q' d, F'.rt q' d → F.rt q' d) (k3 : ∀ q', F'.bk q' → F.bk q') (k4 : ∀ q', F'.ct q' → F.ct q') : wpS c ts q F := ws_imp h k1 k2 k3 k4
theorem for_snd (eK : κ.K = c.K.toKB) {tg : Tg} {b : SS} (hb : SndT c κ Γ Z b) (A : Abs c.K.toKB κ.sx q ρ) {x : D} {r : List D} {f : D → Vars → RS} (hf : f = fun x ρ => match evalG false tg x ρ with | some ρ' => evalS Γ b none ρ' | none => bad)
    (h : All (hdC c) (FlOk c κ.sx F) (Zs Z) (forGo f (x :: r) ρ)) {J : List Sl → Prop} (hJ : ∀ q' ρ', Abs c.K.toKB κ.sx q' ρ' → All (hdC c) (FlOk c κ.sx F) (Zs Z) (forGo f r ρ') → J q') :
    wpG c (denGp κ.K tg).1 x q fun q2 => wpS c (denS κ b).ts q2 { F with nx := J, ct := J, bk := F.nx } := by
  have h1 : All (hdC c) (FlOk c κ.sx F) (Zs Z) ((f x ρ).bind fun
    | .nx ρ' => forGo f r ρ'
    | .ct ρ' => forGo f r ρ'
    | .bk ρ' => ret (.nx ρ')
    | .rt d ρ' => ret (.rt d ρ')) := h
  have h1 := h1.bind
  rw [hf] at h1
  dsimp only at h1
  split at h1
  · rename_i ρ1 hg
    refine (sndG eK tg ρ ρ1 q _ κ.sx A fun q2 A2 => ?_).1 x hg
    refine hb _ q2 ρ1 A2 (h1.mono (fun fl hfl => ?_) fun _ z => z)
    cases fl with
    | nx ρ' => exact fun q' A' => hJ q' ρ' A' (by rw [hf]; exact hfl)
    | ct ρ' => exact fun q' A' => hJ q' ρ' A' (by rw [hf]; exact hfl)
    | bk ρ' => exact fun q' A' => hfl q' A'
    | rt d ρ' => exact fun q' A' => hfl q' A'
  · exact h1.elim
theorem Abs.setD {K : KB} {sx : Addr × Value × Option Addr} {i : Nat} {d : D} (A : Abs K sx q ρ) : Abs K sx (q.set i (.dat d)) (ρ.set i (.dat d)) := A.set (show AbsV K sx (.dat d) (.dat d) from rfl)
theorem Abs.setExc {K : KB} {sx : Addr × Value × Option Addr} {i a dx k : Nat} {ds : List D} (h : noExc ρ = true) (A : Abs K sx q ρ) : Abs K (a, .ref (K.cls k), some dx) (q.set i (.dat (.exc a dx (K.cls k) (K.xf k) ds))) (ρ.set i (.exc k ds)) :=
  (A.chg h).set (show AbsV K _ (.dat (.exc a dx (K.cls k) (K.xf k) ds)) (.exc k ds) from ⟨dx, rfl, rfl, rfl⟩)
mutual
theorem sndS : ∀ (s : SS) (c : Cn) (κ : Dn) (Z : Vars → Xn → Prop) (S : Sd c κ Γ) (hz : SnkOk c κ Z), SndT c κ Γ Z s
  | .nop, c, κ, Z, S, hz => fun F q ρ A h => ws_next (h q A)
  | .seq a b, c, κ, Z, S, hz => fun F q ρ A h => by
      show wpS c (tSeq (denS κ a).ts (denS κ b).ts) q F
      refine ws_seq (sndS a c κ Z S hz { F with nx := fun q' => wpS c (denS κ b).ts q' F } q ρ A (h.bind.mono (fun fl hfl => ?_) fun _ z => z))
      cases fl with
      | nx ρ' => exact fun q' A' => sndS b c κ Z S hz F q' ρ' A' hfl
      | _ => exact hfl
  | .asg tg e, c, κ, Z, S, hz => fun F q ρ A h => by
      show wpS c (tAsg (den κ e).e (denGp κ.K tg).1) q F
      refine ws_asg ((sndE S hz e q ρ A).fe h.bind.of_mapX fun d hd => ?_)
      split at hd
      · rename_i ρ' hg
        exact (sndG S.eK tg ρ ρ' q _ κ.sx A fun q' A' => hd q' A').1 d hg
      · exact hd.elim
  | .asgO i e, c, κ, Z, S, hz => fun F q ρ A h => by
      show wpS c (tAsg (den κ e).e (gName i)) q F
      obtain ⟨⟨hf, hi⟩, h⟩ := all_ite h
      refine ws_asgF (by rw [A.1]; exact hi) (sndF S hz e hf A (h.bind.of_mapX.mono (fun d hd => ?_) fun _ z => z))
      cases d with
      | lst ds => exact ⟨ds, rfl, fun a => hd _ (A.set ⟨a, rfl⟩)⟩
      | _ => exact hd.elim
  | .par i j a, c, κ, Z, S, hz => fun F q ρ A h => by
      show wpS c (tPar i j (den κ a).a) q F
      refine ws_par ((sndE S hz a q ρ A).fa h.bind.of_mapX fun d hd => ?_)
      match d, hd with
      | .tup [x, y], hd =>
        obtain ⟨⟨h1, h2⟩, h3⟩ := all_ite hd
        exact ⟨_, rfl, x, y, rfl, by rw [A.1]; exact h1, by rw [A.1]; exact h2, h3 _ A.setD.setD⟩
  | .app i e, c, κ, Z, S, hz => fun F q ρ A h => by
      show wpS c (tDrop (tBM κ.K "list" rAppend (tVar i) (tCons (den κ e).e tNil))) q F
      rw [S.eK]
      have h : All (hdC c) (FlOk c κ.sx F) (Zs Z) (match ρ[i]? with
        | some (.own ds) => (at_ (evalE Γ e ρ) ρ).bind fun d => if ds.length ≤ 10000 then ret (.nx (ρ.set i (.own (ds ++ [d])))) else bad
        | _ => bad) := h
      split at h
      · rename_i ds e1
        obtain ⟨p, e2⟩ := A.own e1
        refine ws_app e2 ((sndE S hz e q ρ A).fe h.bind.of_mapX fun d hd => ?_)
        obtain ⟨h1, h2⟩ := all_ite hd
        exact ⟨h1, h2 _ (A.set ⟨p, rfl⟩)⟩
      · exact h.elim
  | .setO i ix e, c, κ, Z, S, hz => fun F q ρ A h => by
      show wpS c (tAsg (den κ e).e (gSub (tVar i) (den κ ix).e rSetL)) q F
      have h : All (hdC c) (FlOk c κ.sx F) (Zs Z) (match ρ[i]? with
        | some (.own ds) => (at_ (evalE Γ e ρ) ρ).bind fun d => (at_ (evalE Γ ix ρ) ρ).bind fun
          | .int k => (match ixN ds.length k with | some j => ret (.nx (ρ.set i (.own (ds.set j d)))) | none => bad)
          | _ => bad
        | _ => bad) := h
      split at h
      · rename_i ds e1
        obtain ⟨p, e2⟩ := A.own e1
        refine ws_setO e2 ((sndE S hz e q ρ A).fe h.bind.of_mapX fun d hd => (sndE S hz ix q ρ A).fe hd.bind.of_mapX fun y hy => ?_)
        cases y with
        | int k =>
          have hy : All (hdC c) (FlOk c κ.sx F) (Zs Z) (match ixN ds.length k with | some j => ret (.nx (ρ.set i (.own (ds.set j d)))) | none => bad) := hy
          split at hy
          · rename_i j e3
            exact st_of e3 (hy _ (A.set ⟨p, rfl⟩))
          · exact hy.elim
        | _ => exact hy.elim
      · exact h.elim
  | .ret e, c, κ, Z, S, hz => fun F q ρ A h => by
      show wpS c (tRet (den κ e).e) q F
      exact ws_ret ((sndE S hz e q ρ A).fe h.bind.of_mapX fun d hd => hd q A)
  | .retN, c, κ, Z, S, hz => fun F q ρ A h => ws_retN (h q A)
  | .ite t a b, c, κ, Z, S, hz => fun F q ρ A h => by
      show wpS c (tIfS (den κ t).t (denS κ a).ts (denS κ b).ts) q F
      refine ws_if ((sndE S hz t q ρ A).ft h.bind.of_mapX fun d hd => ?_)
      cases d with
      | bl v => cases v with
        | true => exact ⟨true, rfl, fun _ => sndS a c κ Z S hz F q ρ A hd, fun z => nomatch z⟩
        | false => exact ⟨false, rfl, fun z => (nomatch z), fun _ => sndS b c κ Z S hz F q ρ A hd⟩
      | _ => exact hd.elim
  | .for k it tg b, c, κ, Z, S, hz => fun F q ρ A h => by
      have hb := h.bind.of_mapX
      have go : ∀ {l : List D}, All (hdC c) (FlOk c κ.sx F) (Zs Z) (forGo (fun x ρ => match evalG false tg x ρ with | some ρ' => evalS Γ b none ρ' | none => bad) l ρ) →
          ∃ I : Nat → List Sl → Prop, I 0 q ∧ (∀ i x q', l[i]? = some x → I i q' → wpG c (denGp κ.K tg).1 x q' fun q2 => wpS c (denS κ b).ts q2 { F with nx := I (i + 1), ct := I (i + 1), bk := F.nx }) ∧ ∀ q', I l.length q' → F.nx q' := by
        intro l hl
        refine ⟨fun i q' => ∃ ρ', Abs c.K.toKB κ.sx q' ρ' ∧ All (hdC c) (FlOk c κ.sx F) (Zs Z) (forGo (fun x ρ => match evalG false tg x ρ with | some ρ' => evalS Γ b none ρ' | none => bad) (l.drop i) ρ'), ⟨ρ, A, hl⟩, fun i x q' hi hI => ?_, fun q' hI => ?_⟩
        · obtain ⟨ρ', A', hI⟩ := hI
          rw [drop_at hi] at hI
          exact for_snd S.eK (fun F q ρ A h => sndS b c κ Z S hz F q ρ A h) A' rfl hI fun q2 ρ2 A2 h2 => ⟨ρ2, A2, h2⟩
        · obtain ⟨ρ', A', hI⟩ := hI
          rw [List.drop_length] at hI
          exact hI q' A'
      cases k with
      | seq =>
        show wpS c (tFor (iSeq κ.K (den κ it).e) (denGp κ.K tg).1 (denS κ b).ts) q F
        rw [show iSeq κ.K.K (den κ it).e = iSeq c.K (den κ it).e by rw [S.eK]]
        refine ws_forQ ((sndE S hz it q ρ A).fe hb fun d hd => ?_)
        split at hd
        · rename_i l e
          exact ⟨l, items_seq e, go hd⟩
        · exact hd.elim
      | rng1 =>
        show wpS c (tFor (iRng1 (den κ it).a) (denGp κ.K tg).1 (denS κ b).ts) q F
        refine ws_forR1 ((sndE S hz it q ρ A).fa hb fun d hd => ?_)
        split at hd
        · rename_i l e
          obtain ⟨n, rfl, n1, n2, rfl⟩ := items_r1 e
          obtain ⟨I, i0, i1, i2⟩ := go hd
          refine ⟨_, rfl, n, rfl, by omega, by omega, I, i0, fun i q' hi hI => ?_, fun q' hI => i2 q' (by rw [rngL_len]; exact hI)⟩
          exact i1 i (.int i) q' (by rw [rngL_get _ _ _ (by omega)]; rw [Int.zero_add]) hI
        · exact hd.elim
      | rng2 =>
        show wpS c (tFor (iRng2 (den κ it).a) (denGp κ.K tg).1 (denS κ b).ts) q F
        refine ws_forR2 ((sndE S hz it q ρ A).fa hb fun d hd => ?_)
        split at hd
        · rename_i l e
          obtain ⟨a, b', rfl, n1, n2, n3, n4, rfl⟩ := items_r2 e
          obtain ⟨I, i0, i1, i2⟩ := go hd
          exact ⟨_, rfl, a, b', rfl, ⟨by omega, by omega, by omega, by omega⟩, I, i0, fun i q' hi hI => i1 i _ q' (rngL_get _ _ _ (by omega)) hI, fun q' hI => i2 q' (by rw [rngL_len]; exact hI)⟩
        · exact hd.elim
      | enum =>
        show wpS c (tFor (iSeq κ.K (den κ it).e) (denGp κ.K tg).1 (denS κ b).ts) q F
        rw [show iSeq κ.K.K (den κ it).e = iSeq c.K (den κ it).e by rw [S.eK]]
        refine ws_forQ ((sndE S hz it q ρ A).fe hb fun d hd => ?_)
        split at hd
        · rename_i l e
          exact (items_none (by simp) e).elim
        · exact hd.elim
      | zip =>
        show wpS c (tFor (iSeq κ.K (den κ it).e) (denGp κ.K tg).1 (denS κ b).ts) q F
        rw [show iSeq κ.K.K (den κ it).e = iSeq c.K (den κ it).e by rw [S.eK]]
        refine ws_forQ ((sndE S hz it q ρ A).fe hb fun d hd => ?_)
        split at hd
        · rename_i l e
          exact (items_none (by simp) e).elim
        · exact hd.elim
  | .whl t b, c, κ, Z, S, hz => fun F q ρ A h => by
      show wpS c (tWhile (den κ t).t (denS κ b).ts) q F
      refine ws_while (fun m q' => ∃ ρ', Abs c.K.toKB κ.sx q' ρ' ∧ All (hdC c) (FlOk c κ.sx F) (Zs Z) (whGo (fun ρ => evalE Γ t ρ) (fun ρ => evalS Γ b none ρ) m ρ')) ⟨Γ.most, ρ, A, h⟩ fun m q' hI => ?_
      obtain ⟨ρ', A', hI⟩ := hI
      cases m with
      | zero => exact hI.elim
      | succ m =>
        have hI := (show All (hdC c) (FlOk c κ.sx F) (Zs Z) ((at_ (evalE Γ t ρ') ρ').bind fun
          | .bl true => (evalS Γ b none ρ').bind fun
            | .nx ρ' => whGo (fun ρ => evalE Γ t ρ) (fun ρ => evalS Γ b none ρ) m ρ'
            | .ct ρ' => whGo (fun ρ => evalE Γ t ρ) (fun ρ => evalS Γ b none ρ) m ρ'
            | .bk ρ' => ret (.nx ρ')
            | .rt d ρ' => ret (.rt d ρ')
          | .bl false => ret (.nx ρ')
          | _ => bad) from hI).bind.of_mapX
        refine (sndE S hz t q' ρ' A').ft hI fun d hd => ?_
        cases d with
        | bl v => cases v with
          | false => exact ⟨false, rfl, fun z => (nomatch z), fun _ => hd q' A'⟩
          | true =>
            refine ⟨true, rfl, fun _ => ?_, fun z => nomatch z⟩
            have hd := (show All (hdC c) (FlOk c κ.sx F) (Zs Z) ((evalS Γ b none ρ').bind fun
              | .nx ρ' => whGo (fun ρ => evalE Γ t ρ) (fun ρ => evalS Γ b none ρ) m ρ'
              | .ct ρ' => whGo (fun ρ => evalE Γ t ρ) (fun ρ => evalS Γ b none ρ) m ρ'
              | .bk ρ' => ret (.nx ρ')
              | .rt d ρ' => ret (.rt d ρ')) from hd).bind
            refine sndS b c κ Z S hz _ q' ρ' A' (hd.mono (fun fl hfl => ?_) fun _ z => z)
            cases fl with
            | nx ρ2 => exact fun q2 A2 => ⟨m, Nat.lt_succ_self m, ρ2, A2, hfl⟩
            | ct ρ2 => exact fun q2 A2 => ⟨m, Nat.lt_succ_self m, ρ2, A2, hfl⟩
            | bk ρ2 => exact fun q2 A2 => hfl q2 A2
            | rt d ρ2 => exact fun q2 A2 => hfl q2 A2
        | _ => exact hd.elim
  | .rse k a, c, κ, Z, S, hz => fun F q ρ A h => by
      refine ws_rse hz S.eK A ((sndE S hz a q ρ A).fa h.bind.of_mapX fun d hd => ?_)
      cases d with
      | tup ds =>
        by_cases e : ds.length = (Γ.xf k).length ∧ ds.length ≤ 100
        · have hd : All (hdC c) (FlOk c κ.sx F) (Zs Z) (if ds.length = (Γ.xf k).length ∧ ds.length ≤ 100 then exn (⟨k, ds.reverse⟩, ρ) else bad) := hd
          rw [if_pos e] at hd
          exact ⟨ds, rfl, by rw [S.xf]; exact e.1, e.2, hd⟩
        · have hd : All (hdC c) (FlOk c κ.sx F) (Zs Z) (if ds.length = (Γ.xf k).length ∧ ds.length ≤ 100 then exn (⟨k, ds.reverse⟩, ρ) else bad) := hd
          rw [if_neg e] at hd
          exact hd.elim
      | _ => exact hd.elim
  | .try b hh, c, κ, Z, S, hz => fun F q ρ A h => by
      show wpS c (runTb (fun Wx => (denS { κ with snk := .tr Wx } b).ts) (fun D' => wTry κ.K (fun _ _ _ _ => False) D' (denS κ hh).hs)) q F
      rw [show (fun D' => wTry κ.K.K (fun _ _ _ _ => False) D' (denS κ hh).hs) = fun D' => wTry c.K (fun _ _ _ _ => False) D' (denS κ hh).hs by rw [S.eK]]
      refine ws_tryR fun G1 Wx hW _ => ?_
      have S' : Sd { c with G0 := G1 } { κ with snk := .tr Wx } Γ := S.chg rfl rfl rfl rfl rfl rfl
      have hz' : SnkOk { c with G0 := G1 } { κ with snk := .tr Wx } (fun ρ' x => All (hdC c) (FlOk c κ.sx F) (Zs Z) (evalS Γ hh (some x) ρ')) := by
        intro q' ρ' G' H' s' dx xs x hx A' Sx Rx e1 e2 e3
        exact hW q' G' H' s' (c.K.cls x.c) dx (c.K.xf x.c) x.ds xs (sndH hh { c with G0 := G1 } κ (S.chg rfl rfl rfl rfl rfl rfl) F q' ρ' x _ A' hx) Sx Rx e1 e2 e3
      exact sndS b _ _ _ S' hz' F q ρ A h.catch
  | .hnil, c, κ, Z, S, hz => fun F q ρ A h => h.elim
  | .hcons k none b r, c, κ, Z, S, hz => fun F q ρ A h => h.elim
  | .hcons k (some i) b r, c, κ, Z, S, hz => fun F q ρ A h => h.elim
  | .drop e, c, κ, Z, S, hz => fun F q ρ A h => by
      show wpS c (tDrop (den κ e).e) q F
      exact ws_drop ((sndE S hz e q ρ A).fe h.bind.of_mapX fun d hd => hd q A)
  | .keep i s, c, κ, Z, S, hz => fun F q ρ A h => by
      show wpS c (denS κ s).ts q F
      have h : All (hdC c) (FlOk c κ.sx F) (Zs Z) (match ρ[i]? with
        | some (.own ds) => evalS Γ s none (ρ.set i (.dat (.lst ds)))
        | _ => evalS Γ s none ρ) := h
      split at h
      · rename_i ds e1
        obtain ⟨p, e2⟩ := A.own e1
        exact ws_keep e2 (sndS s c κ Z S hz F _ _ A.setD h)
      · exact sndS s c κ Z S hz F q ρ A h
  | .brk, c, κ, Z, S, hz => fun F q ρ A h => ws_brk (h q A)
  | .cnt, c, κ, Z, S, hz => fun F q ρ A h => ws_cont (h q A)
theorem sndH : ∀ (s : SS) (c : Cn) (κ : Dn) (S : Sd c κ Γ) (F : Fn) (q : List Sl) (ρ : Vars) (x : Xn) (X : Xn × Vars → Prop), Abs c.K.toKB κ.sx q ρ → All (hdC c) (FlOk c κ.sx F) X (evalS Γ s (some x) ρ) → hdD c F (denS κ s).hs q (c.K.cls x.c) (c.K.xf x.c) x.ds
  | .hcons k none b r, c, κ, S => fun F q ρ x X A h => by
      have h : All (hdC c) (FlOk c κ.sx F) X (match Γ.sub x.c k with
        | some true => if noExc ρ = true then ((evalS Γ b none ρ).noX.bind fun fl => ret fl.clr) else bad
        | some false => evalS Γ r (some x) ρ
        | none => bad) := h
      split at h
      · rename_i e
        obtain ⟨h1, h2⟩ := all_ite h
        refine ⟨true, by rw [S.eK]; exact S.sub _ _ _ e, fun _ a dx => ?_, fun z => nomatch z⟩
        refine sndS b c { κ with sx := (a, .ref (c.K.cls x.c), some dx), snk := .no } (fun _ _ => False) (S.chg rfl rfl rfl rfl rfl rfl) snk_no F q ρ (A.chg h1) (h2.bind.of_noX.mono (fun fl hfl => ?_) fun _ z => z.elim)
        cases fl with
        | nx ρ' => exact fun q' A' => hfl q' A'.clr
        | rt d ρ' => exact fun q' A' => hfl q' A'.clr
        | bk ρ' => exact fun q' A' => hfl q' A'.clr
        | ct ρ' => exact fun q' A' => hfl q' A'.clr
      · rename_i e
        exact ⟨false, by rw [S.eK]; exact S.sub _ _ _ e, fun z => (nomatch z), fun _ => sndH r c κ S F q ρ x X A h⟩
      · exact h.elim
  | .hcons k (some i) b r, c, κ, S => fun F q ρ x X A h => by
      have h : All (hdC c) (FlOk c κ.sx F) X (match Γ.sub x.c k with
        | some true => if noExc ρ = true ∧ i < ρ.length then (evalS Γ b none (ρ.set i (.exc x.c x.ds))).noX.bind fun fl => ret ((fl.clr).off i) else bad
        | some false => evalS Γ r (some x) ρ
        | none => bad) := h
      split at h
      · rename_i e
        obtain ⟨⟨h1, hi⟩, h2⟩ := all_ite h
        refine ⟨true, by rw [S.eK]; exact S.sub _ _ _ e, fun _ => ⟨by rw [A.1]; exact hi, fun a dx => ?_⟩, fun z => nomatch z⟩
        refine sndS b c { κ with sx := (a, .ref (c.K.cls x.c), some dx), snk := .no } (fun _ _ => False) (S.chg rfl rfl rfl rfl rfl rfl) snk_no (offF F i) _ _ (A.setExc h1) (h2.bind.of_noX.mono (fun fl hfl => ?_) fun _ z => z.elim)
        cases fl with
        | nx ρ' => exact fun q' A' => hfl _ (A'.clr.set trivial)
        | rt d ρ' => exact fun q' A' => hfl q' A'.clr
        | bk ρ' => exact fun q' A' => hfl _ (A'.clr.set trivial)
        | ct ρ' => exact fun q' A' => hfl _ (A'.clr.set trivial)
      · rename_i e
        exact ⟨false, by rw [S.eK]; exact S.sub _ _ _ e, fun z => (nomatch z), fun _ => sndH r c κ S F q ρ x X A h⟩
      · exact h.elim
  | .hnil, c, κ, S => fun F q ρ x X A h => h.elim
  | .nop, c, κ, S => fun F q ρ x X A h => h.elim
  | .seq _ _, c, κ, S => fun F q ρ x X A h => h.elim
  | .asg _ _, c, κ, S => fun F q ρ x X A h => h.elim
  | .asgO _ _, c, κ, S => fun F q ρ x X A h => h.elim
  | .par _ _ _, c, κ, S => fun F q ρ x X A h => h.elim
  | .app _ _, c, κ, S => fun F q ρ x X A h => h.elim
  | .setO _ _ _, c, κ, S => fun F q ρ x X A h => h.elim
  | .ret _, c, κ, S => fun F q ρ x X A h => h.elim
  | .retN, c, κ, S => fun F q ρ x X A h => h.elim
  | .ite _ _ _, c, κ, S => fun F q ρ x X A h => h.elim
  | .for _ _ _ _, c, κ, S => fun F q ρ x X A h => h.elim
  | .whl _ _, c, κ, S => fun F q ρ x X A h => h.elim
  | .rse _ _, c, κ, S => fun F q ρ x X A h => h.elim
  | .try _ _, c, κ, S => fun F q ρ x X A h => h.elim
  | .drop _, c, κ, S => fun F q ρ x X A h => h.elim
  | .keep _ _, c, κ, S => fun F q ρ x X A h => h.elim
  | .brk, c, κ, S => fun F q ρ x X A h => h.elim
  | .cnt, c, κ, S => fun F q ρ x X A h => h.elim
end
end
end Ez

set_option Elab.async false
set_option linter.all false
set_option maxRecDepth 100000
namespace Ez
open L2 PySem PyProof.Rows PySem.Spec
open Tr
section
variable {Pg : Program} {w : World} {K : KT} {mg : Str → Option Value} {base : Heap} {ps : List Str} {sp : Sp} {k k' : Nat} {f : Addr} {fd : FuncData}
theorem FnG.mono (F : FnG Pg w K mg base k f fd ps sp) (h : k ≤ k') : FnG Pg w K mg base k' f fd ps sp := ⟨F.size, fun A outer s H args us vs Q E r gs e b v q => F.go A outer s H args us vs Q E (r.mono h) gs e b v q⟩
theorem FnG.of (F : FnOk Pg w K mg base (L2N.CX Pg w) k f fd ps sp) : FnG Pg w K mg base k f fd ps sp := ⟨F.len, fun A outer s H args us vs Q E r gs e b v q => F.run A outer s H args us vs Q E r e b v q⟩
theorem FnG.ex {spp : Addr → Sp} (F : ∀ p, FnG Pg w K mg base k f fd ps (spp p)) : FnG Pg w K mg base k f fd ps (fun vs H Q E => ∃ p, spp p vs H Q E) :=
  ⟨fun vs H Q E ⟨p, h⟩ => (F p).size vs H Q E h, fun A outer s H args us vs Q E r gs e b v ⟨p, h⟩ => (F p).go A outer s H args us vs Q E r gs e b v h⟩
end
section
variable {Pg : Program} {w : World} {B : KB} {mg : Str → Option Value} {base : Heap} {ps : List Str} {sp : Sp} {k k' : Nat} {f : Addr} {fd : FuncData}
def kp (B : KB) (p : Addr) : KT := ⟨B, p⟩
def spR (B : KB) (T : Text) (n g : Nat) : Sp := fun vs H Q E => ∃ p, spD (kp B p) (pmC (kp B p) (T.run n g)) vs H Q E
def spTake (B : KB) : Sp := fun vs H Q E => ∃ p, spD (kp B p) (pmTake (kp B p)) vs H Q E
theorem fn_run0 {T : Text} {g : Nat} : FnG Pg w B.K mg base k f fd ps (spR B T 0 g) := ⟨fun vs H Q E ⟨_, W, G, ds, _, _, z, _⟩ => z.elim, fun _ _ _ _ _ _ _ _ _ _ _ _ _ _ ⟨_, W, G, ds, _, _, z, _⟩ => z.elim⟩
/-- what the written part has of a text -/
structure TxOk (B : KB) (T : Text) (con : Nat → Addr) : Prop where
  con : ∀ p k G, Is (kp B p) G (T.con k) (.ref (con k))
  xf : B.xf = T.xf
  sub : ∀ a b r, T.sub a b = some r → PySem.W.exmOne B.K (.ref (B.cls a)) (.ref (B.cls b)) = some r
def sx0 : Addr × Value × Option Addr := (0, .none, none)
def dn (B : KB) (T : Text) (con : Nat → Addr) (n : Nat) (E : XK) : Dn := ⟨B, fun g => spR B T n g, T.ok, con, spTake B, .out E, sx0⟩
theorem sd_of {T : Text} {con : Nat → Addr} (X : TxOk B T con) {c : Cn} {p : Addr} (e : c.K = kp B p) (n : Nat) (E : XK) : Sd c (dn B T con n E) (T.pgm n) := by
  refine ⟨by rw [e]; rfl, fun f vs H Q E h => ⟨p, by rw [e] at h; exact h⟩, rfl, fun k G => by rw [e]; exact X.con p k G, by rw [e]; exact X.xf, fun vs H Q E h => ⟨p, by rw [e] at h; exact h⟩, fun a b r h => by rw [e]; exact X.sub a b r h⟩
theorem abs_start {d : Df} {N : List Str} (hN : N.length = d.vars) (ds : List D) : Abs B sx0 (slots ds N) (startD d ds) := by
  refine ⟨by simp [slots, startD, hN], fun i s v e e' => ?_⟩
  unfold slots at e
  unfold startD at e'
  by_cases hi : i < ds.length
  · rw [List.getElem?_append_left (by simpa using hi), List.getElem?_map] at e e'
    cases z : ds[i]? with
    | none => rw [z] at e; cases e
    | some d => rw [z] at e e'; cases e; cases e'; exact rfl
  · rw [List.getElem?_append_right (by simpa using Nat.le_of_not_lt hi)] at e'
    have := List.mem_of_getElem? e'
    rw [List.mem_replicate] at this
    rw [this.2]; trivial
theorem body_run {T : Text} {con : Nat → Addr} (X : TxOk B T con) {n g : Nat} {d : Df} (hd : T.df g = some d) {N : List Str} (hN : N.length = d.vars) {vs : List V} {H : Hp} {Q : VK} {E : XK} (h : spR B T (n + 1) g vs H Q E) :
    (denS (dn B T con n E) d.body).ts ⟨fun _ h => Q .non h, Q, fun _ _ => False, fun _ _ => False⟩ (L2.start N vs) H := by
  obtain ⟨pa, W, G, ds, o, i, hp, hq, hx⟩ := h
  have hp : All (W = HandW (kp B pa) pa) (fun _ => True) (fun _ => True) (T.run (n + 1) g ds) := hp
  have hs := hp.self
  generalize hT : T.run (n + 1) g ds = t at hs
  have e : T.run (n + 1) g ds = runD (T.pgm n) d ds := by
    show (match T.df g with | some d => runD _ d ds | none => bad) = _
    rw [hd]; rfl
  have gen : ∀ u, u = t → All (W = HandW (kp B pa) pa) (fun b => Ret b t) (fun x => Tr.Exn x t) u := fun u h => h ▸ hs
  have hs2 := gen (runD (T.pgm n) d ds) (e.symm.trans hT)
  unfold runD at hs2
  obtain ⟨hl, hs2⟩ := all_ite hs2
  have hs3 := hs2.of_mapX.bind
  let c : Cn := ⟨kp B pa, W, G, H⟩
  have hz : SnkOk c (dn B T con n E) (fun _ x => Tr.Exn x t) := by
    intro q ρ G' H' s' dx xs x hx' A Sx Rx e1 e2 e3
    exact hx G' H' (B.cls x.c) dx (B.xf x.c) x.ds xs ⟨x, by rw [hT]; exact hx', rfl, rfl, rfl⟩ Sx e1 e2 e3
  have fin : wpS c (denS (dn B T con n E) d.body).ts (slots ds N) ⟨fun _ => Tr.Ret .non t, fun _ d => Tr.Ret d t, fun _ => False, fun _ => False⟩ := by
    refine sndS d.body c (dn B T con n E) (fun _ x => Tr.Exn x t) (sd_of X (p := pa) rfl n E) hz _ _ (startD d ds) (abs_start hN ds) (hs3.mono (fun fl hfl => ?_) fun y hy => ?_)
    · cases fl with
      | nx ρ => exact fun _ _ => hfl
      | rt v ρ => exact fun _ _ => hfl
      | bk ρ => exact hfl.elim
      | ct ρ => exact hfl.elim
    · exact hy
  exact fin _ _ G H (Stp.refl o) (rel_start N i) ⟨fun s' H' G' q' a _ S' _ => hq G' H' .non .non (by show Tr.Ret _ (T.run (n + 1) g ds); rw [hT]; exact a) S' rfl, fun v H' G' d' s' q' a _ S' i' _ => hq G' H' v d' (by show Tr.Ret _ (T.run (n + 1) g ds); rw [hT]; exact a) S' i', fun _ _ _ _ a => a.elim, fun _ _ _ _ a => a.elim⟩
theorem spR_len {T : Text} {n g : Nat} {d : Df} (hd : T.df g = some d) (hp : ps.length = d.ps) : ∀ vs H Q E, spR B T (n + 1) g vs H Q E → vs.length = ps.length := fun vs H Q E ⟨_, W, G, ds, _, i, h, _⟩ => by
  have h : All _ (fun _ => True) (fun _ => True) (T.run (n + 1) g ds) := h
  have e : T.run (n + 1) g ds = runD (T.pgm n) d ds := by
    show (match T.df g with | some d => runD _ d ds | none => bad) = _
    rw [hd]; rfl
  rw [e] at h
  obtain ⟨hl, _⟩ := all_ite (show All _ _ _ (if ds.length = d.ps then _ else bad) from h)
  rw [IsL.len i, hl, hp]
/-- THE RULE: a def keeps the promise of its number -/
theorem fn_R {T : Text} {con : Nat → Addr} (X : TxOk B T con) {n g : Nat} {d : Df} (hd : T.df g = some d) {x qual : Str} {st : Stmt} {N : List Str} (F : Fun B.K x qual st f fd) (S : FnScope N ps (defScope st)) (hN : N.length = d.vars) (hp : ps.length = d.ps)
    (h : ∀ (cdv : Value) (A : Around) (outer : List Env) (s : Shared) (H : Hp) (E : XK), A.guards = some [] → Room k (A.deeper (envOfC qual (defScope st) s.heap.objs.size f cdv)) →
      PSs (cxOf (L2N.CX Pg w) Pg w B.K mg base N qual (defScope st) f cdv A outer s H E) (defBody st) (denS (dn B T con n E) d.body).ts) : FnG Pg w B.K mg base (k + 1) f fd ps (spR B T (n + 1) g) :=
  fnG_of F S (spR_len hd hp) fun cdv A outer s H vs Q E gs hr h1 => ⟨_, h cdv A outer s H E gs hr, body_run X hd hN h1⟩
theorem fn_RD {T : Text} {con : Nat → Addr} (X : TxOk B T con) {n g : Nat} {d : Df} (hd : T.df g = some d) {x qual : Str} {params : Arguments} {body : List Stmt} {scope : Scope} {dvs : List V} {kws : List (Str × V)} {N : List Str} (F : FunD B.K x qual params body scope dvs kws f fd) (S : FnScope N ps scope) (hN : N.length = d.vars) (hp : ps.length = d.ps)
    (h : ∀ (cdv : Value) (A : Around) (outer : List Env) (s : Shared) (H : Hp) (E : XK), A.guards = some [] → Room k (A.deeper (envOfC qual scope s.heap.objs.size f cdv)) →
      PSs (cxOf (L2N.CX Pg w) Pg w B.K mg base N qual scope f cdv A outer s H E) body (denS (dn B T con n E) d.body).ts) : FnG Pg w B.K mg base (k + 1) f fd ps (spR B T (n + 1) g) :=
  fnG_ofD F S (spR_len hd hp) fun cdv A outer s H vs Q E gs hr h1 => ⟨_, h cdv A outer s H E gs hr, body_run X hd hN h1⟩
theorem isI {K1 K2 : KT} {G : Hp} {i : Int} {v : V} (h : Is K1 G (.int i) v) : Is K2 G (.int i) v := h
theorem intsC {K1 K2 : KT} {G : Hp} : ∀ {ns : List Int} {xs : List V}, IsL K1 G (ns.map D.int) xs → IsL K2 G (ns.map D.int) xs
  | [], _, h => h
  | n :: ns, _, ⟨x, r, e, h1, h2⟩ => ⟨x, r, e, h1, intsC h2⟩
theorem handC {K1 K2 : KT} {G : Hp} {cells : List Int} {i r t : Int} {xs : List V} (h : IsL K1 G (handD cells i r t) xs) : IsL K2 G (handD cells i r t) xs := by
  obtain ⟨x, r', e, ⟨a, ys, h1, h2, h3⟩, h4⟩ := h
  exact ⟨x, r', e, ⟨a, ys, h1, h2, intsC h3⟩, intsC (ns := [i, r, t]) h4⟩
theorem handW_eq (K1 K2 : KT) (p : Addr) : HandW K1 p = HandW K2 p := by
  have e : (HandW K1 p).J = (HandW K2 p).J := by
    funext G H
    refine propext ⟨fun ⟨xs, c, i, r, t, a, b, d⟩ => ⟨xs, c, i, r, t, a, handC b, d⟩, fun ⟨xs, c, i, r, t, a, b, d⟩ => ⟨xs, c, i, r, t, a, handC b, d⟩⟩
  have e2 : (HandW K1 p).M = (HandW K2 p).M := rfl
  cases h1 : HandW K1 p with
  | mk M J s =>
    cases h2 : HandW K2 p with
    | mk M2 J2 s2 =>
      rw [h1, h2] at e e2
      cases e; cases e2
      rfl
/-- the law: its first statement makes the hand, the rest is asked of every hand -/
theorem fn_lawR {T : Text} {con : Nat → Addr} (X : TxOk B T con) {n : Nat} {x qual : Str} {st : Stmt} {N : List Str} {body : SS} (F : Fun B.K x qual st f fd) (S : FnScope N ps (defScope st)) (hl : ps.length = 1) (hN : 1 < N.length) {E0' : L2.St → XK} {m : Nat} (hm : N.length = m)
    (h : ∀ (cdv : Value) (A : Around) (outer : List Env) (s : Shared) (H : Hp) (E : XK), A.guards = some [] → Room k (A.deeper (envOfC qual (defScope st) s.heap.objs.size f cdv)) →
      PSs (cxOf (L2N.CX Pg w) Pg w B.K mg base N qual (defScope st) f cdv A outer s H E) (defBody st) (tSeq (tAsg (tCallSD (spNew (kp B 0)) [] E0' (tCons (tVar 0) tNil)) (gName 1)) (denS (dn B T con n E) body).ts))
    (law : All True (fun fl => match fl with | .rt d _ => d = .bl true | _ => False) (fun _ => False) (evalS (T.pgm n) body none (.unk :: .dat .hand :: List.replicate (m - 2) .unk))) :
    FnG Pg w B.K mg base (k + 1) f fd ps (spLaw (kp B 0)) := by
  refine fnG_of F S (fun vs H Q E ⟨G, ns, _, i, _⟩ => by rw [IsL.len i, hl]; rfl) fun cdv A outer s H vs Q E gs hr h1 => ?_
  obtain ⟨G, ns, o, iv, hz, hq⟩ := h1
  refine ⟨_, h cdv A outer s H E gs hr, ?_⟩
  have R0 : Rel (kp B 0) W0 H G H (L2.start N vs) (slots [.scr (ns.map D.int)] N) := rel_start N iv
  obtain ⟨v', e0, i1⟩ := R0.dat 0 (.scr (ns.map D.int)) rfl
  refine ⟨v', e0, G, ns, o, ⟨v', [], rfl, i1, rfl⟩, hz, fun G' H' p o' T' => ?_⟩
  have hlen : 1 < (slots [D.scr (ns.map D.int)] N).length := by simp [slots]; omega
  have R0' : Rel (kp B p) W0 H G' H' (L2.start N vs) (slots [.scr (ns.map D.int)] N) := by
    refine (rel_start N ?_ : Rel (kp B p) W0 H G H (L2.start N vs) (slots [.scr (ns.map D.int)] N)).step T'
    obtain ⟨v, rfl, a, xs, rfl, h1, h2⟩ := IsL.one_of iv
    exact ⟨_, [], rfl, ⟨a, xs, rfl, h1, intsC h2⟩, rfl⟩
  have R1 := R0'.setD (i := 1) (d := .hand) (v := .ref p) rfl hlen
  have no : ∀ (i : Nat) (a : Addr) (ds : List D), ((slots [D.scr (ns.map D.int)] N).set 1 (.dat .hand))[i]? = some (.own a ds) → False := fun i a ds z => by
    rcases set_get z with ⟨_, z⟩ | ⟨_, z⟩
    · cases z
    · have := List.mem_of_getElem? z
      simp at this
  let c : Cn := ⟨kp B p, HandW (kp B p) p, G', H'⟩
  have Ab : Abs B sx0 ((slots [D.scr (ns.map D.int)] N).set 1 (.dat .hand)) (.unk :: .dat .hand :: List.replicate (m - 2) .unk) := by
    refine ⟨by simp [slots]; omega, fun i s v e e' => ?_⟩
    match i, e' with
    | 0, e' => cases e'; trivial
    | 1, e' =>
      cases e'
      rcases set_get e with ⟨_, z⟩ | ⟨z, _⟩
      · exact z.symm
      · exact absurd rfl z
    | i + 2, e' =>
      have := List.mem_of_getElem? (show (List.replicate (m - 2) Sv.unk)[i]? = some v from e')
      rw [List.mem_replicate] at this
      rw [this.2]; trivial
  have fin : wpS c (denS (dn B T con n E) body).ts ((slots [D.scr (ns.map D.int)] N).set 1 (.dat .hand)) ⟨fun _ => False, fun _ d => d = .bl true, fun _ => False, fun _ => False⟩ := by
    refine sndS body c (dn B T con n E) (fun _ _ => False) (sd_of X (p := p) rfl n E) (fun _ _ _ _ _ _ _ _ z => z.elim) _ _ _ Ab ?_
    have conv : ∀ {t : RS} {P : Fl → Prop} {Y : Xn × Vars → Prop}, All True P Y t → All (hdC c) P Y t := by
      intro t
      induction t with
      | ret a => intro P Y h; exact h
      | exn a => intro P Y h; exact h
      | bad => intro P Y h; exact h
      | draw m k ih => intro P Y h; exact ⟨rfl, h.2.1, h.2.2.1, fun v v0 v1 => ih v (h.2.2.2 v v0 v1)⟩
    refine (conv law).mono (fun fl hfl => ?_) fun _ z => z
    cases fl with
    | rt d ρ => exact fun _ _ => hfl
    | _ => exact hfl.elim
  have o2 : Ok (HandW (kp B p) p) G' H' := handW_eq (kp B 0) (kp B p) p ▸ o'
  refine fin _ _ G' H' (Stp.refl o2) ⟨R1.len, R1.dat, fun i a ds z => (no i a ds z).elim, fun i j a b a' _ z _ => (no i a' a z).elim⟩
    ⟨fun _ _ _ _ z => z.elim, fun v H2 G2 d s' q' z _ _ i2 _ => ?_, fun _ _ _ _ z => z.elim, fun _ _ _ _ z => z.elim⟩
  cases z
  cases (show v = V.bl true from i2)
  exact hq H2
end
end Ez

set_option Elab.async false
set_option linter.all false
set_option maxRecDepth 100000
namespace Ez
open L2 PySem PyProof.Rows PySem.Spec
open Tr
/-! ### what derivations ask -/
theorem hu65 {A : Around} {k : Nat} (h : Room k A) : A.units + 65 < cLine := by
  have := h.un
  omega
section
variable {X : Cx}
theorem passN : Passes (L2N.CX X.prog X.w) X E0 := fun _ _ _ _ _ _ _ h => by
  obtain ⟨_, _, _, _, _, _, _, _, _, _, _, _, z⟩ := h
  exact z.elim
theorem takesN : L2N.Takes X (fun _ _ _ _ => False) := fun _ _ h => by
  obtain ⟨_, _, _, _, _, _, _, _, _, _, _, _, _, _, _, _, z⟩ := h
  exact z.elim
theorem px_no : ∀ σ, PassesAt (L2N.CX X.prog X.w) X σ (Snk.no.at σ) := fun σ pins H s u s2 I z => passN pins σ H s u s2 I z
section
variable {CX : CXT} {x : Str} {C fI : Addr} {k : Nat} {fd : FuncData} {ps : List Str} {sp : Sp} {ds : List Value} {dvs : List V} {e : Expr} {es : List Expr} {ta : TA} {p pos : Pos}
/-- an exception with an __init__ of its own, its context is None -/
theorem pmk_oexN (T : OexC X.K C) (iC : PySem.W.findIn X.K (.ref C) "__init__" = some (some (.ref fI))) (tI : PySem.W.typeIn X.K (.ref fI) = some (.type "function")) (F1 : FnOk X.prog X.w X.K X.mg X.base CX k fI fd ps sp) (hr : Room (k + 1) X.A) (hb : Binds X.K fd ps ds) (hd : Vals dvs ds) (hx : Passes CX X (fun _ _ _ => False)) (hg : Gl X x) (hm : X.mg x = some (.ref C)) (ha : PA X (e :: es) ta)
    (hdb : (x == ("__debug__" : Str)) = false := by decide) (he : starEach (e :: es) X.env = (false, eval e X.env) :: starEach es X.env := by rfl) (hpl : (backTo pos (starEach es X.env)).any (·.1) = false := by rfl) : L2N.PMk X (.Call (.Name x p) (e :: es) [] pos) (tMkO C sp dvs ta) := by
  intro pins s σ H Q I wish
  obtain ⟨_, _, _, _, bm, _, _, _, _, _, _, _, _, _, _, look, good⟩ := T.cls
  refine wpAny_Call_Name_kw (ld_glob I hg (pos := p) hm ?_ hdb)
  refine PySem.W.callWith_K (h₀ := X.base) I.ok.mod.kin T.kC (thn (ha.run pos pins s σ H _ I wish) ?_) he hpl
  rintro us ⟨hp, g, dr, tk, os⟩ ⟨vs, H1, I1, r1, hz, q1⟩
  refine ⟨I1.kIn, ?_⟩
  show wpAny (model X.prog X.w) X.A (call (.ref C) us) _ _ _
  generalize hh : (hp.push (PySem.W.kdv_tup us)).push (PySem.HandSPX.excO C hp.objs.size) = hq
  have up : ∀ b o, hp.get? b = some o → hq.get? b = some o := fun b o z => hh ▸ Heap.get?_push_of_some _ (Heap.get?_push_of_some _ z)
  have le1 : hp.objs.size ≤ hp.objs.size + 1 := Nat.le_succ _
  have at1 : hq.get? (hp.objs.size + 1) = some (PySem.HandSPX.excO C hp.objs.size) := by rw [← hh]; heap_get
  have no1 : H1 (hp.objs.size + 1) = none := I1.hok.fresh le1
  have I2 : Inv X pins σ (upd H1 (hp.objs.size + 1) (exo (hp.objs.size + 1) C none)) ⟨hq, g, dr, tk, os⟩ := I1.laid (t' := tk) up le1 (exo_ok at1)
  have start := q1 (hp.objs.size + 1) no1
  have r2 : Vals (V.ref (hp.objs.size + 1) :: (vs ++ dvs)) (Value.ref (hp.objs.size + 1) :: (us ++ ds)) := .cons rfl (r1.append hd)
  have many : (Value.ref (hp.objs.size + 1) :: us ++ ds).length = ps.length := (F1.len _ _ _ _ start ▸ r2.length.symm : _)
  have few : us.length ≤ sizeLine := by
    have := Paired.length r1
    rw [sizeLine_eq]
    omega
  have run := F1.run _ X.stack _ _ ⟨Value.ref (hp.objs.size + 1) :: us, []⟩ _ _ _ (fun _ _ _ => False) (hr.make C us []) (I2.env0.make C us []) (hb _ (Value.ref (hp.objs.size + 1) :: us) I2.kIn many) r2 start
  rw [← hh] at run
  refine wpAny_call (PySem.HandSPX.call_own F.excBase_ValueError (fun Y => PySem.HandSPX.refsVE_contains Y bm good) (I1.kIn _ _ look) (PySem.W.looks_findIn I1.kIn iC) (fun self => PySem.W.bind_fn I1.kIn self tI) few (codeAny_mono run ?_))
  rw [hh]
  · rintro res ⟨h2, g2, d2, t2, os'⟩ z
    match res, z with
    | .error u, z => exact hx pins σ _ _ u _ I2 z
    | .ok (.ret u), z =>
      obtain ⟨v, H2, os2, bare2, un2, hok2, rv, ev, d, fs, ea, ed, hd1, q2⟩ := z
      subst ev
      refine ⟨rv, ?_⟩
      obtain ⟨t0, G, J, kG, ge, hoe, na⟩ := mk_end0 (d2 := d2) (t2 := t2) I1 le1 up un2 hok2 os2 bare2 ea ed hd1
      exact ⟨_, _, _, ⟨G, g2, d2, t2, os'⟩, _, .ref C, some d, rfl, J, kG, ge, hoe, ⟨rfl, rfl, fun vs e => by cases e; rfl⟩, rfl, rfl, na, rfl, bare2, raises_own T.exC T.tyC, q2⟩
    | .ok .next, z => exact z.elim
    | .ok .brk, z => exact z.elim
    | .ok .cont, z => exact z.elim
end
theorem px_out {E : XK} (tk : L2N.Takes X (fun cls d _ H => E cls d H)) : ∀ σ, PassesAt (L2N.CX X.prog X.w) X σ ((Snk.out E).at σ) := fun σ pins H s u s2 I z => L2N.passes_call tk (fun _ _ _ _ h => h) pins σ H s u s2 I z
theorem px_tr {W : WX} (tk : L2N.Takes X W) : ∀ σ, PassesAt (L2N.CX X.prog X.w) X σ ((Snk.tr W).at σ) := fun σ => L2N.passAt tk σ
theorem call_reprA (hg : X.A.guards = some []) (hu : X.A.units + 64 < cLine) : CallR X (.builtin "repr") (rReprA X.K) := by
  intro pins s0 σ H xs us Q I rel h
  obtain ⟨v, d, rfl, hd, hs, hn, hp, hz, q⟩ := h
  obtain ⟨u, rfl, ru⟩ := vals1 rel
  obtain ⟨as, rd⟩ := Dp.reads I d _ _ hd ru
  cases hd with
  | non => cases (show u = Value.none from ru); exact PySem.P.repr_of_none ⟨.str _, H, I.tok _, ⟨_, rfl⟩, q⟩
  | bl b => cases (show u = Value.bool b from ru); exact PySem.P.repr_of_bool ⟨.str _, H, I.tok _, ⟨_, rfl⟩, q⟩
  | int i =>
    obtain ⟨t, rfl⟩ := ru
    exact PySem.P.repr_of_int (of_decide_eq_true hs) ⟨.str _, H, I.tok _, ⟨_, rfl⟩, q⟩
  | str x =>
    obtain ⟨t, rfl⟩ := ru
    exact PySem.P.repr_of_str ⟨.str _, H, I.tok _, ⟨_, rfl⟩, q⟩ hz
  | lst h1 h2 =>
    have eu : u = Value.ref _ := ru
    subst eu
    refine PySem.repr_of_reads' rd hs (fun e => ?_) hg (by omega) (fun _ _ e => e) (fun h' t tk k => ⟨.str _, H, I.kept k, ⟨_, rfl⟩, q⟩) hz
    rw [hn] at e; cases e
  | tup h1 h2 =>
    have eu : u = Value.ref _ := ru
    subst eu
    refine PySem.repr_of_reads' rd hs (fun e => ?_) hg (by omega) (fun _ _ e => e) (fun h' t tk k => ⟨.str _, H, I.kept k, ⟨_, rfl⟩, q⟩) hz
    rw [hn] at e; cases e
theorem of_ex {body : List Stmt} {t' : TS} (h : ∃ t, PSs X body t ∧ t = t') : PSs X body t' := by
  obtain ⟨t, a, rfl⟩ := h; exact a
theorem lookup_mem {α β : Type} [BEq α] [LawfulBEq α] : ∀ {l : List (α × β)} {a : α} {b : β}, l.lookup a = some b → (a, b) ∈ l
  | [], _, _, h => by cases h
  | (x, y) :: l, a, b, h => by
    rw [List.lookup_cons] at h
    cases z : a == x with
    | true => rw [z] at h; cases h; rw [eq_of_beq z]; exact List.mem_cons_self
    | false => rw [z] at h; exact List.mem_cons_of_mem _ (lookup_mem h)
end
section
variable {X : Cx} {K : PySem.W.Frag}
theorem op_addK (e : X.K = K) : OpR X (binaryOp .Add) (rAdd K) := e ▸ op_addA
theorem op_eqK (e : X.K = K) (hu : X.A.units + 64 < cLine) : OpR X (compareOp .Eq) (rEqD K) := e ▸ op_eqD hu
theorem op_neK (e : X.K = K) (hu : X.A.units + 64 < cLine) : OpR X (compareOp .NotEq) (rNeD K) := e ▸ op_neD hu
theorem op_inK (e : X.K = K) (hu : X.A.units + 65 < cLine) : OpR X (compareOp .In) (rOr (rInD K) (rInT K)) := e ▸ op_inA hu
theorem op_notInK (e : X.K = K) (hu : X.A.units + 65 < cLine) : OpR X (compareOp .NotIn) (rOr (rNotInD K) (rNotInT K)) := e ▸ op_notInA hu
theorem ix_seqK (e : X.K = K) : IxR X (rIx K) := e ▸ ix_seq
theorem sl_seqK (e : X.K = K) : SlR X (rSlQ K) := e ▸ sl_seq
theorem call_lenK (e : X.K = K) : CallR X (.builtin "len") (crLen K) := e ▸ call_len_seq
theorem call_listK (e : X.K = K) : CallR X (.type "list") (crList K) := e ▸ call_list_of
theorem call_tupK (e : X.K = K) : CallR X (.type "tuple") (crTup K) := e ▸ call_tuple_of
theorem call_isiK (e : X.K = K) : CallR X (.builtin "isinstance") (rIsi K) := e ▸ call_isi
theorem call_isiTK (e : X.K = K) : CallR X (.builtin "isinstance") (rIsiT K) := e ▸ call_isiT
theorem cr_sumK (e : X.K = K) (hc : X.calm = true) : CallR X (.builtin "sum") (rSum K) := e ▸ cr_sum hc
theorem cr_sortedK (e : X.K = K) : CallR X (.builtin "sorted") (rSortB K) := cr_sortBK e
theorem call_reprK (e : X.K = K) (hg : X.A.guards = some []) (hu : X.A.units + 64 < cLine) : CallR X (.builtin "repr") (rReprA K) := e ▸ call_reprA hg hu
theorem pi_seqK (e : X.K = K) {tg l : Expr} {tl : TE} (hl : PE X l tl) : PI X tg l (iSeq K tl) := e ▸ pi_seq hl
theorem pg_seqK (e : X.K = K) {es : List Expr} {k : Nat} {t : TGs} {n : Nat} {pos : Pos} (hc : X.calm = true) (h : PGs X es t)
    (hn : (assignEach es X.env).length = n := by rfl) (hst : (assignEach es X.env).findIdx? (·.1) = none := by rfl) : PG X (.Tuple es k pos) (gSeq K n t) := e ▸ pg_seq hc h hn hst
theorem pe_notTK (e : X.K = K) {a : Expr} {ta : TE} {pos : Pos} (ha : PE X a ta) : PE X (.UnaryOp .Not a pos) (tNotT K ta) := e ▸ pe_notT ha
theorem pt_truthK (e : X.K = K) {a : Expr} {ta : TE} (ha : PE X a ta) (he : ∀ whole, isTrue a X.env whole = (do let v ← whole; standAt a.pos; holding [v] (truthy v))) :
    PT X a (fun σ H Q => ta σ H fun x H' => ∃ k, TruV K x H' k ∧ Q k H') := e ▸ pt_truth ha he
end
/-- a nested constant of the top: tuples of tuples of scalars -/
theorem isTupK {K : KT} {G : Hp} {a : Addr} {o : Obj} {its : Array Value} {n : Nat} {xs : List V} {ds : List D} (l : List.lookup a K.K = some o) (hc : o.cls = .type "tuple") (hd : o.data = .seq its n) (hz : its.size ≤ sizeLine) (v : Vals xs its.toList) (i : IsL K G ds xs) : Is K G (.tup ds) (.ref a) :=
  ⟨a, xs, rfl, .inr ⟨o, its, n, l, hc, hd, hz, v⟩, i⟩
end Ez
namespace Ez
open L2 PySem PyProof.Rows PySem.Spec
def kt0 (K : PySem.W.Frag) : KT := ⟨⟨K, fun _ => 0, fun _ => 0, fun _ => [], fun _ => []⟩, 0⟩
theorem ints_is {K : KT} {G : Hp} : ∀ {ns : List Int} {xs : List V}, xs = ns.map V.int → IsL K G (ns.map D.int) xs
  | [], _, h => h
  | n :: ns, _, h => ⟨_, _, h, rfl, ints_is rfl⟩
theorem scr_conv {K1 K2 : KT} (e : K1.K = K2.K) {G : Hp} {ns : List Int} {vs : List V} (h : IsL K1 G [.scr (ns.map D.int)] vs) : IsL K2 G [.scr (ns.map D.int)] vs := by
  obtain ⟨v, rfl, a, xs, rfl, h1, h2⟩ := IsL.one_of h
  exact ⟨_, [], rfl, ⟨a, xs, rfl, e ▸ h1, ints_is (IsL.ints h2)⟩, rfl⟩
theorem FnG.law {Pg : Program} {w : World} {K1 K2 : KT} {K : PySem.W.Frag} {mg : Str → Option Value} {base : Heap} {ps : List Str} {k : Nat} {f : Addr} {fd : FuncData} (e : K1.K = K2.K) (F : FnG Pg w K mg base k f fd ps (spLaw K2)) : FnG Pg w K mg base k f fd ps (spLaw K1) := by
  have cv : ∀ {vs H Q E}, spLaw K1 vs H Q E → spLaw K2 vs H Q E := fun {vs H Q E} ⟨G, ns, o, i, hl, q⟩ => ⟨G, ns, o, scr_conv e i, hl, q⟩
  exact ⟨fun vs H Q E h => F.size vs H Q E (cv h), fun A outer s H args us vs Q E r gs en b v h => F.go A outer s H args us vs Q E r gs en b v (cv h)⟩
theorem walkK {l : PySem.W.OpenLaw} {n k : Nat} {q : Program} {loose : List Str} {XP : (Str → Option Value) → Heap → Prop} {YP : World → Heap → Prop} {d : DefRec} {K : Params → PySem.W.Frag} {x : Str}
    (hn : l.most = some n) (hn2 : n ≤ 63) (hdf : d.params.defaults = []) (hr : Room k callerA) (hY : ∀ (w : World) (h : Heap), YP w h → (K w.params).In h)
    (FG : ∀ (w : World) (mg : Str → Option Value) (fa : Addr) (h : Heap), (K w.params).In h → h.Ns mainGlobals mg → mg d.name = some (.ref fa) →
      ∃ fd : FuncData, (∀ (s : Shared) (u : Value), BindsTo s fd ⟨[u], []⟩ [(x, u)]) ∧ ∀ base : Heap, (K w.params).In base → base.Ns mainGlobals mg → FnG l.prog w (K w.params) mg base k fa fd [x] (spLaw (kt0 (K w.params)))) :
    PySem.W.WalkO q loose XP YP l.row.toRowW d [] (fun g xs => PySem.call g xs) := walkG (K := fun p => kt0 (K p)) hn hn2 hdf hr hY FG
end Ez
namespace Ez
open L2 PySem PyProof.Rows PySem.Spec
section
variable {K : PySem.W.Frag} {h : Heap} {mg : Str → Option Value} {Goal : Prop}
/-- a constant of the top: a tuple of scalars -/
theorem constK_elim {x : Str} {a : Addr} {od : Option Addr} {sl : Array (Option Value)} {its : List Value} {n : Nat} {xs : List V} (X : K.In h) (G : h.Ns mainGlobals mg)
    (c : PySem.W.nsIn K mainGlobals x = some (some (.ref a))) (l : K.lookup a = some ⟨.type "tuple", od, .seq its.toArray n, sl⟩) (v : Vals xs its) (hs : xs.all scaV = true) (hz : xs.length ≤ 1000)
    (go : ∀ a, mg x = some (.ref a) → (∀ k : KT, k.K = K → ∀ G, Is k G (.tup (xs.map dOf)) (.ref a)) → Goal) : Goal :=
  go a (PySem.W.mg_of X G c) fun k e G => ⟨a, xs, rfl, .inr ⟨_, its.toArray, n, by rw [e]; exact l, rfl, rfl, by rw [List.size_toArray, ← v.length]; exact Nat.le_trans hz (by decide), v⟩, isDef hs⟩
/-- rows of a nested constant -/
inductive Rows2 (K : PySem.W.Frag) : List (List V) → List Value → Prop
  | nil : Rows2 K [] []
  | cons {a : Addr} {od : Option Addr} {sl : Array (Option Value)} {its : List Value} {n : Nat} {xs : List V} {xss : List (List V)} {r : List Value} (l : K.lookup a = some ⟨.type "tuple", od, .seq its.toArray n, sl⟩) (v : Vals xs its) (hz : its.length ≤ 1000) (t : Rows2 K xss r) : Rows2 K (xs :: xss) (.ref a :: r)
theorem rows2_is {k : KT} (e : k.K = K) : ∀ {xss : List (List V)} {r : List Value}, Rows2 K xss r → xss.all (fun xs => xs.all scaV) = true → ∃ vs, Vals vs r ∧ ∀ G, IsL k G (xss.map fun xs => D.tup (xs.map dOf)) vs
  | _, _, .nil, _ => ⟨[], .nil, fun _ => rfl⟩
  | _, _, .cons (a := a) (its := its) (n := n) (xs := xs) l v hz t, h => by
    obtain ⟨h1, h2⟩ := Bool.and_eq_true_iff.mp (show (xs.all scaV && _) = true from h)
    obtain ⟨vs, b, c⟩ := rows2_is e t h2
    exact ⟨.ref a :: vs, .cons rfl b, fun G => ⟨_, _, rfl, ⟨a, xs, rfl, .inr ⟨_, its.toArray, n, by rw [e]; exact l, rfl, rfl, by rw [List.size_toArray]; exact Nat.le_trans hz (by decide), v⟩, isDef h1⟩, c G⟩⟩
theorem constKK_elim {x : Str} {a : Addr} {od : Option Addr} {sl : Array (Option Value)} {its : List Value} {n : Nat} {xss : List (List V)} (X : K.In h) (G : h.Ns mainGlobals mg)
    (c : PySem.W.nsIn K mainGlobals x = some (some (.ref a))) (l : K.lookup a = some ⟨.type "tuple", od, .seq its.toArray n, sl⟩) (r : Rows2 K xss its) (hs : xss.all (fun xs => xs.all scaV) = true) (hz : xss.length ≤ 1000)
    (go : ∀ a, mg x = some (.ref a) → (∀ k : KT, k.K = K → ∀ G, Is k G (.tup (xss.map fun xs => D.tup (xs.map dOf))) (.ref a)) → Goal) : Goal :=
  go a (PySem.W.mg_of X G c) fun k e G => by
    obtain ⟨vs, b, i⟩ := rows2_is e r hs
    refine ⟨a, vs, rfl, .inr ⟨_, its.toArray, n, by rw [e]; exact l, rfl, rfl, ?_, b⟩, i G⟩
    have := IsL.len (i G)
    rw [List.size_toArray, ← b.length, this, List.length_map]; exact Nat.le_trans hz (by decide)
end
end Ez

set_option Elab.async false
set_option linter.all false
set_option maxRecDepth 100000
set_option maxHeartbeats 3999999

namespace K04
open L2 PySem PyProof.Rows PySem.Spec Ez
def topS (i : Nat) : Stmt := PySem.Challenge.pw_tautparcel_k04_whole_slopes_and_directio.main.body.getD i (.Pass ⟨0, 0, 0, 0⟩)
abbrev s_is_whole : Stmt := topS 7
abbrev s_is_sequence : Stmt := topS 8
abbrev s_check_face : Stmt := topS 11
abbrev s_face_axes : Stmt := topS 12
abbrev s_framed : Stmt := topS 14
abbrev s_check_slope : Stmt := topS 19
abbrev s_mirrored_slope : Stmt := topS 20
abbrev s_check_direction : Stmt := topS 21
abbrev s_unframed : Stmt := topS 22
abbrev s_quarter_turns : Stmt := topS 23
abbrev s_directions_on : Stmt := topS 24
abbrev s_slope_of : Stmt := topS 25
abbrev s_slope_on : Stmt := topS 26
abbrev s_reversed_direction : Stmt := topS 27
abbrev s_back_of : Stmt := topS 28
abbrev s_left_of : Stmt := topS 29
abbrev s_outward_step : Stmt := topS 30
abbrev s__law_hand : Stmt := topS 32
abbrev s__law_mixed : Stmt := topS 33
abbrev s__law_take : Stmt := topS 34
abbrev s__law_common : Stmt := topS 35
abbrev s__law_axes : Stmt := topS 36
abbrev s__law_steps : Stmt := topS 37
abbrev s__law_four : Stmt := topS 38
abbrev s__law_out : Stmt := topS 39
abbrev s__law_tuples : Stmt := topS 40
abbrev s__law_odd : Stmt := topS 41
abbrev s__law_rid : Stmt := topS 42
abbrev s__law_whole : Stmt := topS 43
abbrev s__law_shaped : Stmt := topS 44
abbrev s__law_plain : Stmt := topS 45
abbrev s__law_like : Stmt := topS 46
abbrev s__law_slope_of : Stmt := topS 47
abbrev s__law_mirror : Stmt := topS 48
abbrev s__law_deed : Stmt := topS 49
abbrev s__law_is_slope : Stmt := topS 50
abbrev s__law_slopes : Stmt := topS 51
abbrev s__law_word : Stmt := topS 52
abbrev s__law_drawn : Stmt := topS 53
abbrev s__law_spoilt : Stmt := topS 54
abbrev s__law_faceless : Stmt := topS 55
abbrev s_law : Stmt := topS 56
abbrev s_BadDirection___init__ : Stmt := inClass (topS 5) 0
abbrev s_BadFace___init__ : Stmt := inClass (topS 3) 0
abbrev s_BadSlope___init__ : Stmt := inClass (topS 4) 0
theorem sc_is_whole : FnScope ["thing", "low", "high"] ["thing", "low", "high"] (defScope s_is_whole) := ⟨rfl, rfl, rfl, by decide +kernel, rfl, by decide +kernel, by decide +kernel⟩
theorem sc_is_sequence : FnScope ["thing", "low", "high"] ["thing", "low", "high"] (defScope s_is_sequence) := ⟨rfl, rfl, rfl, by decide +kernel, rfl, by decide +kernel, by decide +kernel⟩
theorem sc_check_face : FnScope ["face"] ["face"] (defScope s_check_face) := ⟨rfl, rfl, rfl, by decide +kernel, rfl, by decide +kernel, by decide +kernel⟩
theorem sc_face_axes : FnScope ["face"] ["face"] (defScope s_face_axes) := ⟨rfl, rfl, rfl, by decide +kernel, rfl, by decide +kernel, by decide +kernel⟩
theorem sc_framed : FnScope ["face", "triple", "axes", "entries", "axis", "entry"] ["face", "triple"] (defScope s_framed) := ⟨rfl, rfl, rfl, by decide +kernel, rfl, by decide +kernel, by decide +kernel⟩
theorem sc_check_slope : FnScope ["slope", "band", "number"] ["slope", "band"] (defScope s_check_slope) := ⟨rfl, rfl, rfl, by decide +kernel, rfl, by decide +kernel, by decide +kernel⟩
theorem sc_mirrored_slope : FnScope ["slope", "first", "second"] ["slope"] (defScope s_mirrored_slope) := ⟨rfl, rfl, rfl, by decide +kernel, rfl, by decide +kernel, by decide +kernel⟩
theorem sc_check_direction : FnScope ["face", "direction", "number", "common"] ["face", "direction"] (defScope s_check_direction) := ⟨rfl, rfl, rfl, by decide +kernel, rfl, by decide +kernel, by decide +kernel⟩
theorem sc_unframed : FnScope ["face", "first", "second", "axes", "triple"] ["face", "first", "second"] (defScope s_unframed) := ⟨rfl, rfl, rfl, by decide +kernel, rfl, by decide +kernel, by decide +kernel⟩
theorem sc_quarter_turns : FnScope ["first", "second"] ["first", "second"] (defScope s_quarter_turns) := ⟨rfl, rfl, rfl, by decide +kernel, rfl, by decide +kernel, by decide +kernel⟩
theorem sc_directions_on : FnScope ["face", "slope", "first", "second", "one", "other"] ["face", "slope"] (defScope s_directions_on) := ⟨rfl, rfl, rfl, by decide +kernel, rfl, by decide +kernel, by decide +kernel⟩
theorem sc_slope_of : FnScope ["face", "direction"] ["face", "direction"] (defScope s_slope_of) := ⟨rfl, rfl, rfl, by decide +kernel, rfl, by decide +kernel, by decide +kernel⟩
theorem sc_slope_on : FnScope ["face", "direction", "first", "second", "turns", "turn"] ["face", "direction"] (defScope s_slope_on) := ⟨rfl, rfl, rfl, by decide +kernel, rfl, by decide +kernel, by decide +kernel⟩
theorem sc_reversed_direction : FnScope ["direction", "number"] ["direction"] (defScope s_reversed_direction) := ⟨rfl, rfl, rfl, by decide +kernel, rfl, by decide +kernel, by decide +kernel⟩
theorem sc_back_of : FnScope ["face", "direction"] ["face", "direction"] (defScope s_back_of) := ⟨rfl, rfl, rfl, by decide +kernel, rfl, by decide +kernel, by decide +kernel⟩
theorem sc_left_of : FnScope ["face", "direction", "first", "second"] ["face", "direction"] (defScope s_left_of) := ⟨rfl, rfl, rfl, by decide +kernel, rfl, by decide +kernel, by decide +kernel⟩
theorem sc_outward_step : FnScope ["beside", "direction", "number"] ["beside", "direction"] (defScope s_outward_step) := ⟨rfl, rfl, rfl, by decide +kernel, rfl, by decide +kernel, by decide +kernel⟩
theorem sc__law_hand : FnScope ["_law_script", "_law_total", "_law_cells", "_law_cell"] ["_law_script"] (defScope s__law_hand) := ⟨rfl, rfl, rfl, by decide +kernel, rfl, by decide +kernel, by decide +kernel⟩
theorem sc__law_mixed : FnScope ["_law_number", "_law_turn", "_law_once", "_law_twice"] ["_law_number", "_law_turn"] (defScope s__law_mixed) := ⟨rfl, rfl, rfl, by decide +kernel, rfl, by decide +kernel, by decide +kernel⟩
theorem sc__law_take : FnScope ["_law_hand_here", "_law_many", "_law_cell", "_law_rest"] ["_law_hand_here", "_law_many"] (defScope s__law_take) := ⟨rfl, rfl, rfl, by decide +kernel, rfl, by decide +kernel, by decide +kernel⟩
theorem sc__law_common : FnScope ["_law_one", "_law_other"] ["_law_one", "_law_other"] (defScope s__law_common) := ⟨rfl, rfl, rfl, by decide +kernel, rfl, by decide +kernel, by decide +kernel⟩
theorem sc__law_axes : FnScope ["_law_face"] ["_law_face"] (defScope s__law_axes) := ⟨rfl, rfl, rfl, by decide +kernel, rfl, by decide +kernel, by decide +kernel⟩
theorem sc__law_steps : FnScope ["_law_face", "_law_first", "_law_second", "_law_axes_here", "_law_out_here"] ["_law_face", "_law_first", "_law_second"] (defScope s__law_steps) := ⟨rfl, rfl, rfl, by decide +kernel, rfl, by decide +kernel, by decide +kernel⟩
theorem sc__law_four : FnScope ["_law_face", "_law_slope", "_law_p", "_law_q"] ["_law_face", "_law_slope"] (defScope s__law_four) := ⟨rfl, rfl, rfl, by decide +kernel, rfl, by decide +kernel, by decide +kernel⟩
theorem sc__law_out : FnScope ["_law_beside", "_law_steps_here"] ["_law_beside", "_law_steps_here"] (defScope s__law_out) := ⟨rfl, rfl, rfl, by decide +kernel, rfl, by decide +kernel, by decide +kernel⟩
theorem sc__law_tuples : FnScope ["_law_thing", "_law_item"] ["_law_thing"] (defScope s__law_tuples) := ⟨rfl, rfl, rfl, by decide +kernel, rfl, by decide +kernel, by decide +kernel⟩
theorem sc__law_odd : FnScope ["_law_hand_here", "_law_high"] ["_law_hand_here", "_law_high"] (defScope s__law_odd) := ⟨rfl, rfl, rfl, by decide +kernel, rfl, by decide +kernel, by decide +kernel⟩
theorem sc__law_rid : FnScope ["_law_hand_here"] ["_law_hand_here"] (defScope s__law_rid) := ⟨rfl, rfl, rfl, by decide +kernel, rfl, by decide +kernel, by decide +kernel⟩
theorem sc__law_whole : FnScope ["_law_thing", "_law_low", "_law_high"] ["_law_thing", "_law_low", "_law_high"] (defScope s__law_whole) := ⟨rfl, rfl, rfl, by decide +kernel, rfl, by decide +kernel, by decide +kernel⟩
theorem sc__law_shaped : FnScope ["_law_hand_here", "_law_items"] ["_law_hand_here", "_law_items"] (defScope s__law_shaped) := ⟨rfl, rfl, rfl, by decide +kernel, rfl, by decide +kernel, by decide +kernel⟩
theorem sc__law_plain : FnScope ["_law_thing", "_law_item"] ["_law_thing"] (defScope s__law_plain) := ⟨rfl, rfl, rfl, by decide +kernel, rfl, by decide +kernel, by decide +kernel⟩
theorem sc__law_like : FnScope ["_law_one", "_law_other"] ["_law_one", "_law_other"] (defScope s__law_like) := ⟨rfl, rfl, rfl, by decide +kernel, rfl, by decide +kernel, by decide +kernel⟩
theorem sc__law_slope_of : FnScope ["_law_slope", "_law_band", "_law_found", "raised"] ["_law_slope", "_law_band"] (defScope s__law_slope_of) := ⟨rfl, rfl, rfl, by decide +kernel, rfl, by decide +kernel, by decide +kernel⟩
theorem sc__law_mirror : FnScope ["_law_slope", "_law_found", "raised"] ["_law_slope"] (defScope s__law_mirror) := ⟨rfl, rfl, rfl, by decide +kernel, rfl, by decide +kernel, by decide +kernel⟩
theorem sc__law_deed : FnScope ["_law_deed_here", "_law_face", "_law_thing", "_law_found", "raised"] ["_law_deed_here", "_law_face", "_law_thing"] (defScope s__law_deed) := ⟨rfl, rfl, rfl, by decide +kernel, rfl, by decide +kernel, by decide +kernel⟩
theorem sc__law_is_slope : FnScope ["_law_slope", "_law_band"] ["_law_slope", "_law_band"] (defScope s__law_is_slope) := ⟨rfl, rfl, rfl, by decide +kernel, rfl, by decide +kernel, by decide +kernel⟩
theorem sc__law_slopes : FnScope ["_law_hand_here", "_law_first", "_law_second", "_law_odd_here", "_law_shaped_here", "_law_slope", "_law_band", "_law_due", "_law_face", "_law_told", "raised"] ["_law_hand_here"] (defScope s__law_slopes) := ⟨rfl, rfl, rfl, by decide +kernel, rfl, by decide +kernel, by decide +kernel⟩
theorem sc__law_word : FnScope ["_law_face", "_law_steps_here", "_law_step", "_law_axes_here"] ["_law_face", "_law_steps_here"] (defScope s__law_word) := ⟨rfl, rfl, rfl, by decide +kernel, rfl, by decide +kernel, by decide +kernel⟩
theorem sc__law_drawn : FnScope ["_law_hand_here", "_law_face", "_law_most", "_law_first", "_law_second", "_law_common_here", "_law_size"] ["_law_hand_here", "_law_face"] (defScope s__law_drawn) := ⟨rfl, rfl, rfl, by decide +kernel, rfl, by decide +kernel, by decide +kernel⟩
theorem sc__law_spoilt : FnScope ["_law_hand_here", "_law_face", "_law_steps_here", "_law_out_here", "_law_kind", "_law_step"] ["_law_hand_here", "_law_face", "_law_steps_here"] (defScope s__law_spoilt) := ⟨rfl, rfl, rfl, by decide +kernel, rfl, by decide +kernel, by decide +kernel⟩
theorem sc__law_faceless : FnScope ["_law_hand_here", "_law_odd_here", "_law_found", "raised"] ["_law_hand_here"] (defScope s__law_faceless) := ⟨rfl, rfl, rfl, by decide +kernel, rfl, by decide +kernel, by decide +kernel⟩
theorem sc_law : FnScope ["_law_script", "_law_hand_here", "_law_face", "_law_steps_here", "_law_axes_here", "_law_first", "_law_second", "_law_step", "_law_turns", "_law_due", "_law_turn", "_law_beside", "_law_other", "_law_word_here", "_law_deed_here", "_law_found"] ["_law_script"] (defScope s_law) := ⟨rfl, rfl, rfl, by decide +kernel, rfl, by decide +kernel, by decide +kernel⟩
theorem sc_BadDirection___init__ : FnScope ["self", "what"] ["self", "what"] (defScope s_BadDirection___init__) := ⟨rfl, rfl, rfl, by decide +kernel, rfl, by decide +kernel, by decide +kernel⟩
theorem sc_BadFace___init__ : FnScope ["self", "face"] ["self", "face"] (defScope s_BadFace___init__) := ⟨rfl, rfl, rfl, by decide +kernel, rfl, by decide +kernel, by decide +kernel⟩
theorem sc_BadSlope___init__ : FnScope ["self", "slope"] ["self", "slope"] (defScope s_BadSlope___init__) := ⟨rfl, rfl, rfl, by decide +kernel, rfl, by decide +kernel, by decide +kernel⟩
structure Ad where
  FACE_AXES : Addr
  STEEPEST : Addr
  MOST_NUMBER : Addr
  BAND : Addr
  ParcelError : Addr
  BadFace : Addr
  BadSlope : Addr
  BadDirection : Addr
  BadDirection___init__ : Addr
  fd_BadDirection___init__ : FuncData
  BadFace___init__ : Addr
  fd_BadFace___init__ : FuncData
  BadSlope___init__ : Addr
  fd_BadSlope___init__ : FuncData
  f_is_whole : Addr
  fd_is_whole : FuncData
  f_is_sequence : Addr
  fd_is_sequence : FuncData
  f_check_face : Addr
  fd_check_face : FuncData
  f_face_axes : Addr
  fd_face_axes : FuncData
  f_framed : Addr
  fd_framed : FuncData
  f_check_slope : Addr
  fd_check_slope : FuncData
  f_mirrored_slope : Addr
  fd_mirrored_slope : FuncData
  f_check_direction : Addr
  fd_check_direction : FuncData
  f_unframed : Addr
  fd_unframed : FuncData
  f_quarter_turns : Addr
  fd_quarter_turns : FuncData
  f_directions_on : Addr
  fd_directions_on : FuncData
  f_slope_of : Addr
  fd_slope_of : FuncData
  f_slope_on : Addr
  fd_slope_on : FuncData
  f_reversed_direction : Addr
  fd_reversed_direction : FuncData
  f_back_of : Addr
  fd_back_of : FuncData
  f_left_of : Addr
  fd_left_of : FuncData
  f_outward_step : Addr
  fd_outward_step : FuncData
  f__law_hand : Addr
  fd__law_hand : FuncData
  f__law_mixed : Addr
  fd__law_mixed : FuncData
  f__law_take : Addr
  fd__law_take : FuncData
  f__law_common : Addr
  fd__law_common : FuncData
  f__law_axes : Addr
  fd__law_axes : FuncData
  f__law_steps : Addr
  fd__law_steps : FuncData
  f__law_four : Addr
  fd__law_four : FuncData
  f__law_out : Addr
  fd__law_out : FuncData
  f__law_tuples : Addr
  fd__law_tuples : FuncData
  f__law_odd : Addr
  fd__law_odd : FuncData
  f__law_rid : Addr
  fd__law_rid : FuncData
  f__law_whole : Addr
  fd__law_whole : FuncData
  f__law_shaped : Addr
  fd__law_shaped : FuncData
  f__law_plain : Addr
  fd__law_plain : FuncData
  f__law_like : Addr
  fd__law_like : FuncData
  f__law_slope_of : Addr
  fd__law_slope_of : FuncData
  f__law_mirror : Addr
  fd__law_mirror : FuncData
  f__law_deed : Addr
  fd__law_deed : FuncData
  f__law_is_slope : Addr
  fd__law_is_slope : FuncData
  f__law_slopes : Addr
  fd__law_slopes : FuncData
  f__law_word : Addr
  fd__law_word : FuncData
  f__law_drawn : Addr
  fd__law_drawn : FuncData
  f__law_spoilt : Addr
  fd__law_spoilt : FuncData
  f__law_faceless : Addr
  fd__law_faceless : FuncData
  f_law : Addr
  fd_law : FuncData
def kt (K : PySem.W.Frag) (ad : Ad) : KB := ⟨K, fun c => [ad.ParcelError, ad.BadFace, ad.BadSlope, ad.BadDirection].getD c 0, fun f => [ad.f_is_whole, ad.f_is_sequence, ad.f_check_face, ad.f_face_axes, ad.f_framed, ad.f_check_slope, ad.f_mirrored_slope, ad.f_check_direction, ad.f_unframed, ad.f_quarter_turns, ad.f_directions_on, ad.f_slope_of, ad.f_slope_on, ad.f_reversed_direction, ad.f_back_of, ad.f_left_of, ad.f_outward_step, ad.f__law_hand, ad.f__law_mixed, ad.f__law_take, ad.f__law_common, ad.f__law_axes, ad.f__law_steps, ad.f__law_four, ad.f__law_out, ad.f__law_tuples, ad.f__law_odd, ad.f__law_rid, ad.f__law_whole, ad.f__law_shaped, ad.f__law_plain, ad.f__law_like, ad.f__law_slope_of, ad.f__law_mirror, ad.f__law_deed, ad.f__law_is_slope, ad.f__law_slopes, ad.f__law_word, ad.f__law_drawn, ad.f__law_spoilt, ad.f__law_faceless, ad.f_law].getD f 0, fun _ => [], tx.xf⟩
def con (ad : Ad) (k : Nat) : Addr := [ad.FACE_AXES, ad.BAND].getD k 0
structure Txt (K : PySem.W.Frag) (mg : Str → Option Value) (ad : Ad) : Prop where
  b_tuple : mg "tuple" = none
  b_abs : mg "abs" = none
  b_isinstance : mg "isinstance" = none
  b_max : mg "max" = none
  b_list : mg "list" = none
  b_bool : mg "bool" = none
  b_sorted : mg "sorted" = none
  b_int : mg "int" = none
  b_len : mg "len" = none
  b_repr : mg "repr" = none
  m_gcd : mg "gcd" = some (.builtin "math.gcd")
  m_FACE_AXES : mg "FACE_AXES" = some (.ref ad.FACE_AXES)
  i_FACE_AXES : ∀ p G, Is (kp (kt K ad) p) G (.tup [(.tup [(.int 2), (.int 1)]), (.tup [(.int 1), (.int 2)]), (.tup [(.int 0), (.int 2)]), (.tup [(.int 2), (.int 0)]), (.tup [(.int 1), (.int 0)]), (.tup [(.int 0), (.int 1)])]) (.ref ad.FACE_AXES)
  m_STEEPEST : ∃ t, mg "STEEPEST" = some (.int 9 t)
  m_MOST_NUMBER : ∃ t, mg "MOST_NUMBER" = some (.int 10000 t)
  m_BAND : mg "BAND" = some (.ref ad.BAND)
  i_BAND : ∀ p G, Is (kp (kt K ad) p) G (.tup [(.int 1), (.int 0)]) (.ref ad.BAND)
  m_ParcelError : mg "ParcelError" = some (.ref ad.ParcelError)
  m_BadFace : mg "BadFace" = some (.ref ad.BadFace)
  m_BadSlope : mg "BadSlope" = some (.ref ad.BadSlope)
  m_BadDirection : mg "BadDirection" = some (.ref ad.BadDirection)
  o_BadDirection : OexC K ad.BadDirection
  i_BadDirection : PySem.W.findIn K (.ref ad.BadDirection) "__init__" = some (some (.ref ad.BadDirection___init__))
  t_BadDirection : PySem.W.typeIn K (.ref ad.BadDirection___init__) = some (.type "function")
  F_BadDirection___init__ : Fun K "__init__" "BadDirection.__init__" s_BadDirection___init__ ad.BadDirection___init__ ad.fd_BadDirection___init__
  bi_BadDirection : L2.Binds K ad.fd_BadDirection___init__ ["self", "what"] []
  x_BadDirection : XfC K ad.BadDirection
  xn_BadDirection_what : PySem.W.findIn K (.ref ad.BadDirection) "what" = some none
  o_BadFace : OexC K ad.BadFace
  i_BadFace : PySem.W.findIn K (.ref ad.BadFace) "__init__" = some (some (.ref ad.BadFace___init__))
  t_BadFace : PySem.W.typeIn K (.ref ad.BadFace___init__) = some (.type "function")
  F_BadFace___init__ : Fun K "__init__" "BadFace.__init__" s_BadFace___init__ ad.BadFace___init__ ad.fd_BadFace___init__
  bi_BadFace : L2.Binds K ad.fd_BadFace___init__ ["self", "face"] []
  x_BadFace : XfC K ad.BadFace
  xn_BadFace_face : PySem.W.findIn K (.ref ad.BadFace) "face" = some none
  o_BadSlope : OexC K ad.BadSlope
  i_BadSlope : PySem.W.findIn K (.ref ad.BadSlope) "__init__" = some (some (.ref ad.BadSlope___init__))
  t_BadSlope : PySem.W.typeIn K (.ref ad.BadSlope___init__) = some (.type "function")
  F_BadSlope___init__ : Fun K "__init__" "BadSlope.__init__" s_BadSlope___init__ ad.BadSlope___init__ ad.fd_BadSlope___init__
  bi_BadSlope : L2.Binds K ad.fd_BadSlope___init__ ["self", "slope"] []
  x_BadSlope : XfC K ad.BadSlope
  xn_BadSlope_slope : PySem.W.findIn K (.ref ad.BadSlope) "slope" = some none
  e_BadDirection_BadDirection : PySem.W.exmOne K (.ref ad.BadDirection) (.ref ad.BadDirection) = some true
  e_BadDirection_BadFace : PySem.W.exmOne K (.ref ad.BadDirection) (.ref ad.BadFace) = some false
  e_BadDirection_BadSlope : PySem.W.exmOne K (.ref ad.BadDirection) (.ref ad.BadSlope) = some false
  e_BadDirection_ParcelError : PySem.W.exmOne K (.ref ad.BadDirection) (.ref ad.ParcelError) = some true
  e_BadFace_BadDirection : PySem.W.exmOne K (.ref ad.BadFace) (.ref ad.BadDirection) = some false
  e_BadFace_BadFace : PySem.W.exmOne K (.ref ad.BadFace) (.ref ad.BadFace) = some true
  e_BadFace_BadSlope : PySem.W.exmOne K (.ref ad.BadFace) (.ref ad.BadSlope) = some false
  e_BadFace_ParcelError : PySem.W.exmOne K (.ref ad.BadFace) (.ref ad.ParcelError) = some true
  e_BadSlope_BadDirection : PySem.W.exmOne K (.ref ad.BadSlope) (.ref ad.BadDirection) = some false
  e_BadSlope_BadFace : PySem.W.exmOne K (.ref ad.BadSlope) (.ref ad.BadFace) = some false
  e_BadSlope_BadSlope : PySem.W.exmOne K (.ref ad.BadSlope) (.ref ad.BadSlope) = some true
  e_BadSlope_ParcelError : PySem.W.exmOne K (.ref ad.BadSlope) (.ref ad.ParcelError) = some true
  m_is_whole : mg "is_whole" = some (.ref ad.f_is_whole)
  k_is_whole : PySem.W.keepIn K (.ref ad.f_is_whole) = true
  F_is_whole : FunD K "is_whole" "is_whole" (defArgs s_is_whole) (defBody s_is_whole) (defScope s_is_whole) [.non, .non] [] ad.f_is_whole ad.fd_is_whole
  m_is_sequence : mg "is_sequence" = some (.ref ad.f_is_sequence)
  k_is_sequence : PySem.W.keepIn K (.ref ad.f_is_sequence) = true
  F_is_sequence : Fun K "is_sequence" "is_sequence" s_is_sequence ad.f_is_sequence ad.fd_is_sequence
  b_is_sequence : L2.Binds K ad.fd_is_sequence ["thing", "low", "high"] []
  m_check_face : mg "check_face" = some (.ref ad.f_check_face)
  k_check_face : PySem.W.keepIn K (.ref ad.f_check_face) = true
  F_check_face : Fun K "check_face" "check_face" s_check_face ad.f_check_face ad.fd_check_face
  b_check_face : L2.Binds K ad.fd_check_face ["face"] []
  m_face_axes : mg "face_axes" = some (.ref ad.f_face_axes)
  k_face_axes : PySem.W.keepIn K (.ref ad.f_face_axes) = true
  F_face_axes : Fun K "face_axes" "face_axes" s_face_axes ad.f_face_axes ad.fd_face_axes
  b_face_axes : L2.Binds K ad.fd_face_axes ["face"] []
  m_framed : mg "framed" = some (.ref ad.f_framed)
  k_framed : PySem.W.keepIn K (.ref ad.f_framed) = true
  F_framed : Fun K "framed" "framed" s_framed ad.f_framed ad.fd_framed
  b_framed : L2.Binds K ad.fd_framed ["face", "triple"] []
  m_check_slope : mg "check_slope" = some (.ref ad.f_check_slope)
  k_check_slope : PySem.W.keepIn K (.ref ad.f_check_slope) = true
  F_check_slope : FunD K "check_slope" "check_slope" (defArgs s_check_slope) (defBody s_check_slope) (defScope s_check_slope) [.bl false] [] ad.f_check_slope ad.fd_check_slope
  m_mirrored_slope : mg "mirrored_slope" = some (.ref ad.f_mirrored_slope)
  k_mirrored_slope : PySem.W.keepIn K (.ref ad.f_mirrored_slope) = true
  F_mirrored_slope : Fun K "mirrored_slope" "mirrored_slope" s_mirrored_slope ad.f_mirrored_slope ad.fd_mirrored_slope
  b_mirrored_slope : L2.Binds K ad.fd_mirrored_slope ["slope"] []
  m_check_direction : mg "check_direction" = some (.ref ad.f_check_direction)
  k_check_direction : PySem.W.keepIn K (.ref ad.f_check_direction) = true
  F_check_direction : Fun K "check_direction" "check_direction" s_check_direction ad.f_check_direction ad.fd_check_direction
  b_check_direction : L2.Binds K ad.fd_check_direction ["face", "direction"] []
  m_unframed : mg "unframed" = some (.ref ad.f_unframed)
  k_unframed : PySem.W.keepIn K (.ref ad.f_unframed) = true
  F_unframed : Fun K "unframed" "unframed" s_unframed ad.f_unframed ad.fd_unframed
  b_unframed : L2.Binds K ad.fd_unframed ["face", "first", "second"] []
  m_quarter_turns : mg "quarter_turns" = some (.ref ad.f_quarter_turns)
  k_quarter_turns : PySem.W.keepIn K (.ref ad.f_quarter_turns) = true
  F_quarter_turns : Fun K "quarter_turns" "quarter_turns" s_quarter_turns ad.f_quarter_turns ad.fd_quarter_turns
  b_quarter_turns : L2.Binds K ad.fd_quarter_turns ["first", "second"] []
  m_directions_on : mg "directions_on" = some (.ref ad.f_directions_on)
  k_directions_on : PySem.W.keepIn K (.ref ad.f_directions_on) = true
  F_directions_on : Fun K "directions_on" "directions_on" s_directions_on ad.f_directions_on ad.fd_directions_on
  b_directions_on : L2.Binds K ad.fd_directions_on ["face", "slope"] []
  m_slope_of : mg "slope_of" = some (.ref ad.f_slope_of)
  k_slope_of : PySem.W.keepIn K (.ref ad.f_slope_of) = true
  F_slope_of : Fun K "slope_of" "slope_of" s_slope_of ad.f_slope_of ad.fd_slope_of
  b_slope_of : L2.Binds K ad.fd_slope_of ["face", "direction"] []
  m_slope_on : mg "slope_on" = some (.ref ad.f_slope_on)
  k_slope_on : PySem.W.keepIn K (.ref ad.f_slope_on) = true
  F_slope_on : Fun K "slope_on" "slope_on" s_slope_on ad.f_slope_on ad.fd_slope_on
  b_slope_on : L2.Binds K ad.fd_slope_on ["face", "direction"] []
  m_reversed_direction : mg "reversed_direction" = some (.ref ad.f_reversed_direction)
  k_reversed_direction : PySem.W.keepIn K (.ref ad.f_reversed_direction) = true
  F_reversed_direction : Fun K "reversed_direction" "reversed_direction" s_reversed_direction ad.f_reversed_direction ad.fd_reversed_direction
  b_reversed_direction : L2.Binds K ad.fd_reversed_direction ["direction"] []
  m_back_of : mg "back_of" = some (.ref ad.f_back_of)
  k_back_of : PySem.W.keepIn K (.ref ad.f_back_of) = true
  F_back_of : Fun K "back_of" "back_of" s_back_of ad.f_back_of ad.fd_back_of
  b_back_of : L2.Binds K ad.fd_back_of ["face", "direction"] []
  m_left_of : mg "left_of" = some (.ref ad.f_left_of)
  k_left_of : PySem.W.keepIn K (.ref ad.f_left_of) = true
  F_left_of : Fun K "left_of" "left_of" s_left_of ad.f_left_of ad.fd_left_of
  b_left_of : L2.Binds K ad.fd_left_of ["face", "direction"] []
  m_outward_step : mg "outward_step" = some (.ref ad.f_outward_step)
  k_outward_step : PySem.W.keepIn K (.ref ad.f_outward_step) = true
  F_outward_step : Fun K "outward_step" "outward_step" s_outward_step ad.f_outward_step ad.fd_outward_step
  b_outward_step : L2.Binds K ad.fd_outward_step ["beside", "direction"] []
  m__law_hand : mg "_law_hand" = some (.ref ad.f__law_hand)
  k__law_hand : PySem.W.keepIn K (.ref ad.f__law_hand) = true
  F__law_hand : Fun K "_law_hand" "_law_hand" s__law_hand ad.f__law_hand ad.fd__law_hand
  b__law_hand : L2.Binds K ad.fd__law_hand ["_law_script"] []
  m__law_mixed : mg "_law_mixed" = some (.ref ad.f__law_mixed)
  k__law_mixed : PySem.W.keepIn K (.ref ad.f__law_mixed) = true
  F__law_mixed : Fun K "_law_mixed" "_law_mixed" s__law_mixed ad.f__law_mixed ad.fd__law_mixed
  b__law_mixed : L2.Binds K ad.fd__law_mixed ["_law_number", "_law_turn"] []
  m__law_take : mg "_law_take" = some (.ref ad.f__law_take)
  k__law_take : PySem.W.keepIn K (.ref ad.f__law_take) = true
  F__law_take : Fun K "_law_take" "_law_take" s__law_take ad.f__law_take ad.fd__law_take
  b__law_take : L2.Binds K ad.fd__law_take ["_law_hand_here", "_law_many"] []
  m__law_common : mg "_law_common" = some (.ref ad.f__law_common)
  k__law_common : PySem.W.keepIn K (.ref ad.f__law_common) = true
  F__law_common : Fun K "_law_common" "_law_common" s__law_common ad.f__law_common ad.fd__law_common
  b__law_common : L2.Binds K ad.fd__law_common ["_law_one", "_law_other"] []
  m__law_axes : mg "_law_axes" = some (.ref ad.f__law_axes)
  k__law_axes : PySem.W.keepIn K (.ref ad.f__law_axes) = true
  F__law_axes : Fun K "_law_axes" "_law_axes" s__law_axes ad.f__law_axes ad.fd__law_axes
  b__law_axes : L2.Binds K ad.fd__law_axes ["_law_face"] []
  m__law_steps : mg "_law_steps" = some (.ref ad.f__law_steps)
  k__law_steps : PySem.W.keepIn K (.ref ad.f__law_steps) = true
  F__law_steps : Fun K "_law_steps" "_law_steps" s__law_steps ad.f__law_steps ad.fd__law_steps
  b__law_steps : L2.Binds K ad.fd__law_steps ["_law_face", "_law_first", "_law_second"] []
  m__law_four : mg "_law_four" = some (.ref ad.f__law_four)
  k__law_four : PySem.W.keepIn K (.ref ad.f__law_four) = true
  F__law_four : Fun K "_law_four" "_law_four" s__law_four ad.f__law_four ad.fd__law_four
  b__law_four : L2.Binds K ad.fd__law_four ["_law_face", "_law_slope"] []
  m__law_out : mg "_law_out" = some (.ref ad.f__law_out)
  k__law_out : PySem.W.keepIn K (.ref ad.f__law_out) = true
  F__law_out : Fun K "_law_out" "_law_out" s__law_out ad.f__law_out ad.fd__law_out
  b__law_out : L2.Binds K ad.fd__law_out ["_law_beside", "_law_steps_here"] []
  m__law_tuples : mg "_law_tuples" = some (.ref ad.f__law_tuples)
  k__law_tuples : PySem.W.keepIn K (.ref ad.f__law_tuples) = true
  F__law_tuples : Fun K "_law_tuples" "_law_tuples" s__law_tuples ad.f__law_tuples ad.fd__law_tuples
  b__law_tuples : L2.Binds K ad.fd__law_tuples ["_law_thing"] []
  m__law_odd : mg "_law_odd" = some (.ref ad.f__law_odd)
  k__law_odd : PySem.W.keepIn K (.ref ad.f__law_odd) = true
  F__law_odd : Fun K "_law_odd" "_law_odd" s__law_odd ad.f__law_odd ad.fd__law_odd
  b__law_odd : L2.Binds K ad.fd__law_odd ["_law_hand_here", "_law_high"] []
  m__law_rid : mg "_law_rid" = some (.ref ad.f__law_rid)
  k__law_rid : PySem.W.keepIn K (.ref ad.f__law_rid) = true
  F__law_rid : Fun K "_law_rid" "_law_rid" s__law_rid ad.f__law_rid ad.fd__law_rid
  b__law_rid : L2.Binds K ad.fd__law_rid ["_law_hand_here"] []
  m__law_whole : mg "_law_whole" = some (.ref ad.f__law_whole)
  k__law_whole : PySem.W.keepIn K (.ref ad.f__law_whole) = true
  F__law_whole : Fun K "_law_whole" "_law_whole" s__law_whole ad.f__law_whole ad.fd__law_whole
  b__law_whole : L2.Binds K ad.fd__law_whole ["_law_thing", "_law_low", "_law_high"] []
  m__law_shaped : mg "_law_shaped" = some (.ref ad.f__law_shaped)
  k__law_shaped : PySem.W.keepIn K (.ref ad.f__law_shaped) = true
  F__law_shaped : Fun K "_law_shaped" "_law_shaped" s__law_shaped ad.f__law_shaped ad.fd__law_shaped
  b__law_shaped : L2.Binds K ad.fd__law_shaped ["_law_hand_here", "_law_items"] []
  m__law_plain : mg "_law_plain" = some (.ref ad.f__law_plain)
  k__law_plain : PySem.W.keepIn K (.ref ad.f__law_plain) = true
  F__law_plain : Fun K "_law_plain" "_law_plain" s__law_plain ad.f__law_plain ad.fd__law_plain
  b__law_plain : L2.Binds K ad.fd__law_plain ["_law_thing"] []
  m__law_like : mg "_law_like" = some (.ref ad.f__law_like)
  k__law_like : PySem.W.keepIn K (.ref ad.f__law_like) = true
  F__law_like : Fun K "_law_like" "_law_like" s__law_like ad.f__law_like ad.fd__law_like
  b__law_like : L2.Binds K ad.fd__law_like ["_law_one", "_law_other"] []
  m__law_slope_of : mg "_law_slope_of" = some (.ref ad.f__law_slope_of)
  k__law_slope_of : PySem.W.keepIn K (.ref ad.f__law_slope_of) = true
  F__law_slope_of : Fun K "_law_slope_of" "_law_slope_of" s__law_slope_of ad.f__law_slope_of ad.fd__law_slope_of
  b__law_slope_of : L2.Binds K ad.fd__law_slope_of ["_law_slope", "_law_band"] []
  m__law_mirror : mg "_law_mirror" = some (.ref ad.f__law_mirror)
  k__law_mirror : PySem.W.keepIn K (.ref ad.f__law_mirror) = true
  F__law_mirror : Fun K "_law_mirror" "_law_mirror" s__law_mirror ad.f__law_mirror ad.fd__law_mirror
  b__law_mirror : L2.Binds K ad.fd__law_mirror ["_law_slope"] []
  m__law_deed : mg "_law_deed" = some (.ref ad.f__law_deed)
  k__law_deed : PySem.W.keepIn K (.ref ad.f__law_deed) = true
  F__law_deed : Fun K "_law_deed" "_law_deed" s__law_deed ad.f__law_deed ad.fd__law_deed
  b__law_deed : L2.Binds K ad.fd__law_deed ["_law_deed_here", "_law_face", "_law_thing"] []
  m__law_is_slope : mg "_law_is_slope" = some (.ref ad.f__law_is_slope)
  k__law_is_slope : PySem.W.keepIn K (.ref ad.f__law_is_slope) = true
  F__law_is_slope : Fun K "_law_is_slope" "_law_is_slope" s__law_is_slope ad.f__law_is_slope ad.fd__law_is_slope
  b__law_is_slope : L2.Binds K ad.fd__law_is_slope ["_law_slope", "_law_band"] []
  m__law_slopes : mg "_law_slopes" = some (.ref ad.f__law_slopes)
  k__law_slopes : PySem.W.keepIn K (.ref ad.f__law_slopes) = true
  F__law_slopes : Fun K "_law_slopes" "_law_slopes" s__law_slopes ad.f__law_slopes ad.fd__law_slopes
  b__law_slopes : L2.Binds K ad.fd__law_slopes ["_law_hand_here"] []
  m__law_word : mg "_law_word" = some (.ref ad.f__law_word)
  k__law_word : PySem.W.keepIn K (.ref ad.f__law_word) = true
  F__law_word : Fun K "_law_word" "_law_word" s__law_word ad.f__law_word ad.fd__law_word
  b__law_word : L2.Binds K ad.fd__law_word ["_law_face", "_law_steps_here"] []
  m__law_drawn : mg "_law_drawn" = some (.ref ad.f__law_drawn)
  k__law_drawn : PySem.W.keepIn K (.ref ad.f__law_drawn) = true
  F__law_drawn : Fun K "_law_drawn" "_law_drawn" s__law_drawn ad.f__law_drawn ad.fd__law_drawn
  b__law_drawn : L2.Binds K ad.fd__law_drawn ["_law_hand_here", "_law_face"] []
  m__law_spoilt : mg "_law_spoilt" = some (.ref ad.f__law_spoilt)
  k__law_spoilt : PySem.W.keepIn K (.ref ad.f__law_spoilt) = true
  F__law_spoilt : Fun K "_law_spoilt" "_law_spoilt" s__law_spoilt ad.f__law_spoilt ad.fd__law_spoilt
  b__law_spoilt : L2.Binds K ad.fd__law_spoilt ["_law_hand_here", "_law_face", "_law_steps_here"] []
  m__law_faceless : mg "_law_faceless" = some (.ref ad.f__law_faceless)
  k__law_faceless : PySem.W.keepIn K (.ref ad.f__law_faceless) = true
  F__law_faceless : Fun K "_law_faceless" "_law_faceless" s__law_faceless ad.f__law_faceless ad.fd__law_faceless
  b__law_faceless : L2.Binds K ad.fd__law_faceless ["_law_hand_here"] []
  m_law : mg "law" = some (.ref ad.f_law)
  k_law : PySem.W.keepIn K (.ref ad.f_law) = true
  F_law : Fun K "law" "law" s_law ad.f_law ad.fd_law
  b_law : L2.Binds K ad.fd_law ["_law_script"] []
  bd_check_slope_2 : ∃ ds : List Value, Vals [] ds ∧ L2.Binds K ad.fd_check_slope ["slope", "band"] ds
  bd_is_whole_3 : ∃ ds : List Value, Vals [] ds ∧ L2.Binds K ad.fd_is_whole ["thing", "low", "high"] ds
  kb_check_slope_1_band : ∃ (g : List Value → List Value → List Value) (gV : List V → List V → List V), KBn K ad.fd_check_slope ["slope", "band"] 1 ["band"] g gV ∧ ∀ x z, gV [x] [z] = [x, z]
  bd_check_slope_1 : ∃ ds : List Value, Vals [.bl false] ds ∧ L2.Binds K ad.fd_check_slope ["slope", "band"] ds
variable {K : PySem.W.Frag} {mg : Str → Option Value} {ad : Ad}
theorem txok (T : Txt K mg ad) : TxOk (kt K ad) tx (con ad) := by
  refine ⟨fun p k G => ?_, rfl, fun a b r h => ?_⟩
  · match k with
    | 0 => exact T.i_FACE_AXES p G
    | 1 => exact T.i_BAND p G
    | k + 2 => exact (rfl : V.ref 0 = V.ref 0)
  · have z := lookup_mem (show subs.lookup (a, b) = some r from h)
    simp only [subs, List.mem_cons, List.not_mem_nil, or_false, Prod.mk.injEq] at z
    rcases z with ⟨⟨rfl, rfl⟩, rfl⟩ | ⟨⟨rfl, rfl⟩, rfl⟩ | ⟨⟨rfl, rfl⟩, rfl⟩ | ⟨⟨rfl, rfl⟩, rfl⟩ | ⟨⟨rfl, rfl⟩, rfl⟩ | ⟨⟨rfl, rfl⟩, rfl⟩ | ⟨⟨rfl, rfl⟩, rfl⟩ | ⟨⟨rfl, rfl⟩, rfl⟩ | ⟨⟨rfl, rfl⟩, rfl⟩ | ⟨⟨rfl, rfl⟩, rfl⟩ | ⟨⟨rfl, rfl⟩, rfl⟩ | ⟨⟨rfl, rfl⟩, rfl⟩
    · exact T.e_BadDirection_BadDirection
    · exact T.e_BadDirection_BadFace
    · exact T.e_BadDirection_BadSlope
    · exact T.e_BadDirection_ParcelError
    · exact T.e_BadFace_BadDirection
    · exact T.e_BadFace_BadFace
    · exact T.e_BadFace_BadSlope
    · exact T.e_BadFace_ParcelError
    · exact T.e_BadSlope_BadDirection
    · exact T.e_BadSlope_BadFace
    · exact T.e_BadSlope_BadSlope
    · exact T.e_BadSlope_ParcelError
theorem init_BadDirection {Pg : Program} {w : World} {base : Heap} (T : Txt K mg ad) : FnOk Pg w K mg base CX0 1 ad.BadDirection___init__ ad.fd_BadDirection___init__ ["self", "what"] (spEx ad.BadDirection (mkx (tx.xf 3)) 1) := by
  refine T.F_BadDirection___init__.ok sc_BadDirection___init__ (fun vs H Q E h => ?_) (fun cdv A outer s H vs Q E hr h => ?_)
  · obtain ⟨a, ws, rfl, hw, _⟩ := h
    rw [List.length_cons, hw]; rfl
  · obtain ⟨a, ws, rfl, hw, ha, k⟩ := h
    match ws, hw with
    | [y0], _ =>
      refine ⟨_, (pss_one (ps_ost (pv 0) (pv 1))), ?_⟩
      refine ⟨_, rfl, _, rfl, a, ad.BadDirection, rfl, T.o_BadDirection, T.xn_BadDirection_what, .inl ⟨ha, fun dx nd da => ?_⟩⟩
      refine k dx _ nd da upd_same ?_ fun b h1 h2 => ?_
      · rw [upd_ne da, upd_same]; rfl
      · rw [upd_ne h1, upd_ne h2]
theorem init_BadFace {Pg : Program} {w : World} {base : Heap} (T : Txt K mg ad) : FnOk Pg w K mg base CX0 1 ad.BadFace___init__ ad.fd_BadFace___init__ ["self", "face"] (spEx ad.BadFace (mkx (tx.xf 1)) 1) := by
  refine T.F_BadFace___init__.ok sc_BadFace___init__ (fun vs H Q E h => ?_) (fun cdv A outer s H vs Q E hr h => ?_)
  · obtain ⟨a, ws, rfl, hw, _⟩ := h
    rw [List.length_cons, hw]; rfl
  · obtain ⟨a, ws, rfl, hw, ha, k⟩ := h
    match ws, hw with
    | [y0], _ =>
      refine ⟨_, (pss_one (ps_ost (pv 0) (pv 1))), ?_⟩
      refine ⟨_, rfl, _, rfl, a, ad.BadFace, rfl, T.o_BadFace, T.xn_BadFace_face, .inl ⟨ha, fun dx nd da => ?_⟩⟩
      refine k dx _ nd da upd_same ?_ fun b h1 h2 => ?_
      · rw [upd_ne da, upd_same]; rfl
      · rw [upd_ne h1, upd_ne h2]
theorem init_BadSlope {Pg : Program} {w : World} {base : Heap} (T : Txt K mg ad) : FnOk Pg w K mg base CX0 1 ad.BadSlope___init__ ad.fd_BadSlope___init__ ["self", "slope"] (spEx ad.BadSlope (mkx (tx.xf 2)) 1) := by
  refine T.F_BadSlope___init__.ok sc_BadSlope___init__ (fun vs H Q E h => ?_) (fun cdv A outer s H vs Q E hr h => ?_)
  · obtain ⟨a, ws, rfl, hw, _⟩ := h
    rw [List.length_cons, hw]; rfl
  · obtain ⟨a, ws, rfl, hw, ha, k⟩ := h
    match ws, hw with
    | [y0], _ =>
      refine ⟨_, (pss_one (ps_ost (pv 0) (pv 1))), ?_⟩
      refine ⟨_, rfl, _, rfl, a, ad.BadSlope, rfl, T.o_BadSlope, T.xn_BadSlope_slope, .inl ⟨ha, fun dx nd da => ?_⟩⟩
      refine k dx _ nd da upd_same ?_ fun b h1 h2 => ?_
      · rw [upd_ne da, upd_same]; rfl
      · rw [upd_ne h1, upd_ne h2]
end K04

set_option Elab.async false
set_option linter.all false
namespace Ez
open PySem Tr
/-- holds a function fast, for simp -/
structure Tag {α : Sort _} (f : α) : Type where
/-! ### one step of a run, for simp -/
section
variable {ε ε' α β : Type} {f : α → Tr ε β} {g : ε → Tr ε' α} {h : ε → ε'}
theorem bind_ret {a : α} : (Tr.ret a : Tr ε α).bind f = f a := rfl
theorem bind_exn {a : ε} : (Tr.exn a : Tr ε α).bind f = .exn a := rfl
theorem bind_bad : (Tr.bad : Tr ε α).bind f = .bad := rfl
theorem bind_draw {m : Int} {k : Int → Tr ε α} : (Tr.draw m k).bind f = .draw m fun v => (k v).bind f := rfl
theorem mapX_ret {a : α} : (Tr.ret a : Tr ε α).mapX h = .ret a := rfl
theorem mapX_exn {a : ε} : (Tr.exn a : Tr ε α).mapX h = .exn (h a) := rfl
theorem mapX_bad : (Tr.bad : Tr ε α).mapX h = .bad := rfl
theorem mapX_draw {m : Int} {k : Int → Tr ε α} : (Tr.draw m k).mapX h = .draw m fun v => (k v).mapX h := rfl
theorem noX_ret {a : α} : (Tr.ret a : Tr ε α).noX = .ret a := rfl
theorem noX_exn {a : ε} : (Tr.exn a : Tr ε α).noX = .bad := rfl
theorem noX_bad : (Tr.bad : Tr ε α).noX = .bad := rfl
theorem noX_draw {m : Int} {k : Int → Tr ε α} : (Tr.draw m k).noX = .draw m fun v => (k v).noX := rfl
theorem catch_ret {a : α} : (Tr.ret a : Tr ε α).catchX g = .ret a := rfl
theorem catch_exn {a : ε} : (Tr.exn a : Tr ε α).catchX g = g a := rfl
theorem catch_bad : (Tr.bad : Tr ε α).catchX g = .bad := rfl
theorem catch_draw {m : Int} {k : Int → Tr ε α} : (Tr.draw m k).catchX g = .draw m fun v => (k v).catchX g := rfl
noncomputable def bindT (t : Tr ε α) (f : α → Tr ε β) (_ : Tag f) : Tr ε β := t.bind f
noncomputable def catT (t : Tr ε α) (g : ε → Tr ε' α) (_ : Tag g) : Tr ε' α := t.catchX g
theorem bind_T {t : Tr ε α} : t.bind f = bindT t f ⟨⟩ := rfl
theorem catch_T {t : Tr ε α} : t.catchX g = catT t g ⟨⟩ := rfl
theorem bindT_ret {a : α} {x : Tag f} : bindT (Tr.ret a : Tr ε α) f x = f a := rfl
theorem bindT_exn {a : ε} {x : Tag f} : bindT (Tr.exn a : Tr ε α) f x = .exn a := rfl
theorem bindT_bad {x : Tag f} : bindT (Tr.bad : Tr ε α) f x = .bad := rfl
theorem bindT_draw {m : Int} {k : Int → Tr ε α} {x : Tag f} : bindT (Tr.draw m k) f x = .draw m fun v => bindT (k v) f ⟨⟩ := rfl
theorem catT_ret {a : α} {x : Tag g} : catT (Tr.ret a : Tr ε α) g x = .ret a := rfl
theorem catT_exn {a : ε} {x : Tag g} : catT (Tr.exn a : Tr ε α) g x = g a := rfl
theorem catT_bad {x : Tag g} : catT (Tr.bad : Tr ε α) g x = .bad := rfl
theorem catT_draw {m : Int} {k : Int → Tr ε α} {x : Tag g} : catT (Tr.draw m k) g x = .draw m fun v => catT (k v) g ⟨⟩ := rfl
theorem bind_bind {γ : Type} {t : Tr ε α} {k : β → Tr ε γ} : (t.bind f).bind k = t.bind fun a => (f a).bind k := by induction t with | ret a => rfl | exn e => rfl | bad => rfl | draw m q ih => exact congrArg (Tr.draw m) (funext ih)
theorem mapX_bind {t : Tr ε α} : (t.bind f).mapX h = (t.mapX h).bind fun a => (f a).mapX h := by induction t with | ret a => rfl | exn e => rfl | bad => rfl | draw m q ih => exact congrArg (Tr.draw m) (funext ih)
end
section
variable {Γ : Pgm} {ρ : Vars}
theorem E_var {x0 : Nat} : evalE Γ (.var x0) ρ = ev_var Γ x0  ρ := rfl
theorem E_lit {x0 : D} : evalE Γ (.lit x0) ρ = ev_lit Γ x0  ρ := rfl
theorem E_con {x0 : Nat} : evalE Γ (.con x0) ρ = ev_con Γ x0  ρ := rfl
theorem E_fnv {x0 : Nat} : evalE Γ (.fnv x0) ρ = ev_fnv Γ x0  ρ := rfl
theorem E_clv {x0 : Nat} : evalE Γ (.clv x0) ρ = ev_clv Γ x0  ρ := rfl
theorem E_op {x0 : Op2} {x1 : EE} {x2 : EE} : evalE Γ (.op x0 x1 x2) ρ = ev_op Γ x0 x1 x2 (evalE Γ x1) (evalE Γ x2) ρ := rfl
theorem E_neg {x0 : EE} : evalE Γ (.neg x0) ρ = ev_neg Γ x0 (evalE Γ x0) ρ := rfl
theorem E_and {x0 : EE} {x1 : EE} : evalE Γ (.and x0 x1) ρ = ev_and Γ x0 x1 (evalE Γ x0) (evalE Γ x1) ρ := rfl
theorem E_or {x0 : EE} {x1 : EE} : evalE Γ (.or x0 x1) ρ = ev_or Γ x0 x1 (evalE Γ x0) (evalE Γ x1) ρ := rfl
theorem E_not {x0 : EE} : evalE Γ (.not x0) ρ = ev_not Γ x0 (evalE Γ x0) ρ := rfl
theorem E_notT {x0 : EE} : evalE Γ (.notT x0) ρ = ev_notT Γ x0 (evalE Γ x0) ρ := rfl
theorem E_isN {x0 : EE} : evalE Γ (.isN x0) ρ = ev_isN Γ x0 (evalE Γ x0) ρ := rfl
theorem E_notN {x0 : EE} : evalE Γ (.notN x0) ρ = ev_notN Γ x0 (evalE Γ x0) ρ := rfl
theorem E_tru {x0 : EE} : evalE Γ (.tru x0) ρ = ev_tru Γ x0 (evalE Γ x0) ρ := rfl
theorem E_chain {x0 : Op2} {x1 : Op2} {x2 : EE} {x3 : EE} {x4 : EE} : evalE Γ (.chain x0 x1 x2 x3 x4) ρ = ev_chain Γ x0 x1 x2 x3 x4 (evalE Γ x2) (evalE Γ x3) (evalE Γ x4) ρ := rfl
theorem E_ifx {x0 : EE} {x1 : EE} {x2 : EE} : evalE Γ (.ifx x0 x1 x2) ρ = ev_ifx Γ x0 x1 x2 (evalE Γ x0) (evalE Γ x1) (evalE Γ x2) ρ := rfl
theorem E_nil  : evalE Γ (.nil ) ρ = ev_nil Γ   ρ := rfl
theorem E_cons {x0 : EE} {x1 : EE} : evalE Γ (.cons x0 x1) ρ = ev_cons Γ x0 x1 (evalE Γ x0) (evalE Γ x1) ρ := rfl
theorem E_star {x0 : EE} {x1 : EE} : evalE Γ (.star x0 x1) ρ = ev_star Γ x0 x1 (evalE Γ x0) (evalE Γ x1) ρ := rfl
theorem E_tup {x0 : EE} : evalE Γ (.tup x0) ρ = ev_tup Γ x0 (evalE Γ x0) ρ := rfl
theorem E_lst {x0 : EE} : evalE Γ (.lst x0) ρ = ev_lst Γ x0 (evalE Γ x0) ρ := rfl
theorem E_slc {x0 : EE} {x1 : EE} {x2 : EE} : evalE Γ (.slc x0 x1 x2) ρ = ev_slc Γ x0 x1 x2 (evalE Γ x0) (evalE Γ x1) (evalE Γ x2) ρ := rfl
theorem E_nop  : evalE Γ (.nop ) ρ = ev_nop Γ   ρ := rfl
theorem E_part {x0 : EE} : evalE Γ (.part x0) ρ = ev_part Γ x0 (evalE Γ x0) ρ := rfl
theorem E_call {x0 : Nat} {x1 : Bool} {x2 : List L2.V} {x3 : EE} : evalE Γ (.call x0 x1 x2 x3) ρ = ev_call Γ x0 x1 x2 x3 (evalE Γ x3) ρ := rfl
theorem E_callV {x0 : Nat} {x1 : Bool} {x2 : EE} : evalE Γ (.callV x0 x1 x2) ρ = ev_callV Γ x0 x1 x2 (evalE Γ x2) ρ := rfl
theorem E_take {x0 : EE} : evalE Γ (.take x0) ρ = ev_take Γ x0 (evalE Γ x0) ρ := rfl
theorem E_bi {x0 : Bi} {x1 : EE} : evalE Γ (.bi x0 x1) ρ = ev_bi Γ x0 x1 (evalE Γ x1) ρ := rfl
theorem E_isi {x0 : EE} {x1 : BT} : evalE Γ (.isi x0 x1) ρ = ev_isi Γ x0 x1 (evalE Γ x0) ρ := rfl
theorem E_isi2 {x0 : EE} {x1 : BT} {x2 : BT} : evalE Γ (.isi2 x0 x1 x2) ρ = ev_isi2 Γ x0 x1 x2 (evalE Γ x0) ρ := rfl
theorem E_isC {x0 : EE} {x1 : Nat} : evalE Γ (.isC x0 x1) ρ = ev_isC Γ x0 x1 (evalE Γ x0) ρ := rfl
theorem E_lc {x0 : ItK} {x1 : EE} {x2 : Tg} {x3 : EE} {x4 : EE} {x5 : List Nat} : evalE Γ (.lc x0 x1 x2 x3 x4 x5) ρ = ev_lc Γ x0 x1 x2 x3 x4 x5 (evalE Γ x1) (evalE Γ x3) (evalE Γ x4) ρ := rfl
theorem E_yes  : evalE Γ (.yes ) ρ = ev_yes Γ   ρ := rfl
theorem E_eqR {x0 : Bool} {x1 : EE} {x2 : EE} : evalE Γ (.eqR x0 x1 x2) ρ = ev_eqR Γ x0 x1 x2 (evalE Γ x1) (evalE Γ x2) ρ := rfl
theorem E_xf {x0 : Nat} {x1 : Nat} {x2 : Str} : evalE Γ (.xf x0 x1 x2) ρ = ev_xf Γ x0 x1 x2  ρ := rfl
theorem E_fld {x0 : EE} {x1 : Str} : evalE Γ (.fld x0 x1) ρ = ev_fld Γ x0 x1 (evalE Γ x0) ρ := rfl
theorem E_lenO {x0 : Nat} : evalE Γ (.lenO x0) ρ = ev_lenO Γ x0  ρ := rfl
theorem E_tupO {x0 : Nat} : evalE Γ (.tupO x0) ρ = ev_tupO Γ x0  ρ := rfl
theorem E_ixO {x0 : Nat} {x1 : EE} : evalE Γ (.ixO x0 x1) ρ = ev_ixO Γ x0 x1 (evalE Γ x1) ρ := rfl
theorem S_nop  {x : Option Xn} : evalS Γ (.nop ) x ρ = es_nop Γ   x ρ := rfl
theorem S_seq {x0 : SS} {x1 : SS} {x : Option Xn} : evalS Γ (.seq x0 x1) x ρ = es_seq Γ x0 x1 (evalS Γ x0) (evalS Γ x1) x ρ := rfl
theorem S_asg {x0 : Tg} {x1 : EE} {x : Option Xn} : evalS Γ (.asg x0 x1) x ρ = es_asg Γ x0 x1  x ρ := rfl
theorem S_asgO {x0 : Nat} {x1 : EE} {x : Option Xn} : evalS Γ (.asgO x0 x1) x ρ = es_asgO Γ x0 x1  x ρ := rfl
theorem S_par {x0 : Nat} {x1 : Nat} {x2 : EE} {x : Option Xn} : evalS Γ (.par x0 x1 x2) x ρ = es_par Γ x0 x1 x2  x ρ := rfl
theorem S_app {x0 : Nat} {x1 : EE} {x : Option Xn} : evalS Γ (.app x0 x1) x ρ = es_app Γ x0 x1  x ρ := rfl
theorem S_setO {x0 : Nat} {x1 : EE} {x2 : EE} {x : Option Xn} : evalS Γ (.setO x0 x1 x2) x ρ = es_setO Γ x0 x1 x2  x ρ := rfl
theorem S_ret {x0 : EE} {x : Option Xn} : evalS Γ (.ret x0) x ρ = es_ret Γ x0  x ρ := rfl
theorem S_retN  {x : Option Xn} : evalS Γ (.retN ) x ρ = es_retN Γ   x ρ := rfl
theorem S_ite {x0 : EE} {x1 : SS} {x2 : SS} {x : Option Xn} : evalS Γ (.ite x0 x1 x2) x ρ = es_ite Γ x0 x1 x2 (evalS Γ x1) (evalS Γ x2) x ρ := rfl
theorem S_for {x0 : ItK} {x1 : EE} {x2 : Tg} {x3 : SS} {x : Option Xn} : evalS Γ (.for x0 x1 x2 x3) x ρ = es_for Γ x0 x1 x2 x3 (evalS Γ x3) x ρ := rfl
theorem S_whl {x0 : EE} {x1 : SS} {x : Option Xn} : evalS Γ (.whl x0 x1) x ρ = es_whl Γ x0 x1 (evalS Γ x1) x ρ := rfl
theorem S_rse {x0 : Nat} {x1 : EE} {x : Option Xn} : evalS Γ (.rse x0 x1) x ρ = es_rse Γ x0 x1  x ρ := rfl
theorem S_try {x0 : SS} {x1 : SS} {x : Option Xn} : evalS Γ (.try x0 x1) x ρ = es_try Γ x0 x1 (evalS Γ x0) (evalS Γ x1) x ρ := rfl
theorem S_hnil {x : Option Xn} : evalS Γ .hnil x ρ = .bad := rfl
theorem S_hcons {x0 : Nat} {x1 : Option Nat} {x2 : SS} {x3 : SS} {x : Option Xn} : evalS Γ (.hcons x0 x1 x2 x3) x ρ = es_hcons Γ x0 x1 x2 x3 (evalS Γ x2) (evalS Γ x3) x ρ := rfl
theorem S_drop {x0 : EE} {x : Option Xn} : evalS Γ (.drop x0) x ρ = es_drop Γ x0  x ρ := rfl
theorem S_keep {x0 : Nat} {x1 : SS} {x : Option Xn} : evalS Γ (.keep x0 x1) x ρ = es_keep Γ x0 x1 (evalS Γ x1) x ρ := rfl
theorem S_brk  {x : Option Xn} : evalS Γ (.brk ) x ρ = es_brk Γ   x ρ := rfl
theorem S_cnt  {x : Option Xn} : evalS Γ (.cnt ) x ρ = es_cnt Γ   x ρ := rfl
end
theorem run_eq (T : Text) (n f : Nat) (ds : List D) : T.run (n + 1) f ds = match T.df f with | some d => runD (T.pgm n) d ds | none => .bad := rfl
theorem pgm_call (T : Text) (n f : Nat) (ds : List D) : (T.pgm n).call f ds = T.run n f ds := rfl
theorem pgm_con (T : Text) (n k : Nat) : (T.pgm n).con k = T.con k := rfl
theorem pgm_fld (T : Text) (n k : Nat) : (T.pgm n).fld k = T.fld k := rfl
theorem pgm_xf (T : Text) (n k : Nat) : (T.pgm n).xf k = T.xf k := rfl
theorem pgm_sub (T : Text) (n a b : Nat) : (T.pgm n).sub a b = T.sub a b := rfl
theorem pgm_most (T : Text) (n : Nat) : (T.pgm n).most = T.most := rfl
theorem pgm_ok (T : Text) (n a : Nat) : (T.pgm n).ok a = T.ok a := rfl
end Ez

set_option Elab.async false
set_option linter.all false
namespace Ez
open PySem Tr
/-! ### what is so at all leaves -/
namespace Tr
variable {ε α : Type}
/-- all leaves are returns that hold P: asked of all draws below a small bound -/
def chk (P : α → Bool) (X : ε → Bool) : Tr ε α → Bool
  | ret a => P a
  | exn e => X e
  | bad => false
  | draw m k => decide (0 < m) && decide (m ≤ 1000) && (List.range m.toNat).all fun v => chk P X (k v)
theorem chk_all {P : α → Bool} {X : ε → Bool} : ∀ {t : Tr ε α}, chk P X t = true → All True (fun a => P a = true) (fun e => X e = true) t
  | ret a, h => h
  | exn e, h => h
  | bad, h => by cases h
  | draw m k, h => by
    simp only [chk, Bool.and_eq_true, decide_eq_true_eq, List.all_eq_true, List.mem_range] at h
    obtain ⟨⟨h0, h1⟩, h2⟩ := h
    have b : m.natAbs < 2 ^ 8000 := Nat.lt_of_lt_of_le (show m.natAbs < 2 ^ 10 by rw [show (2:Nat) ^ 10 = 1024 from rfl]; omega) (Nat.pow_le_pow_right (by decide) (by decide))
    refine ⟨trivial, h0, b, fun v v0 v1 => ?_⟩
    have := h2 v.toNat (by omega)
    rw [Int.toNat_of_nonneg v0] at this
    exact chk_all this
/-- the one return -/
theorem of_chk {P : α → Bool} {X : ε → Bool} {t : Tr ε α} (h : chk P X t = true) (hX : ∀ e, X e = false) : All True (fun a => P a = true) (fun _ => False) t := All.mono (fun _ z => z) (fun e z => by rw [hX e] at z; cases z) (chk_all h)
def only (P : α → Bool) : Tr ε α → Bool
  | ret a => P a
  | _ => false
theorem only_ret {P : α → Bool} : ∀ {t : Tr ε α}, only P t = true → ∃ a, t = ret a ∧ P a = true
  | ret a, h => ⟨a, rfl, h⟩
end Tr
mutual
def deq : D → D → Bool
  | .int a, .int b => decide (a = b)
  | .bl a, .bl b => decide (a = b)
  | .non, .non => true
  | .str a, .str b => decide (a = b)
  | .tup a, .tup b => deqL a b
  | .lst a, .lst b => deqL a b
  | _, _ => false
def deqL : List D → List D → Bool
  | [], [] => true
  | x :: xs, y :: ys => deq x y && deqL xs ys
  | _, _ => false
end
mutual
theorem deq_eq : ∀ {a b : D}, deq a b = true → a = b
  | .int a, b, h => by cases b <;> simp_all [deq]
  | .bl a, b, h => by cases b <;> simp_all [deq]
  | .non, b, h => by cases b <;> simp_all [deq]
  | .str a, b, h => by cases b <;> simp_all [deq]
  | .tup a, b, h => by
    cases b <;> simp only [deq, Bool.false_eq_true] at h
    exact congrArg D.tup (deqL_eq h)
  | .lst a, b, h => by
    cases b <;> simp only [deq, Bool.false_eq_true] at h
    exact congrArg D.lst (deqL_eq h)
theorem deqL_eq : ∀ {a b : List D}, deqL a b = true → a = b
  | [], b, h => by cases b <;> simp_all [deqL]
  | x :: xs, [], h => by simp [deqL] at h
  | x :: xs, y :: ys, h => by
    simp only [deqL, Bool.and_eq_true] at h
    rw [deq_eq h.1, deqL_eq h.2]
end
theorem ret_of {t : R} {d : D} (h : t.only (fun x => deq x d) = true) : t = .ret d := by
  obtain ⟨a, e, p⟩ := only_ret h
  rw [e, deq_eq p]
/-- what a walk leaves -/
def Fl.goes (I : Vars → Prop) : Fl → Prop
  | .nx ρ => I ρ
  | .ct ρ => I ρ
  | .bk ρ => I ρ
  | .rt _ _ => False
def Fl.gone (I : Vars → Prop) : Fl → Prop
  | .nx ρ => I ρ
  | _ => False
theorem forGo_inv {I : Vars → Prop} {hd : Prop} {X : Xn × Vars → Prop} {f : D → Vars → RS} : ∀ {l : List D} {ρ : Vars}, (∀ x ρ, x ∈ l → I ρ → All hd (Fl.goes I) X (f x ρ)) → I ρ → All hd (Fl.gone I) X (forGo f l ρ)
  | [], ρ, _, h => h
  | x :: xs, ρ, H, h => by
    refine All.to_bind (All.mono ?_ (fun _ z => z) (H x ρ (by simp) h))
    intro fl hf
    have H' : ∀ y ρ, y ∈ xs → I ρ → All hd (Fl.goes I) X (f y ρ) := fun y ρ m => H y ρ (List.mem_cons_of_mem _ m)
    cases fl with
    | nx ρ' => exact forGo_inv H' hf
    | ct ρ' => exact forGo_inv H' hf
    | bk ρ' => exact hf
    | rt d ρ' => exact hf.elim
theorem mem_rngL : ∀ {n : Nat} {lo : Int} {x : D}, x ∈ rngL lo n → ∃ i : Int, x = .int i ∧ lo ≤ i ∧ i < lo + n
  | 0, lo, x, h => by cases h
  | n + 1, lo, x, h => by
    simp only [rngL, List.mem_cons] at h
    rcases h with rfl | h
    · exact ⟨lo, rfl, by omega, by omega⟩
    · obtain ⟨i, e, a, b⟩ := mem_rngL h
      exact ⟨i, e, by omega, by omega⟩
end Ez

set_option Elab.async false
set_option linter.all false
namespace Ez
open PySem Tr
/-! ### a body statement by statement -/
variable {hd : Prop} {Γ : Pgm} {ρ : Vars} {a b : SS}
theorem All.seq {Q : Fl → Prop} {X : Xn × Vars → Prop} (h : All hd (fun fl => ∃ ρ', fl = .nx ρ' ∧ All hd Q X (evalS Γ b none ρ')) X (evalS Γ a none ρ)) : All hd Q X (evalS Γ (.seq a b) none ρ) := by
  rw [S_seq]
  refine All.to_bind (All.mono ?_ (fun _ z => z) h)
  rintro fl ⟨ρ', rfl, z⟩
  exact z
theorem all_ret {ε α : Type} {P : α → Prop} {X : ε → Prop} {a : α} : All hd P X (.ret a) = P a := rfl
/-- a def that only returns -/
theorem All.runD {Q : D → Prop} {d : Df} {ds : List D} (n : ds.length = d.ps) (h : All hd (fun fl => ∃ x ρ', fl = .rt x ρ' ∧ Q x) (fun _ => False) (evalS Γ d.body none (startD d ds))) : All hd Q (fun _ => False) (runD Γ d ds) := by
  rw [Ez.runD, if_pos n]
  refine All.to_mapX (All.to_bind (All.mono ?_ (fun _ z => z) h))
  rintro fl ⟨x, ρ', rfl, z⟩
  exact z
theorem All.drawI {ε α : Type} {m : Int} {k : Int → Tr ε α} {P : α → Prop} {X : ε → Prop} (m0 : 0 < m) (m1 : m ≤ 100000) (h : ∀ v, 0 ≤ v → v < m → All True P X (k v)) : All True P X (.draw m k) :=
  ⟨trivial, m0, Nat.lt_of_lt_of_le (show m.natAbs < 2 ^ 20 by rw [show (2 : Nat) ^ 20 = 1048576 from rfl]; omega) (Nat.pow_le_pow_right (by decide) (by decide)), h⟩
theorem o2_eq_int {a b : Int} : o2_eq (.int a) (.int b) = .ret (.bl (decide (a = b))) := by
  have : D.eqv (.int a) (.int b) = decide (a = b) := by
    by_cases h : a = b <;> simp [D.eqv, D.py, PyData.eqv, h]
  have c : ((D.int a).cmp && (D.int b).cmp) = true := rfl
  rw [o2_eq, if_pos c, this]
theorem All.bnd {ε α β : Type} {t : Tr ε α} {f : α → Tr ε β} {P : α → Prop} {Q : β → Prop} {X Y : ε → Prop} (h : All hd P Y t) (k : ∀ a, P a → All hd Q X (f a)) (y : ∀ e, Y e → X e) : All hd Q X (t.bind f) :=
  All.to_bind (All.mono k y h)
theorem All.bnd0 {ε α β : Type} {t : Tr ε α} {f : α → Tr ε β} {P : α → Prop} {Q : β → Prop} {X : ε → Prop} (h : All hd P (fun _ => False) t) (k : ∀ a, P a → All hd Q X (f a)) : All hd Q X (t.bind f) := All.bnd h k fun _ z => z.elim
theorem All.bndA {α β : Type} {t : Tr Xn α} {ρ : Vars} {f : α → Tr (Xn × Vars) β} {P : α → Prop} {Q : β → Prop} {X : Xn × Vars → Prop} (h : All hd P (fun _ => False) t) (k : ∀ a, P a → All hd Q X (f a)) : All hd Q X ((at_ t ρ).bind f) := All.to_bind (All.to_mapX (All.mono k (fun _ z => z.elim) h))
end Ez

set_option Elab.async false
set_option linter.all false
set_option maxRecDepth 100000
namespace Ez
open PySem Tr
/-! ### a run from less known things -/
def Sv.le (a b : Sv) : Prop := a = b ∨ (a = .unk ∧ b.isExc = false)
def vle : Vars → Vars → Prop
  | [], [] => True
  | a :: r, b :: s => Sv.le a b ∧ vle r s
  | _, _ => False
theorem Sv.le_refl {a : Sv} : Sv.le a a := Or.inl rfl
theorem vle_refl : ∀ {ρ : Vars}, vle ρ ρ
  | [] => trivial
  | _ :: _ => ⟨Sv.le_refl, vle_refl⟩
theorem vle_len : ∀ {ρ ρ' : Vars}, vle ρ ρ' → ρ.length = ρ'.length
  | [], [], _ => rfl
  | _ :: _, _ :: _, h => congrArg (· + 1) (vle_len h.2)
theorem vle_set : ∀ {ρ ρ' : Vars} {i : Nat} {a b : Sv}, vle ρ ρ' → Sv.le a b → vle (ρ.set i a) (ρ'.set i b)
  | [], [], _, _, _, _, _ => trivial
  | _ :: _, _ :: _, 0, _, _, h, k => ⟨k, h.2⟩
  | _ :: _, _ :: _, _ + 1, _, _, h, k => ⟨h.1, vle_set h.2 k⟩
theorem vle_get : ∀ {ρ ρ' : Vars} {i : Nat} {v : Sv}, vle ρ ρ' → ρ[i]? = some v → ∃ w, ρ'[i]? = some w ∧ Sv.le v w
  | _ :: _, b :: _, 0, _, h, e => by
    simp only [List.getElem?_cons_zero, Option.some.injEq] at e
    exact ⟨b, by simp, e ▸ h.1⟩
  | _ :: _, _ :: _, i + 1, v, h, e => by
    simp only [List.getElem?_cons_succ] at e ⊢
    exact vle_get h.2 e
namespace Tr
def le {ε ε' α β : Type} (RX : ε → ε' → Prop) (R : α → β → Prop) : Tr ε α → Tr ε' β → Prop
  | bad, _ => True
  | ret a, ret b => R a b
  | exn e, exn e' => RX e e'
  | draw m k, draw m' k' => m = m' ∧ ∀ v, le RX R (k v) (k' v)
  | _, _ => False
variable {ε ε' ε₂ ε₂' α β α' β' : Type} {RX : ε → ε' → Prop} {R : α → β → Prop} {RY : ε₂ → ε₂' → Prop} {R' : α' → β' → Prop}
theorem le_bad {t : Tr ε' β} : le RX R (bad : Tr ε α) t := by cases t <;> trivial
theorem le_refl {t : Tr ε α} : le Eq Eq t t := by
  induction t with
  | ret a => rfl
  | exn e => rfl
  | bad => trivial
  | draw m k ih => exact ⟨rfl, ih⟩
theorem le_bind {f : α → Tr ε α'} {f' : β → Tr ε' β'} : ∀ {t : Tr ε α} {t' : Tr ε' β}, le RX R t t' → (∀ a b, R a b → le RX R' (f a) (f' b)) → le RX R' (t.bind f) (t'.bind f')
  | bad, t', _, _ => le_bad
  | ret a, ret b, h, k => k a b h
  | exn a, exn b, h, _ => h
  | draw m q, draw m' q', h, k => ⟨h.1, fun v => le_bind (h.2 v) k⟩
theorem le_mapX {g : ε → ε₂} {g' : ε' → ε₂'} : ∀ {t : Tr ε α} {t' : Tr ε' β}, le RX R t t' → (∀ a b, RX a b → RY (g a) (g' b)) → le RY R (t.mapX g) (t'.mapX g')
  | bad, t', _, _ => le_bad
  | ret a, ret b, h, k => h
  | exn a, exn b, h, k => k a b h
  | draw m q, draw m' q', h, k => ⟨h.1, fun v => le_mapX (h.2 v) k⟩
theorem le_noX : ∀ {t : Tr ε α} {t' : Tr ε' β}, le RX R t t' → le RX R t.noX t'.noX
  | bad, t', _ => le_bad
  | ret a, ret b, h => h
  | exn a, exn b, h => le_bad
  | draw m q, draw m' q', h => ⟨h.1, fun v => le_noX (h.2 v)⟩
theorem le_catch {f : ε → Tr ε₂ α} {f' : ε' → Tr ε₂' β} : ∀ {t : Tr ε α} {t' : Tr ε' β}, le RX R t t' → (∀ a b, RX a b → le RY R (f a) (f' b)) → le RY R (t.catchX f) (t'.catchX f')
  | bad, t', _, _ => le_bad
  | ret a, ret b, h, k => h
  | exn a, exn b, h, k => k a b h
  | draw m q, draw m' q', h, k => ⟨h.1, fun v => le_catch (h.2 v) k⟩
theorem All.up {hd : Prop} {P : α → Prop} {X : ε → Prop} {P' : β → Prop} {X' : ε' → Prop} (hP : ∀ a b, R a b → P a → P' b) (hX : ∀ a b, RX a b → X a → X' b) : ∀ {t : Tr ε α} {t' : Tr ε' β}, le RX R t t' → All hd P X t → All hd P' X' t'
  | ret a, ret b, h, k => hP a b h k
  | exn a, exn b, h, k => hX a b h k
  | draw m q, draw m' q', h, ⟨a, b, c, d⟩ => by
    obtain ⟨rfl, h⟩ := h
    exact ⟨a, b, c, fun v v0 v1 => All.up hP hX (h v) (d v v0 v1)⟩
end Tr
abbrev LE (t t' : R) : Prop := Tr.le Eq Eq t t'
theorem LE.bind {α' β' : Type} {R' : α' → β' → Prop} {f : D → Tr Xn α'} {f' : D → Tr Xn β'} {t t' : R} (h : LE t t') (k : ∀ a, Tr.le Eq R' (f a) (f' a)) : Tr.le Eq R' (t.bind f) (t'.bind f') := Tr.le_bind h fun a b e => e ▸ k a
theorem le_getV {ρ ρ' : Vars} {i : Nat} (h : vle ρ ρ') : LE (getV ρ i) (getV ρ' i) := by
  unfold getV
  split
  · rename_i d e
    obtain ⟨w, e', l⟩ := vle_get h e
    rcases l with rfl | ⟨z, _⟩
    · rw [e']; exact rfl
    · cases z
  · exact Tr.le_bad
theorem le_getO {ρ ρ' : Vars} {i : Nat} (h : vle ρ ρ') : LE (getO ρ i) (getO ρ' i) := by
  unfold getO
  split
  · rename_i d e
    obtain ⟨w, e', l⟩ := vle_get h e
    rcases l with rfl | ⟨z, _⟩
    · rw [e']; exact rfl
    · cases z
  · rename_i d e
    obtain ⟨w, e', l⟩ := vle_get h e
    rcases l with rfl | ⟨z, _⟩
    · rw [e']; exact rfl
    · cases z
  · exact Tr.le_bad
end Ez

set_option Elab.async false
set_option linter.all false
set_option maxRecDepth 100000
namespace Ez
open PySem Tr
theorem le_evalG : ∀ {b : Bool} {tg : Tg} {x : D} {ρ ρ' r : Vars}, vle ρ ρ' → evalG b tg x ρ = some r → ∃ r', evalG b tg x ρ' = some r' ∧ vle r r' := by
  intro b tg
  induction tg generalizing b with
  | name i =>
    intro x ρ ρ' r h e
    cases b
    · simp only [evalG] at e ⊢
      split at e
      · rename_i hl
        cases e
        exact ⟨_, if_pos (vle_len h ▸ hl), vle_set h Sv.le_refl⟩
      · cases e
    · simp [evalG] at e
  | tup t ih =>
    intro x ρ ρ' r h e
    cases b
    · cases x <;> simp only [evalG, reduceCtorEq] at e ⊢
      all_goals
        split at e
        · rename_i hl
          obtain ⟨r', e', v⟩ := ih h e
          exact ⟨r', (if_pos hl).trans e', v⟩
        · cases e
    · simp [evalG] at e
  | nil =>
    intro x ρ ρ' r h e
    cases b
    · simp [evalG] at e
    · match x, e with
      | .tup [], e =>
        simp only [evalG, Option.some.injEq] at e ⊢
        exact ⟨ρ', rfl, e ▸ h⟩
  | cons a c iha ihc =>
    intro x ρ ρ' r h e
    cases b
    · simp [evalG] at e
    · match x, e with
      | .tup (x :: xs), e =>
        simp only [evalG] at e ⊢
        split at e
        · rename_i r1 e1
          obtain ⟨r1', e1', v1⟩ := iha h e1
          obtain ⟨r', e', v⟩ := ihc v1 e
          exact ⟨r', by rw [e1']; exact e', v⟩
        · cases e
theorem le_wipe {ρ ρ' : Vars} (h : vle ρ ρ') : ∀ {vs : List Nat}, vle (wipeV ρ vs) (wipeV ρ' vs)
  | [] => h
  | _ :: _ => vle_set (le_wipe h) Sv.le_refl
theorem le_lcGo {f f' : D → Tr Xn (Option D)} (h : ∀ x, Tr.le Eq Eq (f x) (f' x)) : ∀ {l acc : List D}, LE (lcGo f l acc) (lcGo f' l acc)
  | [], _ => rfl
  | x :: xs, acc => by
    refine Tr.le_bind (h x) ?_
    rintro a _ rfl
    cases a <;> exact le_lcGo h
theorem leE {Γ : Pgm} (e : EE) : ∀ {ρ ρ' : Vars}, vle ρ ρ' → LE (evalE Γ e ρ) (evalE Γ e ρ') := by
  induction e with
  | var i => exact fun h => le_getV h
  | lit d => exact fun h => Tr.le_refl
  | con k => exact fun h => Tr.le_refl
  | fnv f => exact fun h => Tr.le_refl
  | clv c => exact fun h => Tr.le_refl
  | op o a b iha ihb => exact fun h => (iha h).bind fun x => (ihb h).bind fun y => Tr.le_refl
  | neg a ih => exact fun h => (ih h).bind fun x => Tr.le_refl
  | and a b iha ihb =>
    exact fun h => (iha h).bind fun x => by
      split
      · exact ihb h
      · exact Tr.le_refl
      · exact Tr.le_refl
  | or a b iha ihb =>
    exact fun h => (iha h).bind fun x => by
      split
      · exact ihb h
      · exact Tr.le_refl
      · exact Tr.le_refl
  | not a ih => exact fun h => (ih h).bind fun x => Tr.le_refl
  | notT a ih => exact fun h => (ih h).bind fun x => Tr.le_refl
  | isN a ih => exact fun h => (ih h).bind fun x => Tr.le_refl
  | notN a ih => exact fun h => (ih h).bind fun x => Tr.le_refl
  | tru a ih => exact fun h => (ih h).bind fun x => Tr.le_refl
  | chain o o' a b c iha ihb ihc =>
    exact fun h => (iha h).bind fun x => (ihb h).bind fun y => LE.bind Tr.le_refl fun z => by
      split
      · exact (ihc h).bind fun w => Tr.le_refl
      · exact Tr.le_refl
      · exact Tr.le_refl
  | ifx t a b iht iha ihb =>
    exact fun h => (iht h).bind fun x => by
      split
      · exact iha h
      · exact ihb h
      · exact Tr.le_refl
  | nil => exact fun h => Tr.le_refl
  | cons a b iha ihb => exact fun h => (iha h).bind fun x => (ihb h).bind fun y => Tr.le_refl
  | star a b iha ihb =>
    exact fun h => (iha h).bind fun x => (by
      cases seqL x with
      | none => exact Tr.le_refl
      | some l => exact (ihb h).bind fun y => Tr.le_refl)
  | tup a ih => exact fun h => (ih h).bind fun x => Tr.le_refl
  | lst a ih => exact fun h => (ih h).bind fun x => Tr.le_refl
  | slc a lo hi iha ihl ihh =>
    exact fun h => (iha h).bind fun x => (ihl h).bind fun l => by
      split
      · exact Tr.le_refl
      · exact (ihh h).bind fun y => Tr.le_refl
  | nop => exact fun h => Tr.le_refl
  | part a ih => exact fun h => (ih h).bind fun x => Tr.le_refl
  | call f sk dvs a ih => exact fun h => (ih h).bind fun x => Tr.le_refl
  | callV i sk a ih =>
    exact fun h => (le_getV h).bind fun x => by
      split
      · split
        · exact (ih h).bind fun y => Tr.le_refl
        · exact Tr.le_refl
      · exact Tr.le_refl
  | take a ih => exact fun h => (ih h).bind fun x => Tr.le_refl
  | bi b a ih => exact fun h => (ih h).bind fun x => Tr.le_refl
  | isi a t ih => exact fun h => (ih h).bind fun x => Tr.le_refl
  | isi2 a t u ih => exact fun h => (ih h).bind fun x => Tr.le_refl
  | isC a c ih => exact fun h => Tr.le_refl
  | lc k it tg t e vs iht ihc ihe =>
    exact fun h => (iht h).bind fun d => by
      split
      · split
        · refine le_lcGo fun x => ?_
          split
          · rename_i r e1
            obtain ⟨r', e', v⟩ := le_evalG (le_wipe h) e1
            rw [e']
            refine Tr.le_bind (Tr.le_noX (ihc v)) ?_
            rintro z _ rfl
            split
            · refine Tr.le_bind (Tr.le_noX (ihe v)) ?_
              rintro y _ rfl
              exact rfl
            · exact Tr.le_refl
            · exact Tr.le_refl
          · exact Tr.le_bad
        · exact Tr.le_refl
      · exact Tr.le_refl
  | yes => exact fun h => Tr.le_refl
  | eqR n a b iha ihb =>
    exact fun h => (iha h).bind fun x => by
      split
      · exact (ihb h).bind fun y => Tr.le_refl
      · exact Tr.le_refl
  | xf i c f =>
    intro ρ ρ' h
    show Tr.le Eq Eq (ev_xf Γ i c f ρ) (ev_xf Γ i c f ρ')
    unfold ev_xf
    split
    · rename_i c' ds e
      obtain ⟨w, e', l⟩ := vle_get h e
      rcases l with rfl | ⟨z, _⟩
      · rw [e']; exact Tr.le_refl
      · cases z
    · exact Tr.le_bad
  | fld a f ih => exact fun h => Tr.le_refl
  | lenO i => exact fun h => (le_getO h).bind fun x => Tr.le_refl
  | tupO i => exact fun h => (le_getO h).bind fun x => Tr.le_refl
  | ixO i a ih => exact fun h => (le_getO h).bind fun x => (ih h).bind fun y => Tr.le_refl
end Ez

set_option Elab.async false
set_option linter.all false
set_option maxRecDepth 100000
namespace Ez
open PySem Tr
def Fl.le : Fl → Fl → Prop
  | .nx a, .nx b => vle a b
  | .rt d a, .rt e b => d = e ∧ vle a b
  | .bk a, .bk b => vle a b
  | .ct a, .ct b => vle a b
  | _, _ => False
def xle (a b : Xn × Vars) : Prop := a.1 = b.1 ∧ vle a.2 b.2
abbrev LS (t t' : RS) : Prop := Tr.le xle Fl.le t t'
theorem Fl.le_refl {a : Fl} : Fl.le a a := by cases a <;> first | exact vle_refl | exact ⟨rfl, vle_refl⟩
theorem LS_self {t : RS} : LS t t := by
  induction t with
  | ret a => exact Fl.le_refl
  | exn e => exact ⟨rfl, vle_refl⟩
  | bad => trivial
  | draw m k ih => exact ⟨rfl, ih⟩
theorem vle_none : ∀ {ρ ρ' : Vars} {i : Nat}, vle ρ ρ' → ρ[i]? = none → ρ'[i]? = none
  | [], [], _, _, _ => by simp
  | _ :: _, _ :: _, 0, _, e => by simp at e
  | _ :: _, _ :: _, i + 1, h, e => by
    simp only [List.getElem?_cons_succ] at e ⊢
    exact vle_none h.2 e
theorem vle_setR : ∀ {ρ ρ' : Vars} {i : Nat} {b : Sv}, vle ρ ρ' → ρ[i]? = some .unk → b.isExc = false → vle ρ (ρ'.set i b)
  | _ :: _, _ :: _, 0, b, h, e, k => by
    simp only [List.getElem?_cons_zero, Option.some.injEq] at e
    exact ⟨Or.inr ⟨e, k⟩, h.2⟩
  | _ :: _, _ :: _, i + 1, b, h, e, k => by
    simp only [List.getElem?_cons_succ] at e
    exact ⟨h.1, vle_setR h.2 e k⟩
theorem vle_clr : ∀ {ρ ρ' : Vars}, vle ρ ρ' → vle (ρ.map Sv.clr) (ρ'.map Sv.clr)
  | [], [], _ => trivial
  | a :: _, b :: _, h => by
    refine ⟨?_, vle_clr h.2⟩
    rcases h.1 with rfl | ⟨rfl, k⟩
    · exact Sv.le_refl
    · refine Or.inr ⟨rfl, ?_⟩
      cases b <;> simp_all [Sv.clr, Sv.isExc]
theorem vle_noExc : ∀ {ρ ρ' : Vars}, vle ρ ρ' → noExc ρ = noExc ρ'
  | [], [], _ => rfl
  | a :: r, b :: s, h => by
    have := vle_noExc h.2
    simp only [noExc, List.all_cons] at this ⊢
    rw [this]
    rcases h.1 with rfl | ⟨rfl, k⟩
    · rfl
    · rw [k]; rfl
theorem Fl.le_clr {a b : Fl} (h : Fl.le a b) : Fl.le a.clr b.clr := by
  cases a <;> cases b <;> first | exact vle_clr h | exact ⟨h.1, vle_clr h.2⟩ | exact h.elim
theorem Fl.le_off {a b : Fl} {i : Nat} (h : Fl.le a b) : Fl.le (a.off i) (b.off i) := by
  cases a <;> cases b <;> first | exact vle_set h Sv.le_refl | exact h | exact h.elim
theorem LE.at_ {α' β' : Type} {R' : α' → β' → Prop} {f : D → Tr (Xn × Vars) α'} {f' : D → Tr (Xn × Vars) β'} {t t' : R} {ρ ρ' : Vars} (h : LE t t') (v : vle ρ ρ') (k : ∀ a, Tr.le xle R' (f a) (f' a)) : Tr.le xle R' ((Ez.at_ t ρ).bind f) ((Ez.at_ t' ρ').bind f') :=
  Tr.le_bind (Tr.le_mapX (RY := xle) h fun a b e => ⟨e, v⟩) fun a b e => e ▸ k a
theorem le_forGo {f f' : D → Vars → RS} (h : ∀ x ρ ρ', vle ρ ρ' → LS (f x ρ) (f' x ρ')) : ∀ {l : List D} {ρ ρ' : Vars}, vle ρ ρ' → LS (forGo f l ρ) (forGo f' l ρ')
  | [], _, _, v => v
  | x :: xs, ρ, ρ', v => by
    refine Tr.le_bind (h x ρ ρ' v) ?_
    intro a b k
    cases a <;> cases b <;> first | exact le_forGo h k | exact k | exact k.elim
theorem le_whGo {t : Vars → Tr Xn D} {f : Vars → RS} (ht : ∀ ρ ρ', vle ρ ρ' → LE (t ρ) (t ρ')) (h : ∀ ρ ρ', vle ρ ρ' → LS (f ρ) (f ρ')) : ∀ {n : Nat} {ρ ρ' : Vars}, vle ρ ρ' → LS (whGo t f n ρ) (whGo t f n ρ')
  | 0, _, _, v => Tr.le_bad
  | n + 1, ρ, ρ', v => by
    refine (ht ρ ρ' v).at_ v fun d => ?_
    split
    · refine Tr.le_bind (h ρ ρ' v) ?_
      intro a b k
      cases a <;> cases b <;> first | exact le_whGo ht h k | exact k | exact k.elim
    · exact v
    · exact Tr.le_bad
theorem leS {Γ : Pgm} (s : SS) : ∀ {x : Option Xn} {ρ ρ' : Vars}, vle ρ ρ' → LS (evalS Γ s x ρ) (evalS Γ s x ρ') := by
  induction s with
  | nop => intro x ρ ρ' h; cases x with | none => exact h | some x => exact Tr.le_bad
  | seq a b iha ihb =>
    intro x ρ ρ' h
    cases x with
    | some x => exact Tr.le_bad
    | none =>
      refine Tr.le_bind (iha h) ?_
      intro a b k
      cases a <;> cases b <;> first | exact ihb k | exact k | exact k.elim
  | asg tg e =>
    intro x ρ ρ' h
    cases x with
    | some x => exact Tr.le_bad
    | none =>
      refine (leE e h).at_ h fun d => ?_
      split
      · rename_i r e1
        obtain ⟨r', e', v⟩ := le_evalG h e1
        rw [e']
        exact v
      · exact Tr.le_bad
  | asgO i e =>
    intro x ρ ρ' h
    cases x with
    | some x => exact Tr.le_bad
    | none =>
      show LS (es_asgO Γ i e none ρ) (es_asgO Γ i e none ρ')
      simp only [es_asgO]
      rw [← vle_len h]
      split
      · refine (leE e h).at_ h fun d => ?_
        split
        · exact vle_set h Sv.le_refl
        · exact Tr.le_bad
      · exact Tr.le_bad
  | par i j a =>
    intro x ρ ρ' h
    cases x with
    | some x => exact Tr.le_bad
    | none =>
      refine (leE a h).at_ h fun d => ?_
      rw [← vle_len h]
      split
      · split
        · exact vle_set (vle_set h Sv.le_refl) Sv.le_refl
        · exact Tr.le_bad
      · exact Tr.le_bad
  | app i e =>
    intro x ρ ρ' h
    cases x with
    | some x => exact Tr.le_bad
    | none =>
      show LS (es_app Γ i e none ρ) (es_app Γ i e none ρ')
      simp only [es_app]
      split
      · rename_i ds e1
        obtain ⟨w, e', l⟩ := vle_get h e1
        rcases l with rfl | ⟨z, _⟩
        · rw [e']
          refine (leE e h).at_ h fun d => ?_
          split
          · exact vle_set h Sv.le_refl
          · exact Tr.le_bad
        · cases z
      · exact Tr.le_bad
  | setO i ix e =>
    intro x ρ ρ' h
    cases x with
    | some x => exact Tr.le_bad
    | none =>
      show LS (es_setO Γ i ix e none ρ) (es_setO Γ i ix e none ρ')
      simp only [es_setO]
      split
      · rename_i ds e1
        obtain ⟨w, e', l⟩ := vle_get h e1
        rcases l with rfl | ⟨z, _⟩
        · rw [e']
          refine (leE e h).at_ h fun d => (leE ix h).at_ h fun y => ?_
          split
          · split
            · exact vle_set h Sv.le_refl
            · exact Tr.le_bad
          · exact Tr.le_bad
        · cases z
      · exact Tr.le_bad
  | ret e =>
    intro x ρ ρ' h
    cases x with
    | some x => exact Tr.le_bad
    | none => exact (leE e h).at_ h fun d => ⟨rfl, h⟩
  | retN => intro x ρ ρ' h; cases x with | none => exact ⟨rfl, h⟩ | some x => exact Tr.le_bad
  | ite t a b iha ihb =>
    intro x ρ ρ' h
    cases x with
    | some x => exact Tr.le_bad
    | none =>
      refine (leE t h).at_ h fun d => ?_
      split
      · exact iha h
      · exact ihb h
      · exact Tr.le_bad
  | «for» k it tg b ih =>
    intro x ρ ρ' h
    cases x with
    | some x => exact Tr.le_bad
    | none =>
      refine (leE it h).at_ h fun d => ?_
      split
      · refine le_forGo (fun y ρ ρ' v => ?_) h
        split
        · rename_i r e1
          obtain ⟨r', e', v'⟩ := le_evalG v e1
          rw [e']
          exact ih v'
        · exact Tr.le_bad
      · exact Tr.le_bad
  | whl t b ih =>
    intro x ρ ρ' h
    cases x with
    | some x => exact Tr.le_bad
    | none => exact le_whGo (fun _ _ v => leE t v) (fun _ _ v => ih v) h
  | rse c a =>
    intro x ρ ρ' h
    cases x with
    | some x => exact Tr.le_bad
    | none =>
      refine (leE a h).at_ h fun d => ?_
      split
      · split
        · exact ⟨rfl, h⟩
        · exact Tr.le_bad
      · exact Tr.le_bad
  | «try» b h ihb ihh =>
    intro x ρ ρ' v
    cases x with
    | some x => exact Tr.le_bad
    | none =>
      refine Tr.le_catch (ihb v) ?_
      rintro ⟨a, r⟩ ⟨_, r'⟩ ⟨rfl, w⟩
      exact ihh w
  | hnil => intro x ρ ρ' h; exact Tr.le_bad
  | hcons c i b r ihb ihr =>
    intro x ρ ρ' h
    cases x with
    | none => exact Tr.le_bad
    | some x =>
      cases i with
      | none =>
        show LS (es_hcons Γ c none b r (evalS Γ b) (evalS Γ r) (some x) ρ) (es_hcons Γ c none b r (evalS Γ b) (evalS Γ r) (some x) ρ')
        simp only [es_hcons]
        rw [← vle_noExc h]
        split
        · split
          · exact Tr.le_bind (Tr.le_noX (ihb h)) fun a b k => Fl.le_clr k
          · exact Tr.le_bad
        · exact ihr h
        · exact Tr.le_bad
      | some i =>
        show LS (es_hcons Γ c (some i) b r (evalS Γ b) (evalS Γ r) (some x) ρ) (es_hcons Γ c (some i) b r (evalS Γ b) (evalS Γ r) (some x) ρ')
        simp only [es_hcons]
        rw [← vle_noExc h, ← vle_len h]
        split
        · split
          · exact Tr.le_bind (Tr.le_noX (ihb (vle_set h Sv.le_refl))) fun a b k => Fl.le_off (Fl.le_clr k)
          · exact Tr.le_bad
        · exact ihr h
        · exact Tr.le_bad
  | drop e =>
    intro x ρ ρ' h
    cases x with
    | some x => exact Tr.le_bad
    | none => exact (leE e h).at_ h fun d => h
  | keep i s ih =>
    intro x ρ ρ' h
    cases x with
    | some x => exact Tr.le_bad
    | none =>
      show LS (es_keep Γ i s (evalS Γ s) none ρ) (es_keep Γ i s (evalS Γ s) none ρ')
      simp only [es_keep]
      cases e : ρ[i]? with
      | none => rw [vle_none h e]; exact ih h
      | some a =>
        obtain ⟨w, e', l⟩ := vle_get h e
        rw [e']
        rcases l with rfl | ⟨rfl, k⟩
        · cases a with
          | own ds => exact ih (vle_set h Sv.le_refl)
          | _ => exact ih h
        · cases w with
          | own ds => exact ih (vle_setR h e rfl)
          | _ => exact ih h
  | brk => intro x ρ ρ' h; cases x with | none => exact h | some x => exact Tr.le_bad
  | cnt => intro x ρ ρ' h; cases x with | none => exact h | some x => exact Tr.le_bad
end Ez

set_option Elab.async false
set_option linter.all false
namespace Ez
open L2 PySem PySem.W
/-! ### math.gcd of three -/
theorem g3_run (a b c : Int) (t u v : Tok) : Gives (Builtin.«math.gcd» { pos := [.int a t, .int b u, .int c v] }) (Made.int (((Nat.gcd (Nat.gcd (Nat.gcd 0 a.natAbs) b.natAbs) c.natAbs : Nat) : Int))) := by
  refine Gives.of_wp fun M A E s Q h => ?_
  obtain ⟨hp, g, d, tk, os⟩ := s
  unfold Builtin.«math.gcd»
  refine wpAny_bind ?_
  refine wpAny_ite_true rfl ?_
  refine wpAny_pure ?_
  refine wpAny_bind ?_
  simp only [List.forIn_cons, List.forIn_nil]
  repeat (first | refine wpAny_mkInt' ?_ | refine wpAny_pure ?_ | refine wpAny_bind ?_)
  exact ⟨_, rfl, h⟩
theorem g3_args (a b c : Value) : argsOk "math.gcd" { pos := [a, b, c] } := rfl
theorem g3_call {prog : Program} {w : World} {A : Around} {E : Value → Shared → Prop} {s : Shared} {Q : Value → Shared → Prop} {a b c : Int} {t u v : Tok} (h : Q (.int (((Nat.gcd (Nat.gcd a.natAbs b.natAbs) c.natAbs : Nat) : Int)) s.toks) { s with toks := s.toks + 1 }) : wpAny (model prog w) A (call (.builtin "math.gcd") [.int a t, .int b u, .int c v]) Q E s := by
  have g := g3_run a b c t u v
  rw [Nat.gcd_zero_left] at g
  exact call_function_meets MGF.kind_gcd MGF.plain_gcd MGF.entry_gcd (g3_args _ _ _) (Gives.meets g) h
theorem vals_int3 {i j k : Int} {us : List Value} (r : Vals [V.int i, V.int j, V.int k] us) : ∃ t u v, us = [.int i t, .int j u, .int k v] := by
  cases r with
  | cons a r => cases r with
    | cons b r => cases r with
      | cons c r => cases r with
        | nil =>
          obtain ⟨t, rfl⟩ := a
          obtain ⟨u, rfl⟩ := b
          obtain ⟨v, rfl⟩ := c
          exact ⟨t, u, v, rfl⟩
theorem cr_gcd3 {X : Cx} : CallR X (.builtin "math.gcd") crGcd3 := by
  intro pins s σ H vs us Q I r h
  unfold crGcd3 at h
  obtain ⟨a, b, c, rfl, q⟩ := h
  obtain ⟨t, u, v, rfl⟩ := vals_int3 r
  exact g3_call ⟨.int (((Nat.gcd (Nat.gcd a.natAbs b.natAbs) c.natAbs : Nat) : Int)), H, I.tok (s.toks + 1), ⟨s.toks, rfl⟩, q⟩
end Ez

set_option Elab.async false
set_option linter.all false
set_option maxRecDepth 100000
namespace Ez
open PySem Tr
/-! ### the law's Euclid -/
local macro_rules | `(tactic| walk_at "ev") => `(tactic| simp [↓bind_T, ↓bindT_ret, ↓bindT_exn, ↓bindT_bad, ↓bindT_draw, ↓mapX_ret, ↓mapX_exn, ↓mapX_bad, ↓mapX_draw, ↓noX_ret, ↓noX_exn, ↓noX_bad, ↓noX_draw, ↓catch_T, ↓catT_ret, ↓catT_exn, ↓catT_bad, ↓catT_draw, ↓E_var, ↓ev_var, ↓E_lit, ↓ev_lit, ↓E_con, ↓ev_con, ↓E_fnv, ↓ev_fnv, ↓E_clv, ↓ev_clv, ↓E_op, ↓ev_op, ↓E_neg, ↓ev_neg, ↓E_and, ↓ev_and, ↓E_or, ↓ev_or, ↓E_not, ↓ev_not, ↓E_notT, ↓ev_notT, ↓E_isN, ↓ev_isN, ↓E_notN, ↓ev_notN, ↓E_tru, ↓ev_tru, ↓E_chain, ↓ev_chain, ↓E_ifx, ↓ev_ifx, ↓E_nil, ↓ev_nil, ↓E_cons, ↓ev_cons, ↓E_tup, ↓ev_tup, ↓E_lst, ↓ev_lst, ↓E_slc, ↓ev_slc, ↓E_nop, ↓ev_nop, ↓E_part, ↓ev_part, ↓E_call, ↓ev_call, ↓E_callV, ↓ev_callV, ↓E_take, ↓ev_take, ↓E_bi, ↓ev_bi, ↓E_isi, ↓ev_isi, ↓E_isi2, ↓ev_isi2, ↓E_isC, ↓ev_isC, ↓E_lc, ↓ev_lc, ↓E_yes, ↓ev_yes, ↓E_eqR, ↓ev_eqR, ↓E_xf, ↓ev_xf, ↓E_fld, ↓ev_fld, ↓E_lenO, ↓ev_lenO, ↓E_tupO, ↓ev_tupO, ↓E_ixO, ↓ev_ixO, ↓S_nop, ↓es_nop, ↓S_seq, ↓es_seq, ↓S_asg, ↓es_asg, ↓S_asgO, ↓es_asgO, ↓S_par, ↓es_par, ↓S_app, ↓es_app, ↓S_setO, ↓es_setO, ↓S_ret, ↓es_ret, ↓S_retN, ↓es_retN, ↓S_ite, ↓es_ite, ↓S_for, ↓es_for, ↓S_whl, ↓es_whl, ↓S_rse, ↓es_rse, ↓S_try, ↓es_try, ↓S_hnil, ↓S_hcons, ↓es_hcons, ↓S_drop, ↓es_drop, ↓S_keep, ↓es_keep, ↓S_brk, ↓es_brk, ↓S_cnt, ↓es_cnt, ↓at_, getV, getO, isiD, D.isNon, op2, o2_add, o2_sub, o2_mul, o2_div, o2_mod, o2_lt, o2_le, o2_gt, o2_ge, o2_ix, o2_isB, o2_isnB, biD, bi_lenD, bi_absD, bi_intD, bi_listD, bi_tupleD, bi_gcd2D, bi_gcd3D, bi_min2D, bi_max2D, Fl.res, ↓runD, startD, toB, truD, optI, slcT, noExc, Sv.isExc, Fl.clr, Fl.off, Sv.clr, evalG, Tg.len, Tg.inn, wipeV, itemsOf, rngL, lcGo, forGo, pgm_call, pgm_con, pgm_fld, pgm_xf, pgm_sub, pgm_most, pgm_ok, scaV, dOf, *])
abbrev euT : EE := .op .gt (.var 1) (.lit (.int 0))
abbrev euB : SS := .par 0 1 (.cons (.var 1) (.cons (.op .mod (.bi .int (.cons (.var 0) .nil)) (.var 1)) .nil))
theorem eu_test {Γ : Pgm} {a b : Int} : evalE Γ euT [.dat (.int a), .dat (.int b)] = .ret (.bl (decide (b > 0))) := rfl
theorem eu_body {Γ : Pgm} {a b : Int} (h : 0 < b) : evalS Γ euB none [.dat (.int a), .dat (.int b)] = .ret (.nx [.dat (.int b), .dat (.int (a % b))]) := by
  have e : evalE Γ (.cons (.var 1) (.cons (.op .mod (.bi .int (.cons (.var 0) .nil)) (.var 1)) .nil)) [.dat (.int a), .dat (.int b)] = .ret (.tup [.int b, .int (a % b)]) := by
    walk_at "ev"
  show es_par Γ 0 1 _ none _ = _
  unfold es_par
  simp only
  rw [e]
  rfl
theorem eu_stop {Γ : Pgm} {n : Nat} {a b : Int} (h : ¬ b > 0) : whGo (fun ρ => evalE Γ euT ρ) (fun ρ => evalS Γ euB none ρ) (n + 1) [.dat (.int a), .dat (.int b)] = .ret (.nx [.dat (.int a), .dat (.int b)]) := by
  rw [whGo, eu_test, decide_eq_false h]
  rfl
theorem eu_turn {Γ : Pgm} {n : Nat} {a b : Int} (h : 0 < b) : whGo (fun ρ => evalE Γ euT ρ) (fun ρ => evalS Γ euB none ρ) (n + 1) [.dat (.int a), .dat (.int b)] = whGo (fun ρ => evalE Γ euT ρ) (fun ρ => evalS Γ euB none ρ) n [.dat (.int b), .dat (.int (a % b))] := by
  rw [whGo, eu_test, decide_eq_true h]
  show Tr.bind (evalS Γ euB none _) _ = _
  rw [eu_body h]
  rfl
theorem gcd_turn {a b : Int} (a0 : 0 ≤ a) (h : 0 < b) : (Int.gcd b (a % b) : Int) = Int.gcd a b := by
  obtain ⟨x, rfl⟩ := Int.eq_ofNat_of_zero_le a0
  obtain ⟨y, rfl⟩ := Int.eq_ofNat_of_zero_le (show 0 ≤ b by omega)
  rw [← Int.natCast_emod]
  simp only [Int.gcd, Int.natAbs_natCast]
  rw [Nat.gcd_comm y, ← Nat.gcd_rec, Nat.gcd_comm]
theorem eu_goes {Γ : Pgm} : ∀ (m : Nat) {n : Nat} {a b : Int}, 0 ≤ a → 0 ≤ b → b < 2 ^ m → 2 * m + 1 ≤ n → whGo (fun ρ => evalE Γ euT ρ) (fun ρ => evalS Γ euB none ρ) n [.dat (.int a), .dat (.int b)] = .ret (.nx [.dat (.int (Int.gcd a b)), .dat (.int 0)])
  | m, 0, a, b, _, _, _, hn => by omega
  | m, n + 1, a, b, a0, b0, bm, hn => by
    by_cases h : b > 0
    · have m0 : 0 < m := by
        cases m with
        | zero => simp at bm; omega
        | succ m => omega
      obtain ⟨m, rfl⟩ : ∃ k, m = k + 1 := ⟨m - 1, by omega⟩
      obtain ⟨n, rfl⟩ : ∃ k, n = k + 1 := ⟨n - 1, by omega⟩
      rw [eu_turn h, ← gcd_turn a0 h]
      have r0 := Int.emod_nonneg a (show b ≠ 0 by omega)
      have r1 := Int.emod_lt_of_pos a h
      by_cases h' : a % b > 0
      · rw [eu_turn h', ← gcd_turn b0 h']
        have s0 := Int.emod_nonneg b (show a % b ≠ 0 by omega)
        have s1 := Int.emod_lt_of_pos b h'
        have s2 : b % (a % b) ≤ b - a % b := by
          have e := Int.emod_add_mul_ediv b (a % b)
          have q : 1 ≤ b / (a % b) := by
            rw [Int.le_ediv_iff_mul_le h']
            omega
          have := Int.mul_le_mul_of_nonneg_left q (show 0 ≤ a % b by omega)
          omega
        refine eu_goes m r0 s0 ?_ (by omega)
        rw [Int.pow_succ] at bm
        omega
      · rw [eu_stop h']
        have z : a % b = 0 := by omega
        rw [z, Int.gcd_zero_right]
        congr 3
        simp
        omega
    · have z : b = 0 := by omega
      subst z
      rw [eu_stop h, Int.gcd_zero_right]
      congr 3
      simp
      omega
end Ez

set_option Elab.async false
set_option linter.all false
set_option maxRecDepth 100000
namespace Ez
open PySem Tr
/-! ### small things for walks -/
theorem All.drawB {ε α : Type} {m : Int} {k : Int → Tr ε α} {P : α → Prop} {X : ε → Prop} (m0 : 0 < m) (m1 : m ≤ 1000000000000000000000000000000) (h : ∀ v, 0 ≤ v → v < m → All True P X (k v)) : All True P X (.draw m k) :=
  ⟨trivial, m0, Nat.lt_of_le_of_lt (show m.natAbs ≤ 1000000000000000000000000000000 by omega) (Nat.lt_of_lt_of_le (show 1000000000000000000000000000000 < 2 ^ 100 by decide) (Nat.pow_le_pow_right (by decide) (by decide))), h⟩
theorem o2_ne_int {a b : Int} : o2_ne (.int a) (.int b) = .ret (.bl (!decide (a = b))) := by
  have : D.eqv (.int a) (.int b) = decide (a = b) := by
    by_cases h : a = b <;> simp [D.eqv, D.py, PyData.eqv, h]
  have c : ((D.int a).cmp && (D.int b).cmp) = true := rfl
  rw [o2_ne, if_pos c, this]
theorem o2_eq_self {d : D} (h : D.cmp d = true) : o2_eq d d = .ret (.bl true) := by
  rw [o2_eq, if_pos (by rw [h]; rfl), D.eqv_same h]
theorem o2_ne_self {d : D} (h : D.cmp d = true) : o2_ne d d = .ret (.bl false) := by
  rw [o2_ne, if_pos (by rw [h]; rfl), D.eqv_same h]; rfl
theorem o2_eq_of {d e : D} (h : D.cmp d = true) (q : d = e) : o2_eq d e = .ret (.bl true) := q ▸ o2_eq_self h
theorem o2_ne_of {d e : D} (h : D.cmp d = true) (q : d = e) : o2_ne d e = .ret (.bl false) := q ▸ o2_ne_self h
section
variable {a b c : D}
theorem ix_t10 : o2_ix (.tup [a]) (.int 0) = .ret a := rfl
theorem ix_t20 : o2_ix (.tup [a, b]) (.int 0) = .ret a := rfl
theorem ix_t21 : o2_ix (.tup [a, b]) (.int 1) = .ret b := rfl
theorem ix_t30 : o2_ix (.tup [a, b, c]) (.int 0) = .ret a := rfl
theorem ix_t31 : o2_ix (.tup [a, b, c]) (.int 1) = .ret b := rfl
theorem ix_t32 : o2_ix (.tup [a, b, c]) (.int 2) = .ret c := rfl
theorem ix_l10 : o2_ix (.lst [a]) (.int 0) = .ret a := rfl
theorem ix_l20 : o2_ix (.lst [a, b]) (.int 0) = .ret a := rfl
theorem ix_l21 : o2_ix (.lst [a, b]) (.int 1) = .ret b := rfl
theorem ix_l30 : o2_ix (.lst [a, b, c]) (.int 0) = .ret a := rfl
theorem ix_l31 : o2_ix (.lst [a, b, c]) (.int 1) = .ret b := rfl
theorem ix_l32 : o2_ix (.lst [a, b, c]) (.int 2) = .ret c := rfl
end
/-! ### All by steps -/
section
variable {hd : Prop} {ε ε' α β : Type} {P : α → Prop} {Q : β → Prop} {X Y : ε → Prop} {Z : ε' → Prop}
theorem All.bt {t : Tr ε α} {f : α → Tr ε β} {x : Tag f} (h : All hd P Y t) (k : ∀ a, P a → All hd Q X (f a)) (y : ∀ e, Y e → X e) : All hd Q X (bindT t f x) := All.bnd h k y
theorem All.bt0 {t : Tr ε α} {f : α → Tr ε β} {x : Tag f} (h : All hd P (fun _ => False) t) (k : ∀ a, P a → All hd Q X (f a)) : All hd Q X (bindT t f x) := All.bnd0 h k
theorem All.mx0 {g : ε → ε'} {t : Tr ε α} (h : All hd P (fun _ => False) t) : All hd P Z (t.mapX g) := All.to_mapX (All.mono (fun _ z => z) (fun _ z => z.elim) h)
theorem All.nx0 {t : Tr ε α} (h : All hd P (fun _ => False) t) : All hd P X t.noX := All.to_noX h
theorem All.ret' {ε α : Type} {P : α → Prop} {X : ε → Prop} {a : α} (h : P a) : All hd P X (.ret a) := h
end
theorem All.run {hd : Prop} {T : Text} {n f : Nat} {ds : List D} {d : Df} {ρ : Vars} {Q : D → Prop} (h : T.df f = some d) (l : ds.length = d.ps) (s : startD d ds = ρ) (k : All hd (fun fl => ∃ x ρ', fl = .rt x ρ' ∧ Q x) (fun _ => False) (evalS (T.pgm n) d.body none ρ)) : All hd Q (fun _ => False) (T.run (n + 1) f ds) := by
  rw [run_eq, h]
  refine All.runD l ?_
  rw [s]
  exact k
theorem goes {Γ : Pgm} {a b : SS} {ρ : Vars} {Q : Vars → Prop} {P : Fl → Prop} (h : All True (fun fl => ∃ ρ', fl = .nx ρ' ∧ Q ρ') (fun _ => False) (evalS Γ a none ρ)) (k : ∀ ρ', Q ρ' → All True P (fun _ => False) (evalS Γ b none ρ')) : All True P (fun _ => False) (evalS Γ (.seq a b) none ρ) := by
  refine All.seq (All.mono ?_ (fun _ z => z) h)
  rintro fl ⟨ρ', e, q⟩
  exact ⟨ρ', e, k ρ' q⟩
/-- a statement that goes on in one way -/
theorem goes1 {Γ : Pgm} {a b : SS} {ρ ρ' : Vars} {P : Fl → Prop} (h : evalS Γ a none ρ = .ret (.nx ρ')) (k : All True P (fun _ => False) (evalS Γ b none ρ')) : All True P (fun _ => False) (evalS Γ (.seq a b) none ρ) := by
  refine goes (Q := fun r => r = ρ') (by rw [h]; exact ⟨_, rfl, rfl⟩) ?_
  rintro _ rfl
  exact k
abbrev Goes (Γ : Pgm) (r : SS) (Q : Vars → Prop) (ρ : Vars) : Prop := All True (fun fl => ∃ ρ', fl = .nx ρ' ∧ Q ρ') (fun _ => False) (evalS Γ r none ρ)
theorem Goes.of {Γ : Pgm} {a : SS} {Q : Vars → Prop} {ρ : Vars} (h : ∀ P : Fl → Prop, (∀ ρ', Q ρ' → P (.nx ρ')) → All True P (fun _ => False) (evalS Γ a none ρ)) : Goes Γ a Q ρ := h _ fun ρ' q => ⟨ρ', rfl, q⟩
theorem Gives.of {Γ : Pgm} {a : SS} {Q : D → Prop} {ρ : Vars} (h : ∀ P : Fl → Prop, (∀ d ρ', Q d → P (.rt d ρ')) → All True P (fun _ => False) (evalS Γ a none ρ)) : All True (fun fl => ∃ x ρ', fl = .rt x ρ' ∧ Q x) (fun _ => False) (evalS Γ a none ρ) := h _ fun d ρ' q => ⟨d, ρ', rfl, q⟩
/-- items one by one -/
inductive Each (P : D → D → Prop) : List D → List D → Prop
  | nil : Each P [] []
  | cons {x y : D} {xs ys : List D} : P x y → Each P xs ys → Each P (x :: xs) (y :: ys)
theorem All.lcGo {hd : Prop} {f : D → Tr Xn (Option D)} {P : D → D → Prop} {X : Xn → Prop} : ∀ {l acc : List D}, (∀ x, x ∈ l → All hd (fun o => ∃ y, o = some y ∧ P x y) X (f x)) → All hd (fun d => ∃ ys, d = .lst (acc ++ ys) ∧ Each P l ys) X (lcGo f l acc)
  | [], acc, _ => ⟨[], by rw [List.append_nil], .nil⟩
  | x :: xs, acc, h => by
    refine All.bnd (h x (by simp)) ?_ (fun _ z => z)
    rintro _ ⟨y, rfl, p⟩
    refine All.mono ?_ (fun _ z => z) (All.lcGo (acc := acc ++ [y]) fun z m => h z (List.mem_cons_of_mem _ m))
    rintro d ⟨ys, rfl, q⟩
    exact ⟨y :: ys, by rw [List.append_assoc]; rfl, .cons p q⟩
/-- a list made item by item, each kept -/
theorem All.lc {hd : Prop} {Γ : Pgm} {ρ : Vars} {k : ItK} {it e : EE} {i : Nat} {d : D} {l : List D} {P : D → D → Prop} {X : Xn → Prop} (hit : evalE Γ it ρ = .ret d) (hk : itemsOf k d = some l) (hl : l.length ≤ 10000) (hi : i < ρ.length) (h : ∀ x, x ∈ l → All hd (P x) (fun _ => False) (evalE Γ e (ρ.set i (.dat x)))) :
    All hd (fun d => ∃ ys, d = .lst ys ∧ Each P l ys) X (evalE Γ (.lc k it (.name i) .yes e [i]) ρ) := by
  rw [E_lc, ev_lc, hit]
  simp only [bind_ret]
  rw [hk]
  have c : l.length ≤ 10000 ∧ Tg.inn (.name i) [i] = true := ⟨hl, by simp [Tg.inn]⟩
  simp only [if_pos c]
  refine All.mono ?_ (fun _ z => z) (All.lcGo (acc := []) (P := P) ?_)
  · rintro _ ⟨ys, rfl, q⟩; exact ⟨ys, rfl, q⟩
  · intro x m
    have g : evalG false (.name i) x (wipeV ρ [i]) = some (ρ.set i (.dat x)) := by simp [evalG, wipeV, hi]
    simp only [g]
    rw [E_yes, ev_yes]
    simp only [noX_ret, bind_ret]
    refine All.bnd (All.nx0 (h x m)) (fun y p => ⟨y, rfl, p⟩) (fun _ z => z)
theorem each3 {P : D → D → Prop} {a b c : D} {ys : List D} (h : Each P [a, b, c] ys) : ∃ x y z, ys = [x, y, z] ∧ P a x ∧ P b y ∧ P c z := by
  cases h with
  | cons p h => cases h with
    | cons q h => cases h with
      | cons r h => cases h with
        | nil => exact ⟨_, _, _, rfl, p, q, r⟩
theorem assoc_seq {Γ : Pgm} {a b c : SS} {ρ : Vars} {P : Fl → Prop} {X : Xn × Vars → Prop} (h : All True P X (evalS Γ (.seq (.seq a b) c) none ρ)) : All True P X (evalS Γ (.seq a (.seq b c)) none ρ) := by
  have e : evalS Γ (.seq (.seq a b) c) none ρ = evalS Γ (.seq a (.seq b c)) none ρ := by
    rw [S_seq, es_seq, S_seq, es_seq, S_seq, es_seq, bind_bind]
    refine congrArg _ (funext fun fl => ?_)
    cases fl with
    | nx ρ' => show _ = evalS Γ (.seq b c) none ρ'; rw [S_seq, es_seq]
    | _ => rfl
  exact e ▸ h
/-! ### bodies by parts -/
def rests : SS → Nat → SS
  | s, 0 => s
  | .seq _ b, n + 1 => rests b n
  | s, _ => s
def firstS : SS → SS
  | .seq a _ => a
  | s => s
def bodyF : SS → SS
  | .for _ _ _ b => b
  | s => s
theorem for_rng {Γ : Pgm} {n : Int} {i : Nat} {b : SS} {ρ : Vars} (h : -10000 ≤ n ∧ n ≤ 10000) : evalS Γ (.for .rng1 (.cons (.lit (.int n)) .nil) (.name i) b) none ρ = forGo (fun x ρ => match evalG false (.name i) x ρ with | some ρ' => evalS Γ b none ρ' | none => bad) (rngL 0 n.toNat) ρ := by
  have e : evalE Γ (.cons (.lit (.int n)) .nil) ρ = .ret (.tup [.int n]) := rfl
  have g : itemsOf .rng1 (.tup [.int n]) = some (rngL 0 n.toNat) := if_pos h
  rw [S_for, es_for, e]
  show (match itemsOf .rng1 (.tup [.int n]) with | some l => forGo _ l ρ | none => bad) = _
  rw [g]
  try rfl
theorem gone_nx {Γ : Pgm} {Q : Vars → Prop} {a : SS} {ρ : Vars} (h : All True (Fl.gone Q) (fun _ => False) (evalS Γ a none ρ)) : Goes Γ a Q ρ := by
  refine All.mono ?_ (fun _ z => z) h
  intro fl hf
  cases fl with
  | nx ρ' => exact ⟨_, rfl, hf⟩
  | _ => exact hf.elim
end Ez

set_option Elab.async false
set_option linter.all false
set_option maxRecDepth 100000
namespace Ez
open L2 PySem PyProof.Rows PySem.Spec
section
variable {X : Cx} {k : Nat} {f : Addr} {fd : FuncData} {ps : List Str} {sp : Sp} {x kn : Str} {p pos kpos : Pos} {e e2 : Expr} {te te2 : TE} {g : List Value → List Value → List Value} {gV : List V → List V → List V}
/-- f(e, k = e2) where the keyword's is the next parameter -/
theorem pe_callKW {E : L2.St → XK} (F : FnG X.prog X.w X.K X.mg X.base k f fd ps sp) (hr : Room k X.A) (gs : X.A.guards = some []) (hg : Gl X x) (hm : X.mg x = some (.ref f)) (hk : PySem.W.keepIn X.K (.ref f) = true) (hb : KBn X.K fd ps 1 [kn] g gV) (hgv : ∀ a z, gV [a] [z] = [a, z]) (hx : ∀ σ, PassesAt (L2N.CX X.prog X.w) X σ (E σ))
    (ha : PE X e te) (hz : PE X e2 te2)
    (hall : (backToKw pos (keywordEach [⟨some kn, e2, kpos⟩] X.env)).all (·.1.isSome) = true := by rfl) (hks : (backToKw pos (keywordEach [⟨some kn, e2, kpos⟩] X.env)).filterMap (·.1) = [kn] := by rfl)
    (hdb : (x == ("__debug__" : Str)) = false := by decide) (he : starEach [e] X.env = (false, eval e X.env) :: starEach [] X.env := by rfl)
    (hpl : ((backTo pos (starEach [e] X.env)).any (·.1) || (backToKw pos (keywordEach [⟨some kn, e2, kpos⟩] X.env)).any (·.1.isNone)) = false := by rfl) :
    PE X (.Call (.Name x p) [e] [⟨some kn, e2, kpos⟩] pos) (tCallSD sp [] E (tCons te (tCons te2 tNil))) := by
  refine ⟨fun pins s σ H Q I h => ?_⟩
  have h1 : tCons te tNil σ H fun vs H1 => tCons te2 tNil σ H1 fun zs H2 => vs.length = 1 ∧ zs.length = 1 ∧ sp (gV vs zs) H2 Q (E σ) := by
    have q : ∀ a z H2, (([a] : List V).length = 1 ∧ ([z] : List V).length = 1 ∧ sp (gV [a] [z]) H2 Q (E σ)) = sp ([a, z] ++ []) H2 Q (E σ) := fun a z H2 => propext ⟨fun w => by rw [← hgv, List.append_nil]; exact w.2.2, fun w => ⟨rfl, rfl, by rw [hgv]; rw [List.append_nil] at w; exact w⟩⟩
    show te σ H fun a H1 => te2 σ H1 fun z H2 => ([a] : List V).length = 1 ∧ ([z] : List V).length = 1 ∧ sp (gV [a] [z]) H2 Q (E σ)
    simp only [q]
    exact h
  refine wpAny_Call_Name_kw (ld_glob I hg (pos := p) hm ?_ hdb)
  refine PySem.W.callWith_KW (h₀ := X.base) I.ok.mod.kin hk hall (thn ((pa_cons ha pa_nil he).run pos pins s σ H _ I h1) fun us s1 ⟨vs, H1, I1, r, q⟩ => ?_) hpl he
  refine thn ((pk_cons hz pk_nil).run pos pins s1 σ H1 _ I1 q) fun ws s2 ⟨zs, H2, I2, rz, l1, l2, q2⟩ => ⟨I2.kIn, ?_⟩
  rw [hks]
  have r2 := hb.rel r rz
  refine wpAny_call (codeAny_mono (F.go X.A X.stack s2 H2 ⟨us, [kn].zip ws⟩ (g us ws) (gV vs zs) Q (E σ) hr gs I2.env0 (hb.to s2 us ws I2.kIn (r.length.symm.trans l1) (rz.length.symm.trans l2)) r2 q2) fun res s' z => ?_)
  match res, z with
  | .error u, z => exact hx σ pins H2 s2 u s' I2 z
  | .ok (.ret u), z => exact I2.after z
  | .ok .next, z => exact z.elim
  | .ok .brk, z => exact z.elim
  | .ok .cont, z => exact z.elim
end
/-! ### math.lcm -/
theorem vals_int2 {i j : Int} {us : List Value} (r : Vals [V.int i, V.int j] us) : ∃ t u, us = [.int i t, .int j u] := by
  cases r with
  | cons a r => cases r with
    | cons b r => cases r with
      | nil =>
        obtain ⟨t, rfl⟩ := a
        obtain ⟨u, rfl⟩ := b
        exact ⟨t, u, rfl⟩
theorem log_max {a b k : Nat} (ha : a.log2 < k) (hb : b.log2 < k) : (max a b).log2 < k := by
  by_cases h : a ≤ b
  · rw [Nat.max_eq_right h]; exact hb
  · rw [Nat.max_eq_left (by omega)]; exact ha
theorem log_lcm {a b : Nat} (ha : a.log2 < 4000) (hb : b.log2 < 4000) : (Nat.lcm a b).log2 < 8002 := by
  have la : a < 2 ^ 4000 := Nat.lt_of_lt_of_le Nat.lt_log2_self (Nat.pow_le_pow_right (by decide) ha)
  have lb : b < 2 ^ 4000 := Nat.lt_of_lt_of_le Nat.lt_log2_self (Nat.pow_le_pow_right (by decide) hb)
  have l : Nat.lcm a b ≤ a * b := Nat.div_le_self _ _
  by_cases z : Nat.lcm a b = 0
  · rw [z, Nat.log2_zero]; decide
  · refine (Nat.log2_lt z).mpr (Nat.lt_of_le_of_lt l ?_)
    refine Nat.lt_of_le_of_lt (Nat.mul_le_mul (Nat.le_of_lt la) (Nat.le_of_lt lb)) ?_
    rw [← Nat.pow_add]
    exact Nat.pow_lt_pow_right (by decide) (by decide)
theorem cr_lcm {X : Cx} : CallR X (.builtin "math.lcm") crLcm := by
  intro pins s σ H vs us Q I r h
  unfold crLcm at h
  obtain ⟨a, b, rfl, ⟨ha, hb⟩, q⟩ := h
  obtain ⟨t, u, rfl⟩ := vals_int2 r
  have one : (1 : Nat).log2 < 4000 := by decide +kernel
  have m1 := log_max one ha
  have m2 := log_max ha hb
  have e : Nat.lcm 1 a.natAbs = a.natAbs := by simp [Nat.lcm]
  have g := PySem.W.mg_run_lcm a t b u (by omega) (by omega) (by
    rw [e, Int.natAbs_natCast]
    exact Nat.lt_of_lt_of_le (log_lcm ha hb) (by decide))
  rw [e] at g
  exact call_function_meets PySem.W.MGF.kind_lcm PySem.W.MGF.plain_lcm PySem.W.MGF.entry_lcm (PySem.W.MGF.args_lcm _ _) (Gives.meets g) ⟨.int ((Nat.lcm a.natAbs b.natAbs : Nat) : Int), H, I.tok (s.toks + 1), ⟨s.toks, rfl⟩, q⟩
end Ez

set_option Elab.async false
set_option linter.all false
set_option maxRecDepth 100000
set_option maxHeartbeats 2000000
namespace HotE
open PySem PySem.Spec PyProof.Rows HotX
section
variable {prog : Program} {w : World} {A : Around} {E : Value → Shared → Prop} {s : Shared}
/-- the last part of a walk's end: StopIteration is made and raised while another exception is handled -/
theorem stop_hot {α : Type} {A' : Around} {x1 : Addr} {h : Heap} {E' : Value → Shared → Prop} (hot : HotAt A' x1 h)
    (hE : ∀ a h', (∀ b o, h.get? b = some o → h'.get? b = some o) → { s with heap := h' }.TypeIs (.ref a) "StopIteration" → E' (.ref a) { s with heap := h' }) : wpAny (model prog w) A' ((newExc (.type "StopIteration") [] >>= fun e => raiseNew e : Sem α)) (fun _ _ => False) E' { s with heap := h } := by
  refine wpAny_bind ?_; simp only [newExc, newTuple]; refine wpAny_bind (wpAny_newObj_type ?_ (by size_fits)); refine wpAny_bind (m := firstArgMember _ _) (wpAny_of_eq (a := Value.none) (by first | rfl | (simp only [firstArgMember]; rfl)) ?_); refine wpAny_newObj_type ?_ (by size_fits)
  obtain ⟨hh, o1, vs1, h1, d1, c1⟩ := hot
  refine raiseNew_hot ⟨hh, o1, vs1, Heap.get?_push_of_some _ (Heap.get?_push_of_some _ h1), d1, c1⟩ (Nat.ne_of_lt (Heap.lt_size (Heap.get?_push_of_some _ h1))) (Heap.get?_push_size _ rfl) rfl (by first | (simp; done) | (simp; omega) | (simp only [Array.size_append]; simp; omega)) ?_
  refine hE _ _ (fun b o e => ?_) ?_
  · rw [Heap.get?_update_other _ _ (Nat.ne_of_gt (Heap.lt_size (Heap.get?_push_of_some _ e)))]; exact Heap.get?_push_of_some _ (Heap.get?_push_of_some _ e)
  · exact ⟨_, Heap.get?_update_self _ (Heap.get?_push_size _ rfl) rfl, rfl⟩
theorem list_end_hot {it l x1 : Addr} {i : Nat} {items : Array Value} {Q : Option Value → Shared → Prop} (hot : HotAt A x1 s.heap) (ne : x1 ≠ it) (hit : s.heap.IsListIter it l i) (hl : s.heap.IsList l items) (hx : items[i]? = none)
    (hQ : ∀ h', (∀ b o, b ≠ it → s.heap.get? b = some o → h'.get? b = some o) → Q none { s with heap := h' }) : wpAny (model prog w) A (pyNext (.ref it)) Q E s := by
  obtain ⟨oi, goi, hc, hd⟩ := id hit; obtain ⟨ol, gol, _, nl, hdl⟩ := hl; obtain ⟨hh, o1, vs1, h1, d1, c1⟩ := hot
  unfold pyNext; refine wpAny_bind (wpAny_attempt (wpAny_callSpecial?_slot (name := Str.ofString "__next__") hit.typeIs slot_listiter_next (wpAny_call_entry slot_listiter_next hit.typeIs entry_listiter_next ?_ (args_listiter_next _))))
  show wpAny _ _ (field (.ref it) 0 >>= _) _ _ s; refine wpAny_bind (wpAny_field goi hd (x := .ref l) rfl ?_); show wpAny _ _ (if (Value.ref l == Value.none) = true then _ else _) _ _ s; rw [if_neg (show ¬ ((Value.ref l == Value.none) = true) from Bool.false_ne_true)]
  show wpAny _ _ (field (.ref it) 1 >>= _) _ _ s; refine wpAny_bind (wpAny_field goi hd (x := .int i 0) rfl ?_); show wpAny _ _ (seqItems? (.ref l) >>= _) _ _ s; refine wpAny_bind (wpAny_seqItems gol hdl ?_); simp only [Int.toNat_natCast, hx]
  refine wpAny_bind (wpAny_rule (wpAny_bind (wpAny_setField goi hd (by simp) ?_))); have other : ∀ b o, b ≠ it → s.heap.get? b = some o → (s.heap.update it (Obj.mapFields (·.setIfInBounds 0 .none))).get? b = some o := fun b o z e => (Heap.get?_update_other _ _ (Ne.symm z)).trans e
  refine wpAny_mono (stop_hot (x1 := x1) ⟨hh, o1, vs1, ?_, d1, c1⟩ fun a h' up ty => ?_) (fun _ _ z => z.elim) (fun _ _ z => z)
  · first | exact other _ _ ne h1 | (rw [Heap.get?_update_other _ _ (Ne.symm ne)]; exact h1)
  · refine wpAny_bind (wpAny_isInstance (T := "StopIteration") (b := true) ty isSubtype_stop ?_); refine wpAny_pure (hQ _ fun b o z e => up _ _ ?_); first | exact other _ _ z e | (rw [Heap.get?_update_other _ _ (Ne.symm z)]; exact e)
theorem tuple_end_hot {it l x1 : Addr} {i : Nat} {items : Array Value} {Q : Option Value → Shared → Prop} (hot : HotAt A x1 s.heap) (ne : x1 ≠ it) (hit : s.heap.IsTupleIter it l i) (hl : s.heap.IsTuple l items) (hx : items[i]? = none)
    (hQ : ∀ h', (∀ b o, b ≠ it → s.heap.get? b = some o → h'.get? b = some o) → Q none { s with heap := h' }) : wpAny (model prog w) A (pyNext (.ref it)) Q E s := by
  obtain ⟨oi, goi, hc, hd⟩ := id hit; obtain ⟨ol, gol, _, nl, hdl⟩ := hl; obtain ⟨hh, o1, vs1, h1, d1, c1⟩ := hot
  unfold pyNext; refine wpAny_bind (wpAny_attempt (wpAny_callSpecial?_slot (name := Str.ofString "__next__") hit.typeIs F.slot_tuple_iterator_next (wpAny_call_entry F.slot_tuple_iterator_next hit.typeIs F.entry_tuple_iterator_next ?_ (F.args_tuple_iterator_next_1 _))))
  show wpAny _ _ (field (.ref it) 0 >>= _) _ _ s; refine wpAny_bind (wpAny_field goi hd (x := .ref l) rfl ?_); show wpAny _ _ (if (Value.ref l == Value.none) = true then _ else _) _ _ s; rw [if_neg (show ¬ ((Value.ref l == Value.none) = true) from Bool.false_ne_true)]
  show wpAny _ _ (field (.ref it) 1 >>= _) _ _ s; refine wpAny_bind (wpAny_field goi hd (x := .int i 0) rfl ?_); show wpAny _ _ (seqItems? (.ref l) >>= _) _ _ s; refine wpAny_bind (wpAny_seqItems gol hdl ?_); simp only [Int.toNat_natCast, hx]
  refine wpAny_bind (wpAny_rule (wpAny_bind (wpAny_setField goi hd (by simp) ?_))); have other : ∀ b o, b ≠ it → s.heap.get? b = some o → (s.heap.update it (Obj.mapFields (·.setIfInBounds 0 .none))).get? b = some o := fun b o z e => (Heap.get?_update_other _ _ (Ne.symm z)).trans e
  refine wpAny_mono (stop_hot (x1 := x1) ⟨hh, o1, vs1, ?_, d1, c1⟩ fun a h' up ty => ?_) (fun _ _ z => z.elim) (fun _ _ z => z)
  · first | exact other _ _ ne h1 | (rw [Heap.get?_update_other _ _ (Ne.symm ne)]; exact h1)
  · refine wpAny_bind (wpAny_isInstance (T := "StopIteration") (b := true) ty isSubtype_stop ?_); refine wpAny_pure (hQ _ fun b o z e => up _ _ ?_); first | exact other _ _ z e | (rw [Heap.get?_update_other _ _ (Ne.symm z)]; exact e)
end
end HotE

set_option Elab.async false
set_option linter.all false
set_option maxRecDepth 100000
set_option maxHeartbeats 2000000
namespace Ez
open L2 L2H PySem PyProof.Rows PySem.Spec
section
variable {P : Program} {w : World} {K : PySem.W.Frag} {tg : Expr}
theorem hot_at {X : Cx} {pins : List (Addr × Obj)} {σ : L2.St} {H : Hp} {s : Shared} {it : Addr} (c : HotC X) (I : Inv X pins σ H s) (f : ∀ p ∈ X.pn ++ pins, p.1 ≠ it) : ∃ x1, HotX.HotAt X.A x1 s.heap ∧ x1 ≠ it := by
  obtain ⟨p, ⟨hh, v1, e1, c1⟩, hp⟩ := c
  have m : p ∈ X.pn ++ pins := List.mem_append_left _ hp
  exact ⟨p.1, ⟨hh, p.2, v1, (I.pin p m).1, e1, c1⟩, f p m⟩
/-- a list is walked while an exception is handled -/
theorem turnH_list (a it : Addr) : TurnH P w K tg (Itl K a) [it] it (fun i h => h.IsListIter it a i) := by
  refine ⟨List.mem_singleton.mpr rfl, fun i h st b hb => ?_, fun i h h' st k => st.at fun o e => k it (List.mem_singleton.mpr rfl) o e, ?_, ?_, fun _ _ _ _ _ st h => wpAny_pyIter_listiter st h⟩
  · obtain ⟨o, e, _, d⟩ := st
    rw [List.mem_singleton.mp hb]
    exact ⟨o, e, fun v z => nomatch d.symm.trans z⟩
  · rintro X rfl rfl rfl hc i pins s σ H E I free st ⟨vs, v, sq, at_⟩
    obtain ⟨us, rel, pl, _⟩ := I.list sq; obtain ⟨u, hu, ru⟩ := rel.get at_; obtain ⟨g0, g1, g2, g3, g4, g5⟩ := free it (List.mem_singleton.mpr rfl)
    refine wpAny_pyNext_list_item st pl.isList (x := u) (by simpa using hu) fun h2 st2 same => ⟨u, rfl, ?_⟩
    obtain ⟨o, e, c, d⟩ := id st2
    exact go_of (s := { s with heap := h2 }) e c d (by decide) ⟨v, H, I.turned (t' := s.toks) (fun b o z q => (same.2 b z).trans q) g0 g1 g3 g4 g5, ru, ⟨rfl, fun ys hy => I.list_inj hy sq ▸ at_⟩, st2, fun b hb => (free b hb).1⟩
  · rintro X rfl rfl rfl hc i pins s σ H E I free st ⟨vs, sq, many⟩
    obtain ⟨us, rel, pl, _⟩ := I.list sq; obtain ⟨g0, g1, g2, g3, g4, g5⟩ := free it (List.mem_singleton.mpr rfl)
    obtain ⟨x1, hot, ne⟩ := hot_at hc I g5
    have len := rel.length
    exact HotE.list_end_hot hot ne st pl.isList (by simp; omega) fun h2 k => ⟨rfl, I.turned (t' := s.toks) (fun b o z q => k b o z q) g0 g1 g3 g4 g5⟩
/-- the same of a tuple -/
theorem turnH_tup (a it : Addr) : TurnH P w K tg (Itt K a) [it] it (fun i h => h.IsTupleIter it a i) := by
  refine ⟨List.mem_singleton.mpr rfl, fun i h st b hb => ?_, fun i h h' st k => st.at fun o e => k it (List.mem_singleton.mpr rfl) o e, ?_, ?_, fun _ _ _ _ _ st h => wpAny_pyIter_tupleiter st h⟩
  · obtain ⟨o, e, _, d⟩ := st
    rw [List.mem_singleton.mp hb]
    exact ⟨o, e, fun v z => nomatch d.symm.trans z⟩
  · rintro X rfl rfl rfl hc i pins s σ H E I free st ⟨vs, v, sq, at_⟩
    obtain ⟨us, rel, pl, _⟩ := I.tuple sq; obtain ⟨u, hu, ru⟩ := rel.get at_; obtain ⟨g0, g1, g2, g3, g4, g5⟩ := free it (List.mem_singleton.mpr rfl)
    refine wpAny_pyNext_tuple_item st (show s.heap.IsTuple a us.toArray from pl) (x := u) (by simpa using hu) fun h2 st2 same => ⟨u, rfl, ?_⟩
    obtain ⟨o, e, c, d⟩ := id st2
    exact go_of (s := { s with heap := h2 }) e c d (by decide) ⟨v, H, I.turned (t' := s.toks) (fun b o z q => (same.2 b z).trans q) g0 g1 g3 g4 g5, ru, ⟨rfl, fun ys hy => I.tuple_inj hy sq ▸ at_⟩, st2, fun b hb => (free b hb).1⟩
  · rintro X rfl rfl rfl hc i pins s σ H E I free st ⟨vs, sq, many⟩
    obtain ⟨us, rel, pl, _⟩ := I.tuple sq; obtain ⟨g0, g1, g2, g3, g4, g5⟩ := free it (List.mem_singleton.mpr rfl)
    obtain ⟨x1, hot, ne⟩ := hot_at hc I g5
    have len := rel.length
    exact HotE.tuple_end_hot hot ne st (show s.heap.IsTuple a us.toArray from pl) (by simp; omega) fun h2 k => ⟨rfl, I.turned (t' := s.toks) (fun b o z q => k b o z q) g0 g1 g3 g4 g5⟩
end
theorem pi_seqH {X : Cx} {tg l : Expr} {tl : TE} (hl : PE X l tl) : PIH X tg l (iSeq X.K tl) := by
  refine ⟨fun pins s σ H R I h => ?_⟩
  refine thn (hl.run pins s σ H _ I h) ?_
  rintro v s1 ⟨x, H1, I1, r1, a, rfl, q1⟩
  cases r1
  have new : ∀ (o : Obj), (∀ b ∈ [s1.heap.objs.size], FpOk X pins H1 b) := fun o b hb => List.mem_singleton.mp hb ▸ I1.fpOk (Nat.le_refl _) (I1.hok.fresh (Nat.le_refl _))
  rcases q1 with ⟨⟨xs, hq⟩, q⟩ | ⟨⟨xs, hq⟩, q⟩
  · obtain ⟨its, rv, pl, _⟩ := I1.list hq
    exact wpAny_pyIter_list pl.isList ⟨_, [s1.heap.objs.size], _, _, H1, rfl, I1.kept (t' := s1.toks) fun b o e => Heap.get?_push_of_some _ e, turnH_list a _, ⟨_, Heap.get?_push_size _ rfl, rfl, rfl⟩, new default, q⟩
  · obtain ⟨its, rv, pl, _⟩ := I1.tuple hq
    exact wpAny_pyIter_tuple (show s1.heap.IsTuple a its.toArray from pl) ⟨_, [s1.heap.objs.size], _, _, H1, rfl, I1.kept (t' := s1.toks) fun b o e => Heap.get?_push_of_some _ e, turnH_tup a _, ⟨_, Heap.get?_push_size _ rfl, rfl, rfl⟩, new default, q⟩
end Ez

set_option Elab.async false
set_option linter.all false
set_option maxRecDepth 100000
set_option maxHeartbeats 2000000
namespace Ez
open L2 L2H PySem PyProof.Rows PySem.Spec
/-! ### a comprehension while an exception is handled -/
abbrev blkH (X : Cx) (s : Shared) (H : Hp) (scope : Scope) (cenv : Env) (fp : List Addr) : Cx := { X.blk s H scope cenv fp with pn := X.pn }
section
variable {X : Cx} {pins : List (Addr × Obj)} {σ σ' : L2.St} {H H' : Hp} {s s' : Shared}
theorem blkH_of {scope : Scope} {cenv : Env} {fp : List Addr} {qs : List (Addr × Obj)} (J : Inv (X.blk s H scope cenv fp) qs σ' H' s') (k : ∀ p ∈ X.pn, s'.heap.get? p.1 = some p.2 ∧ H' p.1 = none ∧ p.1 ≠ cenv.locals ∧ p.1 ∉ frs X.stack ∧ ∀ v, p.2.data ≠ .cell v) : Inv (blkH X s H scope cenv fp) qs σ' H' s' :=
  { ok := ⟨J.ok.mod, J.ok.kind, J.ok.glob, J.ok.blt, J.ok.above, J.ok.inj, J.ok.has, J.ok.cab, J.ok.hd, J.ok.frames, J.ok.stk, J.ok.exf, J.ok.bs, J.ok.bsz, J.ok.noex, J.ok.exfs, J.ok.funs, J.ok.frf⟩
    os := J.os, bare := J.bare, base := J.base, loc := J.loc, cell := J.cell, free := J.free, freeC := J.freeC
    pin := fun p hp => (List.mem_append.mp hp).elim (k p) fun hq => J.pin p (List.mem_append_right _ hq)
    hok := J.hok, len := J.len }
end
section
variable {X : Cx}
theorem pe_lcH {elt tg iter : Expr} {ifs : List Expr} {scope : Scope} {own : List (Str × Nat)} {pos : Pos} {wi : TI} {g : TG} {tt : TT} {te : TE} (hc : HotC X) (hN : X.N.Nodup) (hi : PIH X tg iter wi) (ok : BlkOk X.N X.env.scope scope own)
    (hg : ∀ (s : Shared) (H : Hp) (C : Addr) (cl : List (Str × Addr)) (fp : List Addr), PG (blkH X s H scope (compEnvC scope cl C X.env) fp) tg g) (ht : ∀ (s : Shared) (H : Hp) (C : Addr) (cl : List (Str × Addr)) (fp : List Addr), PTs (blkH X s H scope (compEnvC scope cl C X.env) fp) ifs tt)
    (he : ∀ (s : Shared) (H : Hp) (C : Addr) (cl : List (Str × Addr)) (fp : List Addr), PE (blkH X s H scope (compEnvC scope cl C X.env) fp) elt te) (hs : ∀ x, foldedSetIterable iter X.env x = pure x := by intro _; rfl) :
    PE X (.ListComp elt [⟨tg, iter, ifs, 0⟩] scope pos) (tLc wi g tt te (own.map (·.2))) := by
  refine ⟨fun pins s σ H Q I wish => ?_⟩
  have hfree : ∀ y ∈ scope.names, y.2 = .free → ∃ c, X.env.cells.lookup y.1 = some c := fun y hy e => (ok.free y hy e).elim (fun z => I.ok.has _ (.inl z)) fun z => I.ok.has _ (.inr z)
  rw [eval_ListComp]
  refine wpAny_comprehension_free (use := none) rfl hs (closure_ok hfree) ok.kind (fun y hy e => (ok.uniq y hy).trans (congrArg some e)) (thn (hi.run pins s σ H _ I wish) ?_)
  intro _ s1 hx
  refine thn hx ?_
  rintro _ s2 ⟨it, fp, tn, J, H2, rfl, I2, T, st2, free2, q⟩
  refine wpAny_newObj_type (newEnv_comp ?_) (show 0 ≤ sizeLine by decide)
  obtain ⟨D, hD⟩ : ∃ D, s2.heap.objs.size = D := ⟨_, rfl⟩
  rw [hD]
  have hDn : H2 D = none := I2.hok.fresh (Nat.le_of_eq hD)
  obtain ⟨W, ⟨m0, w0⟩, turn⟩ := q D hDn
  obtain ⟨s3, hs3⟩ : ∃ s3 : Shared, ({ s2 with heap := s2.heap.push { cls := .type "list", data := .seq ([] : List Value).toArray } } : Shared) = s3 := ⟨_, rfl⟩
  rw [hs3]
  have heap3 : s3.heap = s2.heap.push { cls := .type "list", data := .seq ([] : List Value).toArray } := congrArg Shared.heap hs3.symm
  have I3 : Inv X pins σ (upd H2 D (.lst [])) s3 := hs3 ▸ I2.laid (t' := s2.toks) (fun b o e => Heap.get?_push_of_some _ e) (Nat.le_of_eq hD) ⟨Nat.zero_le _, [], 0, .nil, hD ▸ Heap.get?_push_size _ rfl⟩
  have f3 : ∀ b ∈ fp, FpOk X pins (upd H2 D (.lst [])) b ∧ b < s3.heap.objs.size := fun b hb => by
    obtain ⟨_, at2, _⟩ := T.obj _ _ st2 b hb
    have lt := Heap.lt_size at2
    exact ⟨⟨(upd_ne (show b ≠ D from hD ▸ Nat.ne_of_lt lt)).trans (free2 b hb).1, (free2 b hb).2⟩, by rw [heap3, Heap.size_push]; exact Nat.lt_succ_of_lt lt⟩
  have st3 : tn 0 s3.heap := T.keep _ _ _ st2 fun b _ o e => heap3 ▸ Heap.get?_push_of_some _ e
  obtain ⟨H3, hH3⟩ : ∃ H3, upd H2 D (.lst []) = H3 := ⟨_, rfl⟩
  rw [hH3] at I3 f3 w0
  have pg := hg s3 H3 s3.heap.objs.size (cellsFrom (s3.heap.objs.size + 1) scope.names (cloFrom X.env.cells scope.names [])) fp
  have pt := ht s3 H3 s3.heap.objs.size (cellsFrom (s3.heap.objs.size + 1) scope.names (cloFrom X.env.cells scope.names [])) fp
  have pe := he s3 H3 s3.heap.objs.size (cellsFrom (s3.heap.objs.size + 1) scope.names (cloFrom X.env.cells scope.names [])) fp
  have I4 := block_start I3 ok hN f3
  obtain ⟨ce, hce⟩ : ∃ ce, compEnvC scope (cellsFrom (s3.heap.objs.size + 1) scope.names (cloFrom X.env.cells scope.names [])) s3.heap.objs.size X.env = ce := ⟨_, rfl⟩
  have cL : ce.locals = s3.heap.objs.size := hce ▸ rfl
  obtain ⟨s4, hs4⟩ : ∃ s4 : Shared, ({ s3 with heap := pushCells (s3.heap.push { cls := .type "dict", data := .dict #[] }) scope.names } : Shared) = s4 := ⟨_, rfl⟩
  have up4 : ∀ b o, s3.heap.get? b = some o → s4.heap.get? b = some o := fun b o e => hs4 ▸ pushCells_keeps _ _ _ _ (Heap.get?_push_of_some _ e)
  rw [hce] at I4 pg pt pe
  rw [hs4] at I4
  have J4 : Inv (blkH X s3 H3 scope ce fp) [] (wipe σ (own.map (·.2))) H3 s4 := blkH_of I4 fun p hp => by
    obtain ⟨g1, g2, g3, g4, g5⟩ := I3.pin p (List.mem_append_left _ hp)
    exact ⟨up4 _ _ g1, g2, by rw [cL]; exact Nat.ne_of_lt (Heap.lt_size g1), fun hm => (List.mem_cons.mp (I3.stkSub p.1 hm)).elim g3 g4, g5⟩
  have hot4 : HotC (blkH X s3 H3 scope ce fp) := hc
  have stat : ∀ {σ' : L2.St} {H' : Hp} {s' : Shared}, Inv (blkH X s3 H3 scope ce fp) [] σ' H' s' → (∀ b ∈ fp, H' b = none) → ∀ b ∈ fp, FpOk (blkH X s3 H3 scope ce fp) [] H' b := fun {σ' H' s'} J' hn b hb =>
    ⟨hn b hb, (J'.ok.exf b hb).1, J'.ok.exfs b hb, .inl hb, fun x c e => (J'.ok.exf b hb).2 x c e, fun p hp => (f3 b hb).1.2.2.2.2.2 p (by rw [List.append_nil] at hp; exact List.mem_append_left _ hp)⟩
  show codeAny (model X.prog X.w) X.A (.compStart (.ListComp elt [⟨tg, iter, ifs, 0⟩] scope pos) 0 (.ref it) (.ref D) (compEnvC scope (cellsFrom (s3.heap.objs.size + 1) scope.names (cloFrom X.env.cells scope.names [])) s3.heap.objs.size X.env)) (compPost (model X.prog X.w) X.A X.xe none (EP X pins σ Q) (.ref D) s3.heap.objs.size) ({ s3 with heap := pushCells (s3.heap.push { cls := .type "dict", data := .dict #[] }) scope.names } : Shared)
  rw [hce, hs4]
  have loop : codeAny (model X.prog X.w) X.A (.compLoop (.ListComp elt [⟨tg, iter, ifs, 0⟩] scope pos) 0 (.ref it) (.ref D) ce) (compPost (model X.prog X.w) X.A X.xe none (EP X pins σ Q) (.ref D) s3.heap.objs.size) s4 := by
    refine compLoop_any (fun n s' => ∃ i H', Inv (blkH X s3 H3 scope ce fp) [] (wipe σ (own.map (·.2))) H' s' ∧ tn i s'.heap ∧ (∀ b ∈ fp, H' b = none) ∧ W i n H') ?_ m0 ⟨0, H3, J4, T.keep _ _ _ st3 fun b _ o e => up4 b o e, fun b hb => (f3 b hb).1.1, w0⟩
    rintro n s5 ⟨i, H5, I5, st5, n5, w5⟩
    rcases turn i n H5 w5 with ⟨stop, fin⟩ | ⟨go, Nx, less, step⟩
    · refine thnF (T.done (blkH X s3 H3 scope ce fp) rfl rfl rfl hot4 i [] s5 _ H5 (fun _ _ => False) I5 (stat I5 n5) st5 stop) ?_
      rintro _ s6 ⟨rfl, I6⟩
      have I7 : Inv X pins σ H5 s6 := I3.call' (ch := fp) I6.os I6.base I6.hok I6.bare fun b hb => ⟨(f3 b hb).1.2.2.2.1, (f3 b hb).1.2.1, (f3 b hb).1.2.2.2.2.1, (f3 b hb).1.2.2.2.2.2⟩
      obtain ⟨m, ns, _⟩ := I6.loc
      have ns : s6.heap.Ns ce.locals m := ns
      have none5 : H5 ce.locals = none := I6.free
      rw [cL] at ns none5
      refine ⟨m, ns, fun h'' same => ?_⟩
      obtain ⟨g0, g1, g2, g3, g4, g5⟩ := I3.fpOk (Nat.le_refl _) none5
      exact ⟨.ref D, H5, I7.turned (t' := s6.toks) (fun b o hb e => (same.2 b hb).trans e) g0 g1 g3 g4 g5, rfl, fin⟩
    · refine thnF (T.item (blkH X s3 H3 scope ce fp) rfl rfl rfl hot4 i [] s5 _ H5 (fun _ _ => False) I5 (stat I5 n5) st5 go) ?_
      rintro _ s6 ⟨u, rfl, h6⟩
      refine thnF h6 ?_
      rintro _ s7 ⟨x, H7, I7, r7, y7, st7, n7⟩
      refine thnF (pg.run _ s7 _ H7 x u _ (I7.pinned (stat I7 n7) (T.obj _ _ st7)) r7 (step x H7 y7)) ?_
      rintro _ s8 ⟨σ8, H8, I8, same8, q8⟩
      refine thnF (pt.run _ s8 σ8 H8 _ I8 q8) ?_
      rintro b s9 ⟨H9, I9, q9⟩
      have over : ∀ {s' : Shared} {H' : Hp}, Inv (blkH X s3 H3 scope ce fp) ([] ++ pinsAt fp s7.heap) σ8 H' s' → Nx H' → ∃ m, m < n ∧ ∃ i H', Inv (blkH X s3 H3 scope ce fp) [] (wipe σ (own.map (·.2))) H' s' ∧ tn i s'.heap ∧ (∀ b ∈ fp, H' b = none) ∧ W i m H' := fun {s' H'} I' nx => by
        obtain ⟨m', lt, w'⟩ := less H' nx
        have stay : ∀ b ∈ fp, ∀ o, s7.heap.get? b = some o → s'.heap.get? b = some o ∧ H' b = none := fun b hb o e => ⟨(I'.pin (b, o) (List.mem_append_right _ (List.mem_append_right _ (mem_pinsAt hb e)))).1, (I'.pin (b, o) (List.mem_append_right _ (List.mem_append_right _ (mem_pinsAt hb e)))).2.1⟩
        refine ⟨m', lt, i + 1, H', (I'.unpinned (pins := [])).weak (by rw [← same8, wipe_length]) (fun j v e => (wipe_some (same8 ▸ e)).1), T.keep _ _ _ st7 fun b hb o e => (stay b hb o e).1, fun b hb => ?_, w'⟩
        obtain ⟨o, e, _⟩ := T.obj _ _ st7 b hb
        exact (stay b hb o e).2
      cases b with
      | false => exact over I9 (by simpa using q9)
      | true =>
        refine thnF (pe.run _ s9 σ8 H9 _ I9 (by simpa using q9)) ?_
        rintro z s10 ⟨yv, H10, I10, r10, acc, hD10, few, nx⟩
        exact app_ok (X := blkH X s3 H3 scope ce fp) I10 hD10 few r10 fun s11 I11 => over I11 nx
  exact codeAny_compStart_list loop (T.self X.A 0 _ _ _ (T.keep _ _ _ st3 fun b _ o e => up4 b o e) loop)
end
end Ez

set_option Elab.async false
set_option linter.all false
set_option maxRecDepth 100000
namespace Ez
open L2 L2H PySem PyProof.Rows PySem.Spec
/-! ### defs that are called in an except suite -/
section
variable {Pg : Program} {w : World} {B : KB} {mg : Str → Option Value} {base : Heap} {k : Nat} {f : Addr} {fd : FuncData} {ps : List Str}
theorem fn_RH {T : Text} {con : Nat → Addr} (X : TxOk B T con) {n g : Nat} {d : Df} (hd : T.df g = some d) {x qual : Str} {st : Stmt} {N : List Str} (F : Fun B.K x qual st f fd) (S : FnScope N ps (defScope st)) (hN : N.length = d.vars) (hp : ps.length = d.ps)
    (h : ∀ (cdv : Value) (A : Around) (outer : List Env) (s : Shared) (H : Hp) (E : XK) (p : Addr × Obj), Hot1 A p → RoomH k (A.deeper (envOfC qual (defScope st) s.heap.objs.size f cdv)) →
      PSs (cxH (L2N.CX Pg w) Pg w B.K mg base N qual (defScope st) f cdv A outer s H E p) (defBody st) (denS (dn B T con n E) d.body).ts) : FnH Pg w B.K mg base (L2N.CX Pg w) (k + 1) f fd ps (spR B T (n + 1) g) := by
  obtain ⟨_, _, _, _, _, _, cdv, _, _, rfl, look, code⟩ := F.ex
  exact fn_ofH look code S (spR_len hd hp) fun A outer s H vs Q E p hot room z => ⟨_, h cdv A outer s H E p hot room, body_run X hd hN z⟩
theorem fnH_run0 {T : Text} {g : Nat} : FnH Pg w B.K mg base (L2N.CX Pg w) k f fd ps (spR B T 0 g) := ⟨fun vs H Q E ⟨_, W, G, ds, _, _, z, _⟩ => z.elim, fun _ _ _ _ _ _ _ _ _ _ _ _ _ _ _ _ ⟨_, W, G, ds, _, _, z, _⟩ => z.elim⟩
end
theorem FnH.up {P : Program} {w : World} {K : PySem.W.Frag} {mg : Str → Option Value} {base : Heap} {CX : CXT} {j k : Nat} {f : Addr} {fd : FuncData} {ps : List Str} {sp : Sp} (h : FnH P w K mg base CX j f fd ps sp) (l : j ≤ k) : FnH P w K mg base CX k f fd ps sp :=
  ⟨h.len, fun A outer s H args us vs Q E p r hot pin e b v q => h.run A outer s H args us vs Q E p (r.mono l) hot pin e b v q⟩
theorem hot_suite {X : Cx} {a : Addr} {oe : Obj} {cls : Value} {d : Option Addr} {pn : List (Addr × Obj)} (hz : L2N.Zn cls d oe) (hf : ∃ vs, oe.data = .fields vs) : HotC (X.suite a ((a, oe) :: pn)) := by
  obtain ⟨vs, e⟩ := hf
  exact ⟨(a, oe), ⟨rfl, vs, e, hz.2.2 vs e⟩, List.mem_cons_self⟩
theorem hot_cxH {CX : CXT} {P : Program} {w : World} {K : PySem.W.Frag} {mg : Str → Option Value} {base : Heap} {N : List Str} {qual : Str} {scope : Scope} {f : Addr} {cd : Value} {A : Around} {outer : List Env} {s : Shared} {H : Hp} {E : XK} {p : Addr × Obj} (hot : Hot1 A p) : HotC (cxH CX P w K mg base N qual scope f cd A outer s H E p) := ⟨p, hot, List.mem_singleton.mpr rfl⟩
theorem hu64S {A : Around} {k : Nat} {v : Option Value} (h : Room k A) : (A.mark v).units + 64 < cLine := by
  have := h.un
  show A.units + 64 < cLine
  omega
theorem hu65S {A : Around} {k : Nat} {v : Option Value} (h : Room k A) : (A.mark v).units + 65 < cLine := by
  have := h.un
  show A.units + 65 < cLine
  omega
theorem hu64H {A : Around} {k : Nat} (h : RoomH k A) : A.units + 64 < cLine := by
  have := h.un
  omega
theorem pi_seqHK {X : Cx} {K : PySem.W.Frag} (e : X.K = K) {tg l : Expr} {tl : TE} (hl : PE X l tl) : PIH X tg l (iSeq K tl) := e ▸ pi_seqH hl
section
variable {X : Cx} {CX : CXT} {k : Nat} {f : Addr} {fd : FuncData} {ps : List Str} {sp : Sp} {E : L2.St → XK} {x : Str} {q pos : Pos} {e : Expr} {es : List Expr} {t : TA}
theorem pe_callHS (F : FnH X.prog X.w X.K X.mg X.base CX k f fd ps sp) (hr : RoomH k X.A) (hc : HotC X) (hg : Gl X x) (hm : X.mg x = some (.ref f)) (hk : PySem.W.keepIn X.K (.ref f) = true) (hb : Binds X.K fd ps []) (hx : ∀ σ, PassesAt CX X σ (E σ))
    (ha : PA X (e :: es) t) (hdb : (x == ("__debug__" : Str)) = false := by decide) (he : starEach (e :: es) X.env = (false, eval e X.env) :: starEach es X.env := by rfl) (hpl : (backTo pos (starEach es X.env)).any (·.1) = false := by rfl) :
    PE X (.Call (.Name x q) (e :: es) [] pos) (tCallSD sp [] E t) := by
  have P := pe_callH (pos := pos) (q := q) F hr hc hg hm hk hb hx ha hdb he hpl
  have z : tCallSD sp [] E t = tCallS sp E t := by
    funext σ H Q
    show (t σ H fun vs H1 => sp (vs ++ []) H1 Q (E σ)) = t σ H fun vs H1 => sp vs H1 Q (E σ)
    simp only [List.append_nil]
  rw [z]
  exact P
end
end Ez
namespace Ez
open L2 L2H PySem PyProof.Rows PySem.Spec
theorem hot_blk {X : Cx} {s : Shared} {H : Hp} {scope : Scope} {cenv : Env} {fp : List Addr} (h : HotC X) : HotC (blkH X s H scope cenv fp) := h
end Ez
namespace Ez
open L2 L2H PySem PyProof.Rows PySem.Spec
/-- `l.append(e)` where the state's own K is told by another name (in a try and in its suites) -/
theorem pe_appK {X : Cx} {K : PySem.W.Frag} (eK : X.K = K) {o e : Expr} {to : TE} {t : TA} {apos cpos : Pos} (ho : PE X o to) (ha : PA X [e] t)
    (hbase : attributeBase o "append" X.env (eval o X.env) = eval o X.env := by rfl)
    (hfew : ((backTo cpos (starEach [e] X.env)).all (fun x => !x.1) && (backToKw cpos (keywordEach [] X.env)).all (fun x => x.1.isSome)
      && decide (([e] : List Expr).length + ([] : List Keyword).length + (if ([] : List Keyword).isEmpty then 0 else 1) < 30)) = true := by rfl)
    (hline : (apos.endLine == cpos.line) = true := by rfl) (hs : starEach [e] X.env = (false, eval e X.env) :: starEach [] X.env := by rfl) (hplain : (backTo cpos (starEach [] X.env)).any (·.1) = false := by rfl) :
    PE X (.Call (.Attribute o "append" apos) [e] [] cpos) (tBM K "list" rAppend to t) :=
  eK ▸ pe_bm PySem.F.plainAttrs_list PySem.F.slot_list_append PySem.F.type_list_append mt_append ho ha hbase hfew hline hs hplain
end Ez

set_option Elab.async false
set_option linter.all false
set_option maxRecDepth 100000
set_option maxHeartbeats 3999999

namespace K04
open L2 L2H PySem PyProof.Rows PySem.Spec Ez
variable {Pg : Program} {w : World} {K : PySem.W.Frag} {mg : Str → Option Value} {base : Heap} {ad : Ad}
structure AllOk (Pg : Program) (w : World) (K : PySem.W.Frag) (mg : Str → Option Value) (base : Heap) (ad : Ad) (n : Nat) : Prop where
  take : FnG Pg w K mg base (n + 2) ad.f__law_take ad.fd__law_take ["_law_hand_here", "_law_many"] (spTake (kt K ad))
  is_whole : FnG Pg w K mg base (n + 2) ad.f_is_whole ad.fd_is_whole ["thing", "low", "high"] (spR (kt K ad) tx n 0)
  is_sequence : FnG Pg w K mg base (n + 2) ad.f_is_sequence ad.fd_is_sequence ["thing", "low", "high"] (spR (kt K ad) tx n 1)
  check_face : FnG Pg w K mg base (n + 2) ad.f_check_face ad.fd_check_face ["face"] (spR (kt K ad) tx n 2)
  face_axes : FnG Pg w K mg base (n + 2) ad.f_face_axes ad.fd_face_axes ["face"] (spR (kt K ad) tx n 3)
  framed : FnG Pg w K mg base (n + 2) ad.f_framed ad.fd_framed ["face", "triple"] (spR (kt K ad) tx n 4)
  check_slope : FnG Pg w K mg base (n + 2) ad.f_check_slope ad.fd_check_slope ["slope", "band"] (spR (kt K ad) tx n 5)
  mirrored_slope : FnG Pg w K mg base (n + 2) ad.f_mirrored_slope ad.fd_mirrored_slope ["slope"] (spR (kt K ad) tx n 6)
  check_direction : FnG Pg w K mg base (n + 2) ad.f_check_direction ad.fd_check_direction ["face", "direction"] (spR (kt K ad) tx n 7)
  unframed : FnG Pg w K mg base (n + 2) ad.f_unframed ad.fd_unframed ["face", "first", "second"] (spR (kt K ad) tx n 8)
  quarter_turns : FnG Pg w K mg base (n + 2) ad.f_quarter_turns ad.fd_quarter_turns ["first", "second"] (spR (kt K ad) tx n 9)
  directions_on : FnG Pg w K mg base (n + 2) ad.f_directions_on ad.fd_directions_on ["face", "slope"] (spR (kt K ad) tx n 10)
  slope_of : FnG Pg w K mg base (n + 2) ad.f_slope_of ad.fd_slope_of ["face", "direction"] (spR (kt K ad) tx n 11)
  slope_on : FnG Pg w K mg base (n + 2) ad.f_slope_on ad.fd_slope_on ["face", "direction"] (spR (kt K ad) tx n 12)
  reversed_direction : FnG Pg w K mg base (n + 2) ad.f_reversed_direction ad.fd_reversed_direction ["direction"] (spR (kt K ad) tx n 13)
  back_of : FnG Pg w K mg base (n + 2) ad.f_back_of ad.fd_back_of ["face", "direction"] (spR (kt K ad) tx n 14)
  left_of : FnG Pg w K mg base (n + 2) ad.f_left_of ad.fd_left_of ["face", "direction"] (spR (kt K ad) tx n 15)
  outward_step : FnG Pg w K mg base (n + 2) ad.f_outward_step ad.fd_outward_step ["beside", "direction"] (spR (kt K ad) tx n 16)
  _law_common : FnG Pg w K mg base (n + 2) ad.f__law_common ad.fd__law_common ["_law_one", "_law_other"] (spR (kt K ad) tx n 20)
  _law_axes : FnG Pg w K mg base (n + 2) ad.f__law_axes ad.fd__law_axes ["_law_face"] (spR (kt K ad) tx n 21)
  _law_steps : FnG Pg w K mg base (n + 2) ad.f__law_steps ad.fd__law_steps ["_law_face", "_law_first", "_law_second"] (spR (kt K ad) tx n 22)
  _law_four : FnG Pg w K mg base (n + 2) ad.f__law_four ad.fd__law_four ["_law_face", "_law_slope"] (spR (kt K ad) tx n 23)
  _law_out : FnG Pg w K mg base (n + 2) ad.f__law_out ad.fd__law_out ["_law_beside", "_law_steps_here"] (spR (kt K ad) tx n 24)
  _law_tuples : FnG Pg w K mg base (n + 2) ad.f__law_tuples ad.fd__law_tuples ["_law_thing"] (spR (kt K ad) tx n 25)
  _law_odd : FnG Pg w K mg base (n + 2) ad.f__law_odd ad.fd__law_odd ["_law_hand_here", "_law_high"] (spR (kt K ad) tx n 26)
  _law_rid : FnG Pg w K mg base (n + 2) ad.f__law_rid ad.fd__law_rid ["_law_hand_here"] (spR (kt K ad) tx n 27)
  _law_whole : FnG Pg w K mg base (n + 2) ad.f__law_whole ad.fd__law_whole ["_law_thing", "_law_low", "_law_high"] (spR (kt K ad) tx n 28)
  _law_shaped : FnG Pg w K mg base (n + 2) ad.f__law_shaped ad.fd__law_shaped ["_law_hand_here", "_law_items"] (spR (kt K ad) tx n 29)
  _law_plain : FnG Pg w K mg base (n + 2) ad.f__law_plain ad.fd__law_plain ["_law_thing"] (spR (kt K ad) tx n 30)
  _law_like : FnG Pg w K mg base (n + 2) ad.f__law_like ad.fd__law_like ["_law_one", "_law_other"] (spR (kt K ad) tx n 31)
  _law_slope_of : FnG Pg w K mg base (n + 2) ad.f__law_slope_of ad.fd__law_slope_of ["_law_slope", "_law_band"] (spR (kt K ad) tx n 32)
  _law_mirror : FnG Pg w K mg base (n + 2) ad.f__law_mirror ad.fd__law_mirror ["_law_slope"] (spR (kt K ad) tx n 33)
  _law_deed : FnG Pg w K mg base (n + 2) ad.f__law_deed ad.fd__law_deed ["_law_deed_here", "_law_face", "_law_thing"] (spR (kt K ad) tx n 34)
  _law_is_slope : FnG Pg w K mg base (n + 2) ad.f__law_is_slope ad.fd__law_is_slope ["_law_slope", "_law_band"] (spR (kt K ad) tx n 35)
  _law_slopes : FnG Pg w K mg base (n + 2) ad.f__law_slopes ad.fd__law_slopes ["_law_hand_here"] (spR (kt K ad) tx n 36)
  _law_word : FnG Pg w K mg base (n + 2) ad.f__law_word ad.fd__law_word ["_law_face", "_law_steps_here"] (spR (kt K ad) tx n 37)
  _law_drawn : FnG Pg w K mg base (n + 2) ad.f__law_drawn ad.fd__law_drawn ["_law_hand_here", "_law_face"] (spR (kt K ad) tx n 38)
  _law_spoilt : FnG Pg w K mg base (n + 2) ad.f__law_spoilt ad.fd__law_spoilt ["_law_hand_here", "_law_face", "_law_steps_here"] (spR (kt K ad) tx n 39)
  _law_faceless : FnG Pg w K mg base (n + 2) ad.f__law_faceless ad.fd__law_faceless ["_law_hand_here"] (spR (kt K ad) tx n 40)
  any : ∀ f, tx.ok f = true → ∃ (fd : FuncData) (ps : List Str), FnG Pg w K mg base (n + 2) ((kt K ad).fn f) fd ps (spR (kt K ad) tx n f) ∧ PySem.W.keepIn K (.ref ((kt K ad).fn f)) = true ∧ Binds K fd ps []
structure AllHot (Pg : Program) (w : World) (K : PySem.W.Frag) (mg : Str → Option Value) (base : Heap) (ad : Ad) (n : Nat) : Prop where
  h__law_plain : FnH Pg w K mg base (L2N.CX Pg w) (n + 2) ad.f__law_plain ad.fd__law_plain ["_law_thing"] (spR (kt K ad) tx n 30)
theorem okH__law_plain (T : Txt K mg ad) {n : Nat} (I : AllHot Pg w K mg base ad n) : FnH Pg w K mg base (L2N.CX Pg w) (n + 3) ad.f__law_plain ad.fd__law_plain ["_law_thing"] (spR (kt K ad) tx (n + 1) 30) := by
  refine fn_RH (txok T) rfl T.F__law_plain sc__law_plain rfl rfl fun cdv A outer s H E p hot hr => ?_
  refine of_ex ⟨_, (pss_one (ps_ret (pe_ifExp (pt_val (pe_callB (call_isiTK (K := (kt K ad).K) rfl) (by rfl) T.b_isinstance (by decide +kernel) (pa_cons (pv 0) (pa_cons (pe_tup (pa_cons (pe_bltn (v := .ty "list") (by rfl) T.b_list (by decide +kernel) rfl) (pa_cons (pe_bltn (v := .ty "tuple") (by rfl) T.b_tuple (by decide +kernel) rfl) pa_nil))) pa_nil)))) (pe_callTy (T := "tuple") (call_tupK (K := (kt K ad).K) rfl) (by rfl) T.b_tuple (by decide +kernel) (pa_cons (pe_lcH (own := [("_law_item", 1)]) (hot_cxH hot) sc__law_plain.nd (pi_seqHK (K := (kt K ad).K) rfl (pv 0)) (blkOk_by (N := ["_law_thing", "_law_item"]) (sc := defScope s__law_plain) (own := [("_law_item", 1)]) (by decide +kernel)) (fun _ _ _ _ _ => (pg_name (i := 1) sc__law_plain.nd rfl (by first | exact Or.inl rfl | exact Or.inr rfl))) (fun _ _ _ _ _ => pts_nil) (fun _ _ _ _ _ => (pe_callHS (E := Snk.no.at) I.h__law_plain hr (hot_blk (hot_cxH hot)) (by rfl) T.m__law_plain T.k__law_plain T.b__law_plain px_no (pa_cons (pv 1) pa_nil)))) pa_nil)) (pv 0)))), ?_⟩
  show _ = (denS (dn (kt K ad) tx (con ad) n E) b__law_plain).ts
  unfold b__law_plain
  simp only [denS, den, denGp, denI, denB, den2, Dn.of, Dn.wt, cond] <;> rfl
theorem all_hot (T : Txt K mg ad) : ∀ n, AllHot Pg w K mg base ad n
  | 0 => ⟨fnH_run0 (B := kt K ad)⟩
  | n + 1 => ⟨okH__law_plain T (all_hot T n)⟩
theorem ok_is_whole (T : Txt K mg ad) {n : Nat} (I : AllOk Pg w K mg base ad n) : FnG Pg w K mg base (n + 3) ad.f_is_whole ad.fd_is_whole ["thing", "low", "high"] (spR (kt K ad) tx (n + 1) 0) := by
  refine fn_RD (txok T) rfl T.F_is_whole sc_is_whole rfl rfl fun cdv A outer s H E gs hr => ?_
  refine of_ex ⟨_, (pss_cons (ps_if (pw_or (pt_val (pe_callB (call_isiK (K := (kt K ad).K) rfl) (by rfl) T.b_isinstance (by decide +kernel) (pa_cons (pv 0) (pa_cons (pe_bltn (v := .ty "bool") (by rfl) T.b_bool (by decide +kernel) rfl) pa_nil)))) (pw_or1 (pt_not (pt_val (pe_callB (call_isiK (K := (kt K ad).K) rfl) (by rfl) T.b_isinstance (by decide +kernel) (pa_cons (pv 0) (pa_cons (pe_bltn (v := .ty "int") (by rfl) T.b_int (by decide +kernel) rfl) pa_nil))))))).pt (pss_one (ps_ret pe_bl)) pss_nil)
      (pss_cons (ps_if (pw_and (pt_cmp (pc_notN (pv 1))) (pw_and1 (pt_cmpR op_lt (pv 0) (pv 1) (nomark _)))).pt (pss_one (ps_ret pe_bl)) pss_nil)
      (pss_one (ps_ret (pe_or (pe_cmp (pc_isN (pv 2))) (Ez.pe_or1 (pe_cmpR op_le (pv 0) (pv 2) (nomark _)))))))), ?_⟩
  show _ = (denS (dn (kt K ad) tx (con ad) n E) b_is_whole).ts
  unfold b_is_whole
  simp only [denS, den, denGp, denI, denB, den2, Dn.of, Dn.wt, cond] <;> rfl
theorem ok_is_sequence (T : Txt K mg ad) {n : Nat} (I : AllOk Pg w K mg base ad n) : FnG Pg w K mg base (n + 3) ad.f_is_sequence ad.fd_is_sequence ["thing", "low", "high"] (spR (kt K ad) tx (n + 1) 1) := by
  refine fn_R (txok T) rfl T.F_is_sequence sc_is_sequence rfl rfl fun cdv A outer s H E gs hr => ?_
  refine of_ex ⟨_, (pss_one (ps_ret (pe_and (pe_callB (call_isiTK (K := (kt K ad).K) rfl) (by rfl) T.b_isinstance (by decide +kernel) (pa_cons (pv 0) (pa_cons (pe_tup (pa_cons (pe_bltn (v := .ty "list") (by rfl) T.b_list (by decide +kernel) rfl) (pa_cons (pe_bltn (v := .ty "tuple") (by rfl) T.b_tuple (by decide +kernel) rfl) pa_nil))) pa_nil))) (Ez.pe_and1 (pe_chain op_le op_le (pv 1) (pe_callB (call_lenK (K := (kt K ad).K) rfl) (by rfl) T.b_len (by decide +kernel) (pa_cons (pv 0) pa_nil)) (pv 2)))))), ?_⟩
  show _ = (denS (dn (kt K ad) tx (con ad) n E) b_is_sequence).ts
  unfold b_is_sequence
  simp only [denS, den, denGp, denI, denB, den2, Dn.of, Dn.wt, cond] <;> rfl
theorem ok_check_face (T : Txt K mg ad) {n : Nat} (I : AllOk Pg w K mg base ad n) : FnG Pg w K mg base (n + 3) ad.f_check_face ad.fd_check_face ["face"] (spR (kt K ad) tx (n + 1) 2) := by
  obtain ⟨_, dv_is_whole_3, bd_is_whole_3⟩ := T.bd_is_whole_3
  refine fn_R (txok T) rfl T.F_check_face sc_check_face rfl rfl fun cdv A outer s H E gs hr => ?_
  refine of_ex ⟨_, (pss_cons (ps_if (pt_not (pt_val (pe_callGS (E := (Snk.out E).at) I.is_whole hr gs (by rfl) T.m_is_whole T.k_is_whole bd_is_whole_3 dv_is_whole_3 (px_out (L2N.takes_of rfl rfl rfl rfl)) (pa_cons (pv 0) (pa_cons pe_int (pa_cons pe_int pa_nil)))))) (pss_one (L2N.ps_raise rfl (L2N.takes_of rfl rfl rfl rfl) (pmk_oexN T.o_BadFace T.i_BadFace T.t_BadFace (init_BadFace T) (hr.mono (by omega)) T.bi_BadFace .nil pass0 (by rfl) T.m_BadFace (pa_cons (pv 0) pa_nil)))) pss_nil)
      (pss_one (ps_ret (pv 0)))), ?_⟩
  show _ = (denS (dn (kt K ad) tx (con ad) n E) b_check_face).ts
  unfold b_check_face
  simp only [denS, den, denGp, denI, denB, den2, Dn.of, Dn.wt, cond] <;> rfl
theorem ok_face_axes (T : Txt K mg ad) {n : Nat} (I : AllOk Pg w K mg base ad n) : FnG Pg w K mg base (n + 3) ad.f_face_axes ad.fd_face_axes ["face"] (spR (kt K ad) tx (n + 1) 3) := by
  refine fn_R (txok T) rfl T.F_face_axes sc_face_axes rfl rfl fun cdv A outer s H E gs hr => ?_
  refine of_ex ⟨_, (pss_one (ps_ret (pe_ix (ix_seqK (K := (kt K ad).K) rfl) (pe_glob (v := .ref _) (by rfl) T.m_FACE_AXES rfl) (pe_callGS (E := (Snk.out E).at) I.check_face hr gs (by rfl) T.m_check_face T.k_check_face T.b_check_face .nil (px_out (L2N.takes_of rfl rfl rfl rfl)) (pa_cons (pv 0) pa_nil)) (fun _ _ => rfl)))), ?_⟩
  show _ = (denS (dn (kt K ad) tx (con ad) n E) b_face_axes).ts
  unfold b_face_axes
  simp only [denS, den, denGp, denI, denB, den2, Dn.of, Dn.wt, cond] <;> rfl
theorem ok_framed (T : Txt K mg ad) {n : Nat} (I : AllOk Pg w K mg base ad n) : FnG Pg w K mg base (n + 3) ad.f_framed ad.fd_framed ["face", "triple"] (spR (kt K ad) tx (n + 1) 4) := by
  refine fn_R (txok T) rfl T.F_framed sc_framed rfl rfl fun cdv A outer s H E gs hr => ?_
  refine of_ex ⟨_, (pss_cons (ps_set (i := 2) sc_framed.nd rfl (by first | exact Or.inl rfl | exact Or.inr rfl) (pe_callGS (E := (Snk.out E).at) I.face_axes hr gs (by rfl) T.m_face_axes T.k_face_axes T.b_face_axes .nil (px_out (L2N.takes_of rfl rfl rfl rfl)) (pa_cons (pe_callGS (E := (Snk.out E).at) I.check_face hr gs (by rfl) T.m_check_face T.k_check_face T.b_check_face .nil (px_out (L2N.takes_of rfl rfl rfl rfl)) (pa_cons (pv 0) pa_nil)) pa_nil)))
      (pss_cons (ps_setLc (i := 3) (own := [("axis", 4)]) (by rfl) sc_framed.nd rfl rfl (sw_true rfl rfl rfl (by decide +kernel)) (pi_seqK (K := (kt K ad).K) rfl (pv 2)) (blkOk_by (N := ["face", "triple", "axes", "entries", "axis", "entry"]) (sc := defScope s_framed) (own := [("axis", 4)]) (by decide +kernel)) (fun _ _ _ _ _ => (pg_name (i := 4) sc_framed.nd rfl (by first | exact Or.inl rfl | exact Or.inr rfl))) (fun _ _ _ _ _ => pts_nil) (fun _ _ _ _ _ => (pe_ix (ix_seqK (K := (kt K ad).K) rfl) (pv 1) (pv 4) (fun _ _ => rfl))))
      (pss_one (ps_ret (pe_callTy (T := "tuple") (call_tupK (K := (kt K ad).K) rfl) (by rfl) T.b_tuple (by decide +kernel) (pa_cons (pe_lc (own := [("entry", 5)]) (by rfl) sc_framed.nd (pi_seqK (K := (kt K ad).K) rfl (pv 3)) (blkOk_by (N := ["face", "triple", "axes", "entries", "axis", "entry"]) (sc := defScope s_framed) (own := [("entry", 5)]) (by decide +kernel)) (fun _ _ _ _ _ => (pg_name (i := 5) sc_framed.nd rfl (by first | exact Or.inl rfl | exact Or.inr rfl))) (fun _ _ _ _ _ => pts_nil) (fun _ _ _ _ _ => (pe_ifExp (pt_val (pe_callB (call_isiK (K := (kt K ad).K) rfl) (by rfl) T.b_isinstance (by decide +kernel) (pa_cons (pv 5) (pa_cons (pe_bltn (v := .ty "list") (by rfl) T.b_list (by decide +kernel) rfl) pa_nil)))) (pe_callTy (T := "tuple") (call_tupK (K := (kt K ad).K) rfl) (by rfl) T.b_tuple (by decide +kernel) (pa_cons (pv 5) pa_nil)) (pv 5)))) pa_nil)))))), ?_⟩
  show _ = (denS (dn (kt K ad) tx (con ad) n E) b_framed).ts
  unfold b_framed
  simp only [denS, den, denGp, denI, denB, den2, Dn.of, Dn.wt, cond] <;> rfl
theorem ok_check_slope (T : Txt K mg ad) {n : Nat} (I : AllOk Pg w K mg base ad n) : FnG Pg w K mg base (n + 3) ad.f_check_slope ad.fd_check_slope ["slope", "band"] (spR (kt K ad) tx (n + 1) 5) := by
  obtain ⟨_, m_STEEPEST⟩ := T.m_STEEPEST
  obtain ⟨_, dv_is_whole_3, bd_is_whole_3⟩ := T.bd_is_whole_3
  refine fn_RD (txok T) rfl T.F_check_slope sc_check_slope rfl rfl fun cdv A outer s H E gs hr => ?_
  refine of_ex ⟨_, (pss_cons (ps_if (pt_not (pt_val (pe_callGS (E := (Snk.out E).at) I.is_sequence hr gs (by rfl) T.m_is_sequence T.k_is_sequence T.b_is_sequence .nil (px_out (L2N.takes_of rfl rfl rfl rfl)) (pa_cons (pv 0) (pa_cons pe_int (pa_cons pe_int pa_nil)))))) (pss_one (L2N.ps_raise rfl (L2N.takes_of rfl rfl rfl rfl) (pmk_oexN T.o_BadSlope T.i_BadSlope T.t_BadSlope (init_BadSlope T) (hr.mono (by omega)) T.bi_BadSlope .nil pass0 (by rfl) T.m_BadSlope (pa_cons (pv 0) pa_nil)))) pss_nil)
      (pss_cons (ps_if (pt_truthK (K := (kt K ad).K) rfl (pe_lc (own := [("number", 2)]) (by rfl) sc_check_slope.nd (pi_seqK (K := (kt K ad).K) rfl (pv 0)) (blkOk_by (N := ["slope", "band", "number"]) (sc := defScope s_check_slope) (own := [("number", 2)]) (by decide +kernel)) (fun _ _ _ _ _ => (pg_name (i := 2) sc_check_slope.nd rfl (by first | exact Or.inl rfl | exact Or.inr rfl))) (fun _ _ _ _ _ => pts_one (pt_not (pt_val (pe_callGS (E := Snk.no.at) I.is_whole hr gs (by rfl) T.m_is_whole T.k_is_whole bd_is_whole_3 dv_is_whole_3 px_no (pa_cons (pv 2) (pa_cons pe_int (pa_cons (pe_glob (v := .int 9) (by rfl) m_STEEPEST ⟨_, rfl⟩) pa_nil))))))) (fun _ _ _ _ _ => (pv 2))) (by intro _; rfl)) (pss_one (L2N.ps_raise rfl (L2N.takes_of rfl rfl rfl rfl) (pmk_oexN T.o_BadSlope T.i_BadSlope T.t_BadSlope (init_BadSlope T) (hr.mono (by omega)) T.bi_BadSlope .nil pass0 (by rfl) T.m_BadSlope (pa_cons (pv 0) pa_nil)))) pss_nil)
      (pss_cons (ps_if (pw_and (pt_truthK (K := (kt K ad).K) rfl (pv 1) (by intro _; rfl)) (pw_and1 (pt_cmpR (op_eqK (K := (kt K ad).K) rfl (Ez.hu64 hr)) (pe_callTy (T := "tuple") (call_tupK (K := (kt K ad).K) rfl) (by rfl) T.b_tuple (by decide +kernel) (pa_cons (pv 0) pa_nil)) (pe_glob (v := .ref _) (by rfl) T.m_BAND rfl) (nomark _)))).pt (pss_one (ps_ret (pe_glob (v := .ref _) (by rfl) T.m_BAND rfl))) pss_nil)
      (pss_cons (ps_if (pw_or (pt_cmpR (op_inK (K := (kt K ad).K) rfl (hu65 hr)) pe_int (pv 0) rfl) (pw_or1 (pt_cmpR (op_neK (K := (kt K ad).K) rfl (Ez.hu64 hr)) (pe_callBfun cr_gcd (by rfl) T.m_gcd (pa_cons (pe_ix (ix_seqK (K := (kt K ad).K) rfl) (pv 0) pe_int (fun _ _ => rfl)) (pa_cons (pe_ix (ix_seqK (K := (kt K ad).K) rfl) (pv 0) pe_int (fun _ _ => rfl)) pa_nil))) pe_int (nomark _)))).pt (pss_one (L2N.ps_raise rfl (L2N.takes_of rfl rfl rfl rfl) (pmk_oexN T.o_BadSlope T.i_BadSlope T.t_BadSlope (init_BadSlope T) (hr.mono (by omega)) T.bi_BadSlope .nil pass0 (by rfl) T.m_BadSlope (pa_cons (pv 0) pa_nil)))) pss_nil)
      (pss_one (ps_ret (pe_callTy (T := "tuple") (call_tupK (K := (kt K ad).K) rfl) (by rfl) T.b_tuple (by decide +kernel) (pa_cons (pv 0) pa_nil)))))))), ?_⟩
  show _ = (denS (dn (kt K ad) tx (con ad) n E) b_check_slope).ts
  unfold b_check_slope
  simp only [denS, den, denGp, denI, denB, den2, Dn.of, Dn.wt, cond] <;> rfl
theorem ok_mirrored_slope (T : Txt K mg ad) {n : Nat} (I : AllOk Pg w K mg base ad n) : FnG Pg w K mg base (n + 3) ad.f_mirrored_slope ad.fd_mirrored_slope ["slope"] (spR (kt K ad) tx (n + 1) 6) := by
  obtain ⟨_, dv_check_slope_2, bd_check_slope_2⟩ := T.bd_check_slope_2
  refine fn_R (txok T) rfl T.F_mirrored_slope sc_mirrored_slope rfl rfl fun cdv A outer s H E gs hr => ?_
  refine of_ex ⟨_, (pss_cons (ps_asg (pe_callGS (E := (Snk.out E).at) I.check_slope hr gs (by rfl) T.m_check_slope T.k_check_slope bd_check_slope_2 dv_check_slope_2 (px_out (L2N.takes_of rfl rfl rfl rfl)) (pa_cons (pv 0) (pa_cons pe_bl pa_nil))) (pg_seqK (K := (kt K ad).K) rfl (n := 2) rfl (pgs_cons (pg_name (i := 1) sc_mirrored_slope.nd rfl (by first | exact Or.inl rfl | exact Or.inr rfl)) (pgs_cons (pg_name (i := 2) sc_mirrored_slope.nd rfl (by first | exact Or.inl rfl | exact Or.inr rfl)) pgs_nil))))
      (pss_one (ps_ret (pe_ifExp (pt_cmpR (op_eqK (K := (kt K ad).K) rfl (Ez.hu64 hr)) (pv 2) pe_int (nomark _)) (pe_glob (v := .ref _) (by rfl) T.m_BAND rfl) (pe_tup (pa_cons (pv 2) (pa_cons (pv 1) pa_nil))))))), ?_⟩
  show _ = (denS (dn (kt K ad) tx (con ad) n E) b_mirrored_slope).ts
  unfold b_mirrored_slope
  simp only [denS, den, denGp, denI, denB, den2, Dn.of, Dn.wt, cond] <;> rfl
theorem ok_check_direction (T : Txt K mg ad) {n : Nat} (I : AllOk Pg w K mg base ad n) : FnG Pg w K mg base (n + 3) ad.f_check_direction ad.fd_check_direction ["face", "direction"] (spR (kt K ad) tx (n + 1) 7) := by
  obtain ⟨_, m_MOST_NUMBER⟩ := T.m_MOST_NUMBER
  obtain ⟨_, dv_is_whole_3, bd_is_whole_3⟩ := T.bd_is_whole_3
  refine fn_R (txok T) rfl T.F_check_direction sc_check_direction rfl rfl fun cdv A outer s H E gs hr => ?_
  refine of_ex ⟨_, (pss_cons (ps_expr (pe_callGS (E := (Snk.out E).at) I.check_face hr gs (by rfl) T.m_check_face T.k_check_face T.b_check_face .nil (px_out (L2N.takes_of rfl rfl rfl rfl)) (pa_cons (pv 0) pa_nil)))
      (pss_cons (ps_if (pt_not (pt_val (pe_callGS (E := (Snk.out E).at) I.is_sequence hr gs (by rfl) T.m_is_sequence T.k_is_sequence T.b_is_sequence .nil (px_out (L2N.takes_of rfl rfl rfl rfl)) (pa_cons (pv 1) (pa_cons pe_int (pa_cons pe_int pa_nil)))))) (pss_one (L2N.ps_raise rfl (L2N.takes_of rfl rfl rfl rfl) (pmk_oexN T.o_BadDirection T.i_BadDirection T.t_BadDirection (init_BadDirection T) (hr.mono (by omega)) T.bi_BadDirection .nil pass0 (by rfl) T.m_BadDirection (pa_cons pe_str pa_nil)))) pss_nil)
      (pss_cons (ps_if (pt_truthK (K := (kt K ad).K) rfl (pe_lc (own := [("number", 2)]) (by rfl) sc_check_direction.nd (pi_seqK (K := (kt K ad).K) rfl (pv 1)) (blkOk_by (N := ["face", "direction", "number", "common"]) (sc := defScope s_check_direction) (own := [("number", 2)]) (by decide +kernel)) (fun _ _ _ _ _ => (pg_name (i := 2) sc_check_direction.nd rfl (by first | exact Or.inl rfl | exact Or.inr rfl))) (fun _ _ _ _ _ => pts_one (pt_not (pt_val (pe_callGS (E := Snk.no.at) I.is_whole hr gs (by rfl) T.m_is_whole T.k_is_whole bd_is_whole_3 dv_is_whole_3 px_no (pa_cons (pv 2) (pa_cons (pe_un un_neg (pe_glob (v := .int 10000) (by rfl) m_MOST_NUMBER ⟨_, rfl⟩)) (pa_cons (pe_glob (v := .int 10000) (by rfl) m_MOST_NUMBER ⟨_, rfl⟩) pa_nil))))))) (fun _ _ _ _ _ => (pv 2))) (by intro _; rfl)) (pss_one (L2N.ps_raise rfl (L2N.takes_of rfl rfl rfl rfl) (pmk_oexN T.o_BadDirection T.i_BadDirection T.t_BadDirection (init_BadDirection T) (hr.mono (by omega)) T.bi_BadDirection .nil pass0 (by rfl) T.m_BadDirection (pa_cons pe_str pa_nil)))) pss_nil)
      (pss_cons (ps_if (pt_cmpR (op_neK (K := (kt K ad).K) rfl (Ez.hu64 hr)) (pe_ix (ix_seqK (K := (kt K ad).K) rfl) (pv 1) (pe_op op_fdivZ (pv 0) pe_int) (fun _ _ => rfl)) pe_int (nomark _)) (pss_one (L2N.ps_raise rfl (L2N.takes_of rfl rfl rfl rfl) (pmk_oexN T.o_BadDirection T.i_BadDirection T.t_BadDirection (init_BadDirection T) (hr.mono (by omega)) T.bi_BadDirection .nil pass0 (by rfl) T.m_BadDirection (pa_cons pe_str pa_nil)))) pss_nil)
      (pss_cons (ps_set (i := 3) sc_check_direction.nd rfl (by first | exact Or.inl rfl | exact Or.inr rfl) (pe_callBfun cr_gcd3 (by rfl) T.m_gcd (pa_cons (pe_ix (ix_seqK (K := (kt K ad).K) rfl) (pv 1) pe_int (fun _ _ => rfl)) (pa_cons (pe_ix (ix_seqK (K := (kt K ad).K) rfl) (pv 1) pe_int (fun _ _ => rfl)) (pa_cons (pe_ix (ix_seqK (K := (kt K ad).K) rfl) (pv 1) pe_int (fun _ _ => rfl)) pa_nil)))))
      (pss_cons (ps_if (pt_cmpR (op_eqK (K := (kt K ad).K) rfl (Ez.hu64 hr)) (pv 3) pe_int (nomark _)) (pss_one (L2N.ps_raise rfl (L2N.takes_of rfl rfl rfl rfl) (pmk_oexN T.o_BadDirection T.i_BadDirection T.t_BadDirection (init_BadDirection T) (hr.mono (by omega)) T.bi_BadDirection .nil pass0 (by rfl) T.m_BadDirection (pa_cons pe_str pa_nil)))) pss_nil)
      (pss_cons (ps_if (pt_cmpR (op_neK (K := (kt K ad).K) rfl (Ez.hu64 hr)) (pv 3) pe_int (nomark _)) (pss_one (L2N.ps_raise rfl (L2N.takes_of rfl rfl rfl rfl) (pmk_oexN T.o_BadDirection T.i_BadDirection T.t_BadDirection (init_BadDirection T) (hr.mono (by omega)) T.bi_BadDirection .nil pass0 (by rfl) T.m_BadDirection (pa_cons pe_str pa_nil)))) pss_nil)
      (pss_one (ps_ret (pe_callTy (T := "tuple") (call_tupK (K := (kt K ad).K) rfl) (by rfl) T.b_tuple (by decide +kernel) (pa_cons (pv 1) pa_nil))))))))))), ?_⟩
  show _ = (denS (dn (kt K ad) tx (con ad) n E) b_check_direction).ts
  unfold b_check_direction
  simp only [denS, den, denGp, denI, denB, den2, Dn.of, Dn.wt, cond] <;> rfl
theorem ok_unframed (T : Txt K mg ad) {n : Nat} (I : AllOk Pg w K mg base ad n) : FnG Pg w K mg base (n + 3) ad.f_unframed ad.fd_unframed ["face", "first", "second"] (spR (kt K ad) tx (n + 1) 8) := by
  refine fn_R (txok T) rfl T.F_unframed sc_unframed rfl rfl fun cdv A outer s H E gs hr => ?_
  refine of_ex ⟨_, (pss_cons (ps_set (i := 3) sc_unframed.nd rfl (by first | exact Or.inl rfl | exact Or.inr rfl) (pe_callGS (E := (Snk.out E).at) I.face_axes hr gs (by rfl) T.m_face_axes T.k_face_axes T.b_face_axes .nil (px_out (L2N.takes_of rfl rfl rfl rfl)) (pa_cons (pv 0) pa_nil)))
      (pss_cons (ps_set (i := 4) sc_unframed.nd rfl (by first | exact Or.inl rfl | exact Or.inr rfl) (pe_lst (pa_cons pe_int (pa_cons pe_int (pa_cons pe_int pa_nil)))))
      (pss_cons (ps_asg (pv 1) (pg_sub (pv 4) (pe_ix (ix_seqK (K := (kt K ad).K) rfl) (pv 3) pe_int (fun _ _ => rfl)) set_list))
      (pss_cons (ps_asg (pv 2) (pg_sub (pv 4) (pe_ix (ix_seqK (K := (kt K ad).K) rfl) (pv 3) pe_int (fun _ _ => rfl)) set_list))
      (pss_one (ps_ret (pe_callTy (T := "tuple") (call_tupK (K := (kt K ad).K) rfl) (by rfl) T.b_tuple (by decide +kernel) (pa_cons (pv 4) pa_nil)))))))), ?_⟩
  show _ = (denS (dn (kt K ad) tx (con ad) n E) b_unframed).ts
  unfold b_unframed
  simp only [denS, den, denGp, denI, denB, den2, Dn.of, Dn.wt, cond] <;> rfl
theorem ok_quarter_turns (T : Txt K mg ad) {n : Nat} (I : AllOk Pg w K mg base ad n) : FnG Pg w K mg base (n + 3) ad.f_quarter_turns ad.fd_quarter_turns ["first", "second"] (spR (kt K ad) tx (n + 1) 9) := by
  refine fn_R (txok T) rfl T.F_quarter_turns sc_quarter_turns rfl rfl fun cdv A outer s H E gs hr => ?_
  refine of_ex ⟨_, (pss_one (ps_ret (pe_tup (pa_cons (pe_tup (pa_cons (pv 0) (pa_cons (pv 1) pa_nil))) (pa_cons (pe_tup (pa_cons (pe_un un_neg (pv 1)) (pa_cons (pv 0) pa_nil))) (pa_cons (pe_tup (pa_cons (pe_un un_neg (pv 0)) (pa_cons (pe_un un_neg (pv 1)) pa_nil))) (pa_cons (pe_tup (pa_cons (pv 1) (pa_cons (pe_un un_neg (pv 0)) pa_nil))) pa_nil))))))), ?_⟩
  show _ = (denS (dn (kt K ad) tx (con ad) n E) b_quarter_turns).ts
  unfold b_quarter_turns
  simp only [denS, den, denGp, denI, denB, den2, Dn.of, Dn.wt, cond] <;> rfl
theorem ok_directions_on (T : Txt K mg ad) {n : Nat} (I : AllOk Pg w K mg base ad n) : FnG Pg w K mg base (n + 3) ad.f_directions_on ad.fd_directions_on ["face", "slope"] (spR (kt K ad) tx (n + 1) 10) := by
  obtain ⟨_, dv_check_slope_2, bd_check_slope_2⟩ := T.bd_check_slope_2
  refine fn_R (txok T) rfl T.F_directions_on sc_directions_on rfl rfl fun cdv A outer s H E gs hr => ?_
  refine of_ex ⟨_, (pss_cons (ps_expr (pe_callGS (E := (Snk.out E).at) I.check_face hr gs (by rfl) T.m_check_face T.k_check_face T.b_check_face .nil (px_out (L2N.takes_of rfl rfl rfl rfl)) (pa_cons (pv 0) pa_nil)))
      (pss_cons (ps_asg (pe_callGS (E := (Snk.out E).at) I.check_slope hr gs (by rfl) T.m_check_slope T.k_check_slope bd_check_slope_2 dv_check_slope_2 (px_out (L2N.takes_of rfl rfl rfl rfl)) (pa_cons (pv 1) (pa_cons pe_bl pa_nil))) (pg_seqK (K := (kt K ad).K) rfl (n := 2) rfl (pgs_cons (pg_name (i := 2) sc_directions_on.nd rfl (by first | exact Or.inl rfl | exact Or.inr rfl)) (pgs_cons (pg_name (i := 3) sc_directions_on.nd rfl (by first | exact Or.inl rfl | exact Or.inr rfl)) pgs_nil))))
      (pss_one (ps_ret (pe_callTy (T := "tuple") (call_tupK (K := (kt K ad).K) rfl) (by rfl) T.b_tuple (by decide +kernel) (pa_cons (pe_callB (cr_sortedK (K := (kt K ad).K) rfl) (by rfl) T.b_sorted (by decide +kernel) (pa_cons (pe_lc (own := [("one", 4), ("other", 5)]) (by rfl) sc_directions_on.nd (pi_seqK (K := (kt K ad).K) rfl (pe_callGS (E := (Snk.out E).at) I.quarter_turns hr gs (by rfl) T.m_quarter_turns T.k_quarter_turns T.b_quarter_turns .nil (px_out (L2N.takes_of rfl rfl rfl rfl)) (pa_cons (pv 2) (pa_cons (pv 3) pa_nil)))) (blkOk_by (N := ["face", "slope", "first", "second", "one", "other"]) (sc := defScope s_directions_on) (own := [("one", 4), ("other", 5)]) (by decide +kernel)) (fun _ _ _ _ _ => (pg_seqK (K := (kt K ad).K) rfl (n := 2) rfl (pgs_cons (pg_name (i := 4) sc_directions_on.nd rfl (by first | exact Or.inl rfl | exact Or.inr rfl)) (pgs_cons (pg_name (i := 5) sc_directions_on.nd rfl (by first | exact Or.inl rfl | exact Or.inr rfl)) pgs_nil)))) (fun _ _ _ _ _ => pts_nil) (fun _ _ _ _ _ => (pe_callGS (E := Snk.no.at) I.unframed hr gs (by rfl) T.m_unframed T.k_unframed T.b_unframed .nil px_no (pa_cons (pv 0) (pa_cons (pv 4) (pa_cons (pv 5) pa_nil)))))) pa_nil)) pa_nil)))))), ?_⟩
  show _ = (denS (dn (kt K ad) tx (con ad) n E) b_directions_on).ts
  unfold b_directions_on
  simp only [denS, den, denGp, denI, denB, den2, Dn.of, Dn.wt, cond] <;> rfl
theorem ok_slope_of (T : Txt K mg ad) {n : Nat} (I : AllOk Pg w K mg base ad n) : FnG Pg w K mg base (n + 3) ad.f_slope_of ad.fd_slope_of ["face", "direction"] (spR (kt K ad) tx (n + 1) 11) := by
  refine fn_R (txok T) rfl T.F_slope_of sc_slope_of rfl rfl fun cdv A outer s H E gs hr => ?_
  refine of_ex ⟨_, (pss_one (ps_ret (pe_callGS (E := (Snk.out E).at) I.slope_on hr gs (by rfl) T.m_slope_on T.k_slope_on T.b_slope_on .nil (px_out (L2N.takes_of rfl rfl rfl rfl)) (pa_cons (pv 0) (pa_cons (pe_callGS (E := (Snk.out E).at) I.check_direction hr gs (by rfl) T.m_check_direction T.k_check_direction T.b_check_direction .nil (px_out (L2N.takes_of rfl rfl rfl rfl)) (pa_cons (pv 0) (pa_cons (pv 1) pa_nil))) pa_nil))))), ?_⟩
  show _ = (denS (dn (kt K ad) tx (con ad) n E) b_slope_of).ts
  unfold b_slope_of
  simp only [denS, den, denGp, denI, denB, den2, Dn.of, Dn.wt, cond] <;> rfl
theorem ok_slope_on (T : Txt K mg ad) {n : Nat} (I : AllOk Pg w K mg base ad n) : FnG Pg w K mg base (n + 3) ad.f_slope_on ad.fd_slope_on ["face", "direction"] (spR (kt K ad) tx (n + 1) 12) := by
  refine fn_R (txok T) rfl T.F_slope_on sc_slope_on rfl rfl fun cdv A outer s H E gs hr => ?_
  refine of_ex ⟨_, (pss_cons (ps_asg (pe_callGS (E := (Snk.out E).at) I.framed hr gs (by rfl) T.m_framed T.k_framed T.b_framed .nil (px_out (L2N.takes_of rfl rfl rfl rfl)) (pa_cons (pv 0) (pa_cons (pv 1) pa_nil))) (pg_seqK (K := (kt K ad).K) rfl (n := 2) rfl (pgs_cons (pg_name (i := 2) sc_slope_on.nd rfl (by first | exact Or.inl rfl | exact Or.inr rfl)) (pgs_cons (pg_name (i := 3) sc_slope_on.nd rfl (by first | exact Or.inl rfl | exact Or.inr rfl)) pgs_nil))))
      (pss_cons (ps_set (i := 4) sc_slope_on.nd rfl (by first | exact Or.inl rfl | exact Or.inr rfl) (pe_callGS (E := (Snk.out E).at) I.quarter_turns hr gs (by rfl) T.m_quarter_turns T.k_quarter_turns T.b_quarter_turns .nil (px_out (L2N.takes_of rfl rfl rfl rfl)) (pa_cons (pv 2) (pa_cons (pv 3) pa_nil))))
      (pss_one (ps_ret (pe_ix (ix_seqK (K := (kt K ad).K) rfl) (pe_lc (own := [("turn", 5)]) (by rfl) sc_slope_on.nd (pi_seqK (K := (kt K ad).K) rfl (pv 4)) (blkOk_by (N := ["face", "direction", "first", "second", "turns", "turn"]) (sc := defScope s_slope_on) (own := [("turn", 5)]) (by decide +kernel)) (fun _ _ _ _ _ => (pg_name (i := 5) sc_slope_on.nd rfl (by first | exact Or.inl rfl | exact Or.inr rfl))) (fun _ _ _ _ _ => pts_one (pw_and (pt_cmpR op_ge (pe_ix (ix_seqK (K := (kt K ad).K) rfl) (pv 5) pe_int (fun _ _ => rfl)) pe_int (nomark _)) (pw_and1 (pt_cmpR op_ge (pe_ix (ix_seqK (K := (kt K ad).K) rfl) (pv 5) pe_int (fun _ _ => rfl)) pe_int (nomark _)))).pt) (fun _ _ _ _ _ => (pv 5))) pe_int (fun _ _ => rfl)))))), ?_⟩
  show _ = (denS (dn (kt K ad) tx (con ad) n E) b_slope_on).ts
  unfold b_slope_on
  simp only [denS, den, denGp, denI, denB, den2, Dn.of, Dn.wt, cond] <;> rfl
theorem ok_reversed_direction (T : Txt K mg ad) {n : Nat} (I : AllOk Pg w K mg base ad n) : FnG Pg w K mg base (n + 3) ad.f_reversed_direction ad.fd_reversed_direction ["direction"] (spR (kt K ad) tx (n + 1) 13) := by
  refine fn_R (txok T) rfl T.F_reversed_direction sc_reversed_direction rfl rfl fun cdv A outer s H E gs hr => ?_
  refine of_ex ⟨_, (pss_one (ps_ret (pe_callTy (T := "tuple") (call_tupK (K := (kt K ad).K) rfl) (by rfl) T.b_tuple (by decide +kernel) (pa_cons (pe_lc (own := [("number", 1)]) (by rfl) sc_reversed_direction.nd (pi_seqK (K := (kt K ad).K) rfl (pv 0)) (blkOk_by (N := ["direction", "number"]) (sc := defScope s_reversed_direction) (own := [("number", 1)]) (by decide +kernel)) (fun _ _ _ _ _ => (pg_name (i := 1) sc_reversed_direction.nd rfl (by first | exact Or.inl rfl | exact Or.inr rfl))) (fun _ _ _ _ _ => pts_nil) (fun _ _ _ _ _ => (pe_un un_neg (pv 1)))) pa_nil)))), ?_⟩
  show _ = (denS (dn (kt K ad) tx (con ad) n E) b_reversed_direction).ts
  unfold b_reversed_direction
  simp only [denS, den, denGp, denI, denB, den2, Dn.of, Dn.wt, cond] <;> rfl
theorem ok_back_of (T : Txt K mg ad) {n : Nat} (I : AllOk Pg w K mg base ad n) : FnG Pg w K mg base (n + 3) ad.f_back_of ad.fd_back_of ["face", "direction"] (spR (kt K ad) tx (n + 1) 14) := by
  refine fn_R (txok T) rfl T.F_back_of sc_back_of rfl rfl fun cdv A outer s H E gs hr => ?_
  refine of_ex ⟨_, (pss_one (ps_ret (pe_callGS (E := (Snk.out E).at) I.reversed_direction hr gs (by rfl) T.m_reversed_direction T.k_reversed_direction T.b_reversed_direction .nil (px_out (L2N.takes_of rfl rfl rfl rfl)) (pa_cons (pe_callGS (E := (Snk.out E).at) I.check_direction hr gs (by rfl) T.m_check_direction T.k_check_direction T.b_check_direction .nil (px_out (L2N.takes_of rfl rfl rfl rfl)) (pa_cons (pv 0) (pa_cons (pv 1) pa_nil))) pa_nil)))), ?_⟩
  show _ = (denS (dn (kt K ad) tx (con ad) n E) b_back_of).ts
  unfold b_back_of
  simp only [denS, den, denGp, denI, denB, den2, Dn.of, Dn.wt, cond] <;> rfl
theorem ok_left_of (T : Txt K mg ad) {n : Nat} (I : AllOk Pg w K mg base ad n) : FnG Pg w K mg base (n + 3) ad.f_left_of ad.fd_left_of ["face", "direction"] (spR (kt K ad) tx (n + 1) 15) := by
  refine fn_R (txok T) rfl T.F_left_of sc_left_of rfl rfl fun cdv A outer s H E gs hr => ?_
  refine of_ex ⟨_, (pss_cons (ps_asg (pe_callGS (E := (Snk.out E).at) I.framed hr gs (by rfl) T.m_framed T.k_framed T.b_framed .nil (px_out (L2N.takes_of rfl rfl rfl rfl)) (pa_cons (pv 0) (pa_cons (pe_callGS (E := (Snk.out E).at) I.check_direction hr gs (by rfl) T.m_check_direction T.k_check_direction T.b_check_direction .nil (px_out (L2N.takes_of rfl rfl rfl rfl)) (pa_cons (pv 0) (pa_cons (pv 1) pa_nil))) pa_nil))) (pg_seqK (K := (kt K ad).K) rfl (n := 2) rfl (pgs_cons (pg_name (i := 2) sc_left_of.nd rfl (by first | exact Or.inl rfl | exact Or.inr rfl)) (pgs_cons (pg_name (i := 3) sc_left_of.nd rfl (by first | exact Or.inl rfl | exact Or.inr rfl)) pgs_nil))))
      (pss_one (ps_ret (pe_callGS (E := (Snk.out E).at) I.unframed hr gs (by rfl) T.m_unframed T.k_unframed T.b_unframed .nil (px_out (L2N.takes_of rfl rfl rfl rfl)) (pa_cons (pv 0) (pa_cons (pe_un un_neg (pv 3)) (pa_cons (pv 2) pa_nil))))))), ?_⟩
  show _ = (denS (dn (kt K ad) tx (con ad) n E) b_left_of).ts
  unfold b_left_of
  simp only [denS, den, denGp, denI, denB, den2, Dn.of, Dn.wt, cond] <;> rfl
theorem ok_outward_step (T : Txt K mg ad) {n : Nat} (I : AllOk Pg w K mg base ad n) : FnG Pg w K mg base (n + 3) ad.f_outward_step ad.fd_outward_step ["beside", "direction"] (spR (kt K ad) tx (n + 1) 16) := by
  refine fn_R (txok T) rfl T.F_outward_step sc_outward_step rfl rfl fun cdv A outer s H E gs hr => ?_
  refine of_ex ⟨_, (pss_cons (ps_set (i := 2) sc_outward_step.nd rfl (by first | exact Or.inl rfl | exact Or.inr rfl) (pe_ix (ix_seqK (K := (kt K ad).K) rfl) (pv 1) (pe_op op_fdivZ (pv 0) pe_int) (fun _ _ => rfl)))
      (pss_one (ps_ret (pe_ifExp (pt_cmpR (op_eqK (K := (kt K ad).K) rfl (Ez.hu64 hr)) (pe_op op_mod (pv 0) pe_int) pe_int (nomark _)) (pv 2) (pe_un un_neg (pv 2)))))), ?_⟩
  show _ = (denS (dn (kt K ad) tx (con ad) n E) b_outward_step).ts
  unfold b_outward_step
  simp only [denS, den, denGp, denI, denB, den2, Dn.of, Dn.wt, cond] <;> rfl
theorem ok__law_common (T : Txt K mg ad) {n : Nat} (I : AllOk Pg w K mg base ad n) : FnG Pg w K mg base (n + 3) ad.f__law_common ad.fd__law_common ["_law_one", "_law_other"] (spR (kt K ad) tx (n + 1) 20) := by
  refine fn_R (txok T) rfl T.F__law_common sc__law_common rfl rfl fun cdv A outer s H E gs hr => ?_
  refine of_ex ⟨_, (pss_cons (ps_set (i := 0) sc__law_common.nd rfl (by first | exact Or.inl rfl | exact Or.inr rfl) (pe_callB call_abs (by rfl) T.b_abs (by decide +kernel) (pa_cons (pv 0) pa_nil)))
      (pss_cons (ps_set (i := 1) sc__law_common.nd rfl (by first | exact Or.inl rfl | exact Or.inr rfl) (pe_callB call_abs (by rfl) T.b_abs (by decide +kernel) (pa_cons (pv 1) pa_nil)))
      (pss_cons (ps_while (by passes_own) (pt_cmpR op_gt (pv 1) pe_int (nomark _)) (pss_one (ps_par (i := 0) (j := 1) rfl sc__law_common.nd rfl rfl (by decide) rfl rfl (pa_cons (pv 1) (pa_cons (pe_op op_mod (pe_callTy (T := "int") call_int1 (by rfl) T.b_int (by decide +kernel) (pa_cons (pv 0) pa_nil)) (pv 1)) pa_nil)) rfl)))
      (pss_one (ps_ret (pv 0)))))), ?_⟩
  show _ = (denS (dn (kt K ad) tx (con ad) n E) b__law_common).ts
  unfold b__law_common
  simp only [denS, den, denGp, denI, denB, den2, Dn.of, Dn.wt, cond] <;> rfl
theorem ok__law_axes (T : Txt K mg ad) {n : Nat} (I : AllOk Pg w K mg base ad n) : FnG Pg w K mg base (n + 3) ad.f__law_axes ad.fd__law_axes ["_law_face"] (spR (kt K ad) tx (n + 1) 21) := by
  refine fn_R (txok T) rfl T.F__law_axes sc__law_axes rfl rfl fun cdv A outer s H E gs hr => ?_
  refine of_ex ⟨_, (pss_one (ps_ret (pe_ix (ix_seqK (K := (kt K ad).K) rfl) (pe_tup (pa_cons (pe_tup (pa_cons pe_int (pa_cons pe_int pa_nil))) (pa_cons (pe_tup (pa_cons pe_int (pa_cons pe_int pa_nil))) (pa_cons (pe_tup (pa_cons pe_int (pa_cons pe_int pa_nil))) (pa_cons (pe_tup (pa_cons pe_int (pa_cons pe_int pa_nil))) (pa_cons (pe_tup (pa_cons pe_int (pa_cons pe_int pa_nil))) (pa_cons (pe_tup (pa_cons pe_int (pa_cons pe_int pa_nil))) pa_nil))))))) (pv 0) (fun _ _ => rfl)))), ?_⟩
  show _ = (denS (dn (kt K ad) tx (con ad) n E) b__law_axes).ts
  unfold b__law_axes
  simp only [denS, den, denGp, denI, denB, den2, Dn.of, Dn.wt, cond] <;> rfl
theorem ok__law_steps (T : Txt K mg ad) {n : Nat} (I : AllOk Pg w K mg base ad n) : FnG Pg w K mg base (n + 3) ad.f__law_steps ad.fd__law_steps ["_law_face", "_law_first", "_law_second"] (spR (kt K ad) tx (n + 1) 22) := by
  refine fn_R (txok T) rfl T.F__law_steps sc__law_steps rfl rfl fun cdv A outer s H E gs hr => ?_
  refine of_ex ⟨_, (pss_cons (ps_set (i := 3) sc__law_steps.nd rfl (by first | exact Or.inl rfl | exact Or.inr rfl) (pe_callGS (E := (Snk.out E).at) I._law_axes hr gs (by rfl) T.m__law_axes T.k__law_axes T.b__law_axes .nil (px_out (L2N.takes_of rfl rfl rfl rfl)) (pa_cons (pv 0) pa_nil)))
      (pss_cons (ps_set (i := 4) sc__law_steps.nd rfl (by first | exact Or.inl rfl | exact Or.inr rfl) (pe_lst (pa_cons pe_int (pa_cons pe_int (pa_cons pe_int pa_nil)))))
      (pss_cons (ps_asg (pv 1) (pg_sub (pv 4) (pe_ix (ix_seqK (K := (kt K ad).K) rfl) (pv 3) pe_int (fun _ _ => rfl)) set_list))
      (pss_cons (ps_asg (pv 2) (pg_sub (pv 4) (pe_ix (ix_seqK (K := (kt K ad).K) rfl) (pv 3) pe_int (fun _ _ => rfl)) set_list))
      (pss_one (ps_ret (pe_callTy (T := "tuple") (call_tupK (K := (kt K ad).K) rfl) (by rfl) T.b_tuple (by decide +kernel) (pa_cons (pv 4) pa_nil)))))))), ?_⟩
  show _ = (denS (dn (kt K ad) tx (con ad) n E) b__law_steps).ts
  unfold b__law_steps
  simp only [denS, den, denGp, denI, denB, den2, Dn.of, Dn.wt, cond] <;> rfl
theorem ok__law_four (T : Txt K mg ad) {n : Nat} (I : AllOk Pg w K mg base ad n) : FnG Pg w K mg base (n + 3) ad.f__law_four ad.fd__law_four ["_law_face", "_law_slope"] (spR (kt K ad) tx (n + 1) 23) := by
  refine fn_R (txok T) rfl T.F__law_four sc__law_four rfl rfl fun cdv A outer s H E gs hr => ?_
  refine of_ex ⟨_, (pss_cons (ps_asg (pv 1) (pg_seqK (K := (kt K ad).K) rfl (n := 2) rfl (pgs_cons (pg_name (i := 2) sc__law_four.nd rfl (by first | exact Or.inl rfl | exact Or.inr rfl)) (pgs_cons (pg_name (i := 3) sc__law_four.nd rfl (by first | exact Or.inl rfl | exact Or.inr rfl)) pgs_nil))))
      (pss_one (ps_ret (pe_lst (pa_cons (pe_callGS (E := (Snk.out E).at) I._law_steps hr gs (by rfl) T.m__law_steps T.k__law_steps T.b__law_steps .nil (px_out (L2N.takes_of rfl rfl rfl rfl)) (pa_cons (pv 0) (pa_cons (pv 2) (pa_cons (pv 3) pa_nil)))) (pa_cons (pe_callGS (E := (Snk.out E).at) I._law_steps hr gs (by rfl) T.m__law_steps T.k__law_steps T.b__law_steps .nil (px_out (L2N.takes_of rfl rfl rfl rfl)) (pa_cons (pv 0) (pa_cons (pe_un un_neg (pv 3)) (pa_cons (pv 2) pa_nil)))) (pa_cons (pe_callGS (E := (Snk.out E).at) I._law_steps hr gs (by rfl) T.m__law_steps T.k__law_steps T.b__law_steps .nil (px_out (L2N.takes_of rfl rfl rfl rfl)) (pa_cons (pv 0) (pa_cons (pe_un un_neg (pv 2)) (pa_cons (pe_un un_neg (pv 3)) pa_nil)))) (pa_cons (pe_callGS (E := (Snk.out E).at) I._law_steps hr gs (by rfl) T.m__law_steps T.k__law_steps T.b__law_steps .nil (px_out (L2N.takes_of rfl rfl rfl rfl)) (pa_cons (pv 0) (pa_cons (pv 3) (pa_cons (pe_un un_neg (pv 2)) pa_nil)))) pa_nil)))))))), ?_⟩
  show _ = (denS (dn (kt K ad) tx (con ad) n E) b__law_four).ts
  unfold b__law_four
  simp only [denS, den, denGp, denI, denB, den2, Dn.of, Dn.wt, cond] <;> rfl
theorem ok__law_out (T : Txt K mg ad) {n : Nat} (I : AllOk Pg w K mg base ad n) : FnG Pg w K mg base (n + 3) ad.f__law_out ad.fd__law_out ["_law_beside", "_law_steps_here"] (spR (kt K ad) tx (n + 1) 24) := by
  refine fn_R (txok T) rfl T.F__law_out sc__law_out rfl rfl fun cdv A outer s H E gs hr => ?_
  refine of_ex ⟨_, (pss_one (ps_ret (pe_ifExp (pt_cmpR (op_eqK (K := (kt K ad).K) rfl (Ez.hu64 hr)) (pe_op op_mod (pe_callTy (T := "int") call_int1 (by rfl) T.b_int (by decide +kernel) (pa_cons (pv 0) pa_nil)) pe_int) pe_int (nomark _)) (pe_ix (ix_seqK (K := (kt K ad).K) rfl) (pv 1) (pe_op op_fdivZ (pv 0) pe_int) (fun _ _ => rfl)) (pe_un un_neg (pe_ix (ix_seqK (K := (kt K ad).K) rfl) (pv 1) (pe_op op_fdivZ (pv 0) pe_int) (fun _ _ => rfl)))))), ?_⟩
  show _ = (denS (dn (kt K ad) tx (con ad) n E) b__law_out).ts
  unfold b__law_out
  simp only [denS, den, denGp, denI, denB, den2, Dn.of, Dn.wt, cond] <;> rfl
theorem ok__law_tuples (T : Txt K mg ad) {n : Nat} (I : AllOk Pg w K mg base ad n) : FnG Pg w K mg base (n + 3) ad.f__law_tuples ad.fd__law_tuples ["_law_thing"] (spR (kt K ad) tx (n + 1) 25) := by
  refine fn_R (txok T) rfl T.F__law_tuples sc__law_tuples rfl rfl fun cdv A outer s H E gs hr => ?_
  refine of_ex ⟨_, (pss_cons (ps_if (pt_val (pe_callB (call_isiK (K := (kt K ad).K) rfl) (by rfl) T.b_isinstance (by decide +kernel) (pa_cons (pv 0) (pa_cons (pe_bltn (v := .ty "tuple") (by rfl) T.b_tuple (by decide +kernel) rfl) pa_nil)))) (pss_one (ps_ret (pe_notTK (K := (kt K ad).K) rfl (pe_lc (own := [("_law_item", 1)]) (by rfl) sc__law_tuples.nd (pi_seqK (K := (kt K ad).K) rfl (pv 0)) (blkOk_by (N := ["_law_thing", "_law_item"]) (sc := defScope s__law_tuples) (own := [("_law_item", 1)]) (by decide +kernel)) (fun _ _ _ _ _ => (pg_name (i := 1) sc__law_tuples.nd rfl (by first | exact Or.inl rfl | exact Or.inr rfl))) (fun _ _ _ _ _ => pts_one (pt_not (pt_val (pe_callGS (E := Snk.no.at) I._law_tuples hr gs (by rfl) T.m__law_tuples T.k__law_tuples T.b__law_tuples .nil px_no (pa_cons (pv 1) pa_nil))))) (fun _ _ _ _ _ => pe_int))))) pss_nil)
      (pss_one (ps_ret (pe_or (pe_cmp (pc_isN (pv 0))) (Ez.pe_or1 (pe_and (pe_callB (call_isiK (K := (kt K ad).K) rfl) (by rfl) T.b_isinstance (by decide +kernel) (pa_cons (pv 0) (pa_cons (pe_bltn (v := .ty "int") (by rfl) T.b_int (by decide +kernel) rfl) pa_nil))) (Ez.pe_and1 (pe_not (pe_callB (call_isiK (K := (kt K ad).K) rfl) (by rfl) T.b_isinstance (by decide +kernel) (pa_cons (pv 0) (pa_cons (pe_bltn (v := .ty "bool") (by rfl) T.b_bool (by decide +kernel) rfl) pa_nil))))))))))), ?_⟩
  show _ = (denS (dn (kt K ad) tx (con ad) n E) b__law_tuples).ts
  unfold b__law_tuples
  simp only [denS, den, denGp, denI, denB, den2, Dn.of, Dn.wt, cond] <;> rfl
theorem ok__law_odd (T : Txt K mg ad) {n : Nat} (I : AllOk Pg w K mg base ad n) : FnG Pg w K mg base (n + 3) ad.f__law_odd ad.fd__law_odd ["_law_hand_here", "_law_high"] (spR (kt K ad) tx (n + 1) 26) := by
  refine fn_R (txok T) rfl T.F__law_odd sc__law_odd rfl rfl fun cdv A outer s H E gs hr => ?_
  refine of_ex ⟨_, (pss_one (ps_ret (pe_ix (ix_seqK (K := (kt K ad).K) rfl) (pe_lst (pa_cons pe_bl (pa_cons pe_non (pa_cons pe_str (pa_cons (pe_un un_neg pe_int) (pa_cons (pe_op (op_addK (K := (kt K ad).K) rfl) (pv 1) pe_int) (pa_cons (pe_tup (pa_cons pe_int pa_nil)) (pa_cons pe_bl (pa_cons (pe_op (op_addK (K := (kt K ad).K) rfl) (pv 1) (pe_op op_pow pe_int pe_int)) pa_nil))))))))) (pe_callG I.take (hr.mono (by omega)) gs (by rfl) T.m__law_take T.k__law_take T.b__law_take .nil passN (pa_cons (pv 0) (pa_cons pe_int pa_nil))) (fun _ _ => rfl)))), ?_⟩
  show _ = (denS (dn (kt K ad) tx (con ad) n E) b__law_odd).ts
  unfold b__law_odd
  simp only [denS, den, denGp, denI, denB, den2, Dn.of, Dn.wt, cond] <;> rfl
theorem ok__law_rid (T : Txt K mg ad) {n : Nat} (I : AllOk Pg w K mg base ad n) : FnG Pg w K mg base (n + 3) ad.f__law_rid ad.fd__law_rid ["_law_hand_here"] (spR (kt K ad) tx (n + 1) 27) := by
  refine fn_R (txok T) rfl T.F__law_rid sc__law_rid rfl rfl fun cdv A outer s H E gs hr => ?_
  refine of_ex ⟨_, (pss_one (ps_ret (pe_ix (ix_seqK (K := (kt K ad).K) rfl) (pe_lst (pa_cons pe_non (pa_cons pe_int (pa_cons pe_str (pa_cons pe_bl pa_nil))))) (pe_callG I.take (hr.mono (by omega)) gs (by rfl) T.m__law_take T.k__law_take T.b__law_take .nil passN (pa_cons (pv 0) (pa_cons pe_int pa_nil))) (fun _ _ => rfl)))), ?_⟩
  show _ = (denS (dn (kt K ad) tx (con ad) n E) b__law_rid).ts
  unfold b__law_rid
  simp only [denS, den, denGp, denI, denB, den2, Dn.of, Dn.wt, cond] <;> rfl
theorem ok__law_whole (T : Txt K mg ad) {n : Nat} (I : AllOk Pg w K mg base ad n) : FnG Pg w K mg base (n + 3) ad.f__law_whole ad.fd__law_whole ["_law_thing", "_law_low", "_law_high"] (spR (kt K ad) tx (n + 1) 28) := by
  refine fn_R (txok T) rfl T.F__law_whole sc__law_whole rfl rfl fun cdv A outer s H E gs hr => ?_
  refine of_ex ⟨_, (pss_one (ps_ret (pe_and (pe_callB (call_isiK (K := (kt K ad).K) rfl) (by rfl) T.b_isinstance (by decide +kernel) (pa_cons (pv 0) (pa_cons (pe_bltn (v := .ty "int") (by rfl) T.b_int (by decide +kernel) rfl) pa_nil))) (pe_and (pe_not (pe_callB (call_isiK (K := (kt K ad).K) rfl) (by rfl) T.b_isinstance (by decide +kernel) (pa_cons (pv 0) (pa_cons (pe_bltn (v := .ty "bool") (by rfl) T.b_bool (by decide +kernel) rfl) pa_nil)))) (Ez.pe_and1 (pe_chain op_le op_le (pv 1) (pv 0) (pv 2))))))), ?_⟩
  show _ = (denS (dn (kt K ad) tx (con ad) n E) b__law_whole).ts
  unfold b__law_whole
  simp only [denS, den, denGp, denI, denB, den2, Dn.of, Dn.wt, cond] <;> rfl
theorem ok__law_shaped (T : Txt K mg ad) {n : Nat} (I : AllOk Pg w K mg base ad n) : FnG Pg w K mg base (n + 3) ad.f__law_shaped ad.fd__law_shaped ["_law_hand_here", "_law_items"] (spR (kt K ad) tx (n + 1) 29) := by
  refine fn_R (txok T) rfl T.F__law_shaped sc__law_shaped rfl rfl fun cdv A outer s H E gs hr => ?_
  refine of_ex ⟨_, (pss_one (ps_ret (pe_ifExp (pt_cmpR (op_eqK (K := (kt K ad).K) rfl (Ez.hu64 hr)) (pe_callG I.take (hr.mono (by omega)) gs (by rfl) T.m__law_take T.k__law_take T.b__law_take .nil passN (pa_cons (pv 0) (pa_cons pe_int pa_nil))) pe_int (nomark _)) (pe_callTy (T := "list") (call_listK (K := (kt K ad).K) rfl) (by rfl) T.b_list (by decide +kernel) (pa_cons (pv 1) pa_nil)) (pe_callTy (T := "tuple") (call_tupK (K := (kt K ad).K) rfl) (by rfl) T.b_tuple (by decide +kernel) (pa_cons (pv 1) pa_nil))))), ?_⟩
  show _ = (denS (dn (kt K ad) tx (con ad) n E) b__law_shaped).ts
  unfold b__law_shaped
  simp only [denS, den, denGp, denI, denB, den2, Dn.of, Dn.wt, cond] <;> rfl
theorem ok__law_plain (T : Txt K mg ad) {n : Nat} (I : AllOk Pg w K mg base ad n) : FnG Pg w K mg base (n + 3) ad.f__law_plain ad.fd__law_plain ["_law_thing"] (spR (kt K ad) tx (n + 1) 30) := by
  refine fn_R (txok T) rfl T.F__law_plain sc__law_plain rfl rfl fun cdv A outer s H E gs hr => ?_
  refine of_ex ⟨_, (pss_one (ps_ret (pe_ifExp (pt_val (pe_callB (call_isiTK (K := (kt K ad).K) rfl) (by rfl) T.b_isinstance (by decide +kernel) (pa_cons (pv 0) (pa_cons (pe_tup (pa_cons (pe_bltn (v := .ty "list") (by rfl) T.b_list (by decide +kernel) rfl) (pa_cons (pe_bltn (v := .ty "tuple") (by rfl) T.b_tuple (by decide +kernel) rfl) pa_nil))) pa_nil)))) (pe_callTy (T := "tuple") (call_tupK (K := (kt K ad).K) rfl) (by rfl) T.b_tuple (by decide +kernel) (pa_cons (pe_lc (own := [("_law_item", 1)]) (by rfl) sc__law_plain.nd (pi_seqK (K := (kt K ad).K) rfl (pv 0)) (blkOk_by (N := ["_law_thing", "_law_item"]) (sc := defScope s__law_plain) (own := [("_law_item", 1)]) (by decide +kernel)) (fun _ _ _ _ _ => (pg_name (i := 1) sc__law_plain.nd rfl (by first | exact Or.inl rfl | exact Or.inr rfl))) (fun _ _ _ _ _ => pts_nil) (fun _ _ _ _ _ => (pe_callGS (E := Snk.no.at) I._law_plain hr gs (by rfl) T.m__law_plain T.k__law_plain T.b__law_plain .nil px_no (pa_cons (pv 1) pa_nil)))) pa_nil)) (pv 0)))), ?_⟩
  show _ = (denS (dn (kt K ad) tx (con ad) n E) b__law_plain).ts
  unfold b__law_plain
  simp only [denS, den, denGp, denI, denB, den2, Dn.of, Dn.wt, cond] <;> rfl
theorem ok__law_like (T : Txt K mg ad) {n : Nat} (I : AllOk Pg w K mg base ad n) : FnG Pg w K mg base (n + 3) ad.f__law_like ad.fd__law_like ["_law_one", "_law_other"] (spR (kt K ad) tx (n + 1) 31) := by
  refine fn_R (txok T) rfl T.F__law_like sc__law_like rfl rfl fun cdv A outer s H E gs hr => ?_
  refine of_ex ⟨_, (pss_one (ps_ret (pe_and (pe_cmpR (op_eqK (K := (kt K ad).K) rfl (Ez.hu64 hr)) (pv 0) (pv 1) (nomark _)) (Ez.pe_and1 (pe_cmpR op_eq (pe_callB (call_reprK (K := (kt K ad).K) rfl gs (Ez.hu64 hr)) (by rfl) T.b_repr (by decide +kernel) (pa_cons (pv 0) pa_nil)) (pe_callB (call_reprK (K := (kt K ad).K) rfl gs (Ez.hu64 hr)) (by rfl) T.b_repr (by decide +kernel) (pa_cons (pv 1) pa_nil)) (nomark _)))))), ?_⟩
  show _ = (denS (dn (kt K ad) tx (con ad) n E) b__law_like).ts
  unfold b__law_like
  simp only [denS, den, denGp, denI, denB, den2, Dn.of, Dn.wt, cond] <;> rfl
theorem ok__law_slope_of (T : Txt K mg ad) {n : Nat} (I : AllOk Pg w K mg base ad n) : FnG Pg w K mg base (n + 3) ad.f__law_slope_of ad.fd__law_slope_of ["_law_slope", "_law_band"] (spR (kt K ad) tx (n + 1) 32) := by
  obtain ⟨_, dv_check_slope_2, bd_check_slope_2⟩ := T.bd_check_slope_2
  refine fn_R (txok T) rfl T.F__law_slope_of sc__law_slope_of rfl rfl fun cdv A outer s H E gs hr => ?_
  refine of_ex ⟨_, (pss_cons (Ez.ps_tryR (Wout := fun _ _ _ _ => False) rfl rfl sc__law_slope_of.nd takesN (fun Wx pn xe tk _ => (pss_one (ps_set (i := 2) sc__law_slope_of.nd rfl (by first | exact Or.inl rfl | exact Or.inr rfl) (pe_callGS (E := (Snk.tr Wx).at) I.check_slope hr gs (by rfl) T.m_check_slope T.k_check_slope bd_check_slope_2 dv_check_slope_2 (px_tr tk) (pa_cons (pv 0) (pa_cons (pv 1) pa_nil)))))) (HdsN.named (i := 3) ⟨by rfl, by decide, Or.inl T.m_BadSlope⟩ rfl rfl (fun a oe cls d pn hz hf => (pss_one (ps_ret (pe_lst (pa_cons pe_str (pa_cons (pe_callHS (E := Snk.no.at) (all_hot T n).h__law_plain (roomH_mark hr _) (hot_suite hz hf) (by rfl) T.m__law_plain T.k__law_plain T.b__law_plain px_no (pa_cons (pe_xf T.x_BadSlope T.xn_BadSlope_slope hz.zc hf (pv 3)) pa_nil)) pa_nil)))))) (HdsN.plain ⟨by rfl, by decide, Or.inl T.m_ParcelError⟩ (fun a oe cls d pn hz hf => (pss_one (ps_ret (pe_lst (pa_cons pe_str pa_nil))))) HdsN.nil)))
      (pss_one (ps_ret (pv 2)))), ?_⟩
  show _ = (denS (dn (kt K ad) tx (con ad) n E) b__law_slope_of).ts
  unfold b__law_slope_of
  simp only [denS, den, denGp, denI, denB, den2, Dn.of, Dn.wt, cond] <;> rfl
theorem ok__law_mirror (T : Txt K mg ad) {n : Nat} (I : AllOk Pg w K mg base ad n) : FnG Pg w K mg base (n + 3) ad.f__law_mirror ad.fd__law_mirror ["_law_slope"] (spR (kt K ad) tx (n + 1) 33) := by
  refine fn_R (txok T) rfl T.F__law_mirror sc__law_mirror rfl rfl fun cdv A outer s H E gs hr => ?_
  refine of_ex ⟨_, (pss_cons (Ez.ps_tryR (Wout := fun _ _ _ _ => False) rfl rfl sc__law_mirror.nd takesN (fun Wx pn xe tk _ => (pss_one (ps_set (i := 1) sc__law_mirror.nd rfl (by first | exact Or.inl rfl | exact Or.inr rfl) (pe_callGS (E := (Snk.tr Wx).at) I.mirrored_slope hr gs (by rfl) T.m_mirrored_slope T.k_mirrored_slope T.b_mirrored_slope .nil (px_tr tk) (pa_cons (pv 0) pa_nil))))) (HdsN.named (i := 2) ⟨by rfl, by decide, Or.inl T.m_BadSlope⟩ rfl rfl (fun a oe cls d pn hz hf => (pss_one (ps_ret (pe_lst (pa_cons pe_str (pa_cons (pe_callHS (E := Snk.no.at) (all_hot T n).h__law_plain (roomH_mark hr _) (hot_suite hz hf) (by rfl) T.m__law_plain T.k__law_plain T.b__law_plain px_no (pa_cons (pe_xf T.x_BadSlope T.xn_BadSlope_slope hz.zc hf (pv 2)) pa_nil)) pa_nil)))))) (HdsN.plain ⟨by rfl, by decide, Or.inl T.m_ParcelError⟩ (fun a oe cls d pn hz hf => (pss_one (ps_ret (pe_lst (pa_cons pe_str pa_nil))))) HdsN.nil)))
      (pss_one (ps_ret (pv 1)))), ?_⟩
  show _ = (denS (dn (kt K ad) tx (con ad) n E) b__law_mirror).ts
  unfold b__law_mirror
  simp only [denS, den, denGp, denI, denB, den2, Dn.of, Dn.wt, cond] <;> rfl
theorem ok__law_deed (T : Txt K mg ad) {n : Nat} (I : AllOk Pg w K mg base ad n) : FnG Pg w K mg base (n + 3) ad.f__law_deed ad.fd__law_deed ["_law_deed_here", "_law_face", "_law_thing"] (spR (kt K ad) tx (n + 1) 34) := by
  refine fn_R (txok T) rfl T.F__law_deed sc__law_deed rfl rfl fun cdv A outer s H E gs hr => ?_
  refine of_ex ⟨_, (pss_cons (Ez.ps_tryR (Wout := fun _ _ _ _ => False) rfl rfl sc__law_deed.nd takesN (fun Wx pn xe tk _ => (pss_one (ps_set (i := 3) sc__law_deed.nd rfl (by first | exact Or.inl rfl | exact Or.inr rfl) (pe_callV (E := (Snk.tr Wx).at) (fn := (kt K ad).fn) (ok := tx.ok) (i := 0) (by exact I.any) hr gs rfl (Or.inl rfl) (px_tr tk) (pa_cons (pv 1) (pa_cons (pv 2) pa_nil)))))) (HdsN.named (i := 4) ⟨by rfl, by decide, Or.inl T.m_BadFace⟩ rfl rfl (fun a oe cls d pn hz hf => (pss_one (ps_ret (pe_lst (pa_cons pe_str (pa_cons (pe_xf T.x_BadFace T.xn_BadFace_face hz.zc hf (pv 4)) pa_nil)))))) (HdsN.named (i := 4) ⟨by rfl, by decide, Or.inl T.m_BadDirection⟩ rfl rfl (fun a oe cls d pn hz hf => (pss_one (ps_ret (pe_lst (pa_cons pe_str (pa_cons (pe_xf T.x_BadDirection T.xn_BadDirection_what hz.zc hf (pv 4)) pa_nil)))))) (HdsN.named (i := 4) ⟨by rfl, by decide, Or.inl T.m_BadSlope⟩ rfl rfl (fun a oe cls d pn hz hf => (pss_one (ps_ret (pe_lst (pa_cons pe_str (pa_cons (pe_callHS (E := Snk.no.at) (all_hot T n).h__law_plain (roomH_mark hr _) (hot_suite hz hf) (by rfl) T.m__law_plain T.k__law_plain T.b__law_plain px_no (pa_cons (pe_xf T.x_BadSlope T.xn_BadSlope_slope hz.zc hf (pv 4)) pa_nil)) pa_nil)))))) (HdsN.plain ⟨by rfl, by decide, Or.inl T.m_ParcelError⟩ (fun a oe cls d pn hz hf => (pss_one (ps_ret (pe_lst (pa_cons pe_str pa_nil))))) HdsN.nil)))))
      (pss_one (ps_ret (pv 3)))), ?_⟩
  show _ = (denS (dn (kt K ad) tx (con ad) n E) b__law_deed).ts
  unfold b__law_deed
  simp only [denS, den, denGp, denI, denB, den2, Dn.of, Dn.wt, cond] <;> rfl
theorem ok__law_is_slope (T : Txt K mg ad) {n : Nat} (I : AllOk Pg w K mg base ad n) : FnG Pg w K mg base (n + 3) ad.f__law_is_slope ad.fd__law_is_slope ["_law_slope", "_law_band"] (spR (kt K ad) tx (n + 1) 35) := by
  refine fn_R (txok T) rfl T.F__law_is_slope sc__law_is_slope rfl rfl fun cdv A outer s H E gs hr => ?_
  refine of_ex ⟨_, (pss_cons (ps_if (pw_or (pt_not (pt_val (pe_callB (call_isiTK (K := (kt K ad).K) rfl) (by rfl) T.b_isinstance (by decide +kernel) (pa_cons (pv 0) (pa_cons (pe_tup (pa_cons (pe_bltn (v := .ty "list") (by rfl) T.b_list (by decide +kernel) rfl) (pa_cons (pe_bltn (v := .ty "tuple") (by rfl) T.b_tuple (by decide +kernel) rfl) pa_nil))) pa_nil))))) (pw_or1 (pt_cmpR (op_neK (K := (kt K ad).K) rfl (Ez.hu64 hr)) (pe_callB (call_lenK (K := (kt K ad).K) rfl) (by rfl) T.b_len (by decide +kernel) (pa_cons (pv 0) pa_nil)) pe_int (nomark _)))).pt (pss_one (ps_ret pe_bl)) pss_nil)
      (pss_cons (ps_if (pw_or (pt_not (pt_val (pe_callGS (E := (Snk.out E).at) I._law_whole hr gs (by rfl) T.m__law_whole T.k__law_whole T.b__law_whole .nil (px_out (L2N.takes_of rfl rfl rfl rfl)) (pa_cons (pe_ix (ix_seqK (K := (kt K ad).K) rfl) (pv 0) pe_int (fun _ _ => rfl)) (pa_cons pe_int (pa_cons pe_int pa_nil)))))) (pw_or1 (pt_not (pt_val (pe_callGS (E := (Snk.out E).at) I._law_whole hr gs (by rfl) T.m__law_whole T.k__law_whole T.b__law_whole .nil (px_out (L2N.takes_of rfl rfl rfl rfl)) (pa_cons (pe_ix (ix_seqK (K := (kt K ad).K) rfl) (pv 0) pe_int (fun _ _ => rfl)) (pa_cons pe_int (pa_cons pe_int pa_nil)))))))).pt (pss_one (ps_ret pe_bl)) pss_nil)
      (pss_one (ps_ret (pe_and (pe_cmpR (op_eqK (K := (kt K ad).K) rfl (Ez.hu64 hr)) (pe_callGS (E := (Snk.out E).at) I._law_common hr gs (by rfl) T.m__law_common T.k__law_common T.b__law_common .nil (px_out (L2N.takes_of rfl rfl rfl rfl)) (pa_cons (pe_ix (ix_seqK (K := (kt K ad).K) rfl) (pv 0) pe_int (fun _ _ => rfl)) (pa_cons (pe_ix (ix_seqK (K := (kt K ad).K) rfl) (pv 0) pe_int (fun _ _ => rfl)) pa_nil))) pe_int (nomark _)) (Ez.pe_and1 (pe_or (pv 1) (Ez.pe_or1 (pe_cmpR op_gt (pe_ix (ix_seqK (K := (kt K ad).K) rfl) (pv 0) pe_int (fun _ _ => rfl)) pe_int (nomark _)))))))))), ?_⟩
  show _ = (denS (dn (kt K ad) tx (con ad) n E) b__law_is_slope).ts
  unfold b__law_is_slope
  simp only [denS, den, denGp, denI, denB, den2, Dn.of, Dn.wt, cond] <;> rfl
theorem ok__law_slopes (T : Txt K mg ad) {n : Nat} (I : AllOk Pg w K mg base ad n) : FnG Pg w K mg base (n + 3) ad.f__law_slopes ad.fd__law_slopes ["_law_hand_here"] (spR (kt K ad) tx (n + 1) 36) := by
  obtain ⟨_, dv_check_slope_1, bd_check_slope_1⟩ := T.bd_check_slope_1
  obtain ⟨_, _, kb_check_slope_1_band, kg_check_slope_1_band⟩ := T.kb_check_slope_1_band
  refine fn_R (txok T) rfl T.F__law_slopes sc__law_slopes rfl rfl fun cdv A outer s H E gs hr => ?_
  refine of_ex ⟨_, (pss_cons (ps_set (i := 1) sc__law_slopes.nd rfl (by first | exact Or.inl rfl | exact Or.inr rfl) (pe_op op_sub (pe_callG I.take (hr.mono (by omega)) gs (by rfl) T.m__law_take T.k__law_take T.b__law_take .nil passN (pa_cons (pv 0) (pa_cons pe_int pa_nil))) pe_int))
      (pss_cons (ps_set (i := 2) sc__law_slopes.nd rfl (by first | exact Or.inl rfl | exact Or.inr rfl) (pe_op op_sub (pe_callG I.take (hr.mono (by omega)) gs (by rfl) T.m__law_take T.k__law_take T.b__law_take .nil passN (pa_cons (pv 0) (pa_cons pe_int pa_nil))) pe_int))
      (pss_cons (ps_set (i := 3) sc__law_slopes.nd rfl (by first | exact Or.inl rfl | exact Or.inr rfl) (pe_callGS (E := (Snk.out E).at) I._law_odd hr gs (by rfl) T.m__law_odd T.k__law_odd T.b__law_odd .nil (px_out (L2N.takes_of rfl rfl rfl rfl)) (pa_cons (pv 0) (pa_cons pe_int pa_nil))))
      (pss_cons (ps_set (i := 4) sc__law_slopes.nd rfl (by first | exact Or.inl rfl | exact Or.inr rfl) (pe_callGS (E := (Snk.out E).at) I._law_shaped hr gs (by rfl) T.m__law_shaped T.k__law_shaped T.b__law_shaped .nil (px_out (L2N.takes_of rfl rfl rfl rfl)) (pa_cons (pv 0) (pa_cons (pe_tup (pa_cons (pv 1) (pa_cons (pv 2) pa_nil))) pa_nil))))
      (pss_cons (ps_for (by passes_own) rfl (pi_seqK (K := (kt K ad).K) rfl (pe_lst (pa_cons (pv 4) (pa_cons (pe_tup (pa_cons (pv 1) (pa_cons (pv 3) pa_nil))) (pa_cons (pe_lst (pa_cons (pv 3) (pa_cons (pv 2) pa_nil))) (pa_cons (pe_tup (pa_cons (pv 1) pa_nil)) (pa_cons (pe_tup (pa_cons pe_int (pa_cons pe_int (pa_cons pe_int pa_nil)))) (pa_cons (pe_tup (pa_cons pe_int (pa_cons pe_int pa_nil))) (pa_cons (pe_lst (pa_cons pe_int (pa_cons pe_int pa_nil))) (pa_cons (pe_tup (pa_cons pe_int (pa_cons pe_int pa_nil))) (pa_cons (pv 3) pa_nil))))))))))) (pg_name (i := 5) sc__law_slopes.nd rfl (by first | exact Or.inl rfl | exact Or.inr rfl)) (pss_cons (ps_for (by passes_own) rfl (pi_seqK (K := (kt K ad).K) rfl (pe_lst (pa_cons pe_bl (pa_cons pe_bl pa_nil)))) (pg_name (i := 6) sc__law_slopes.nd rfl (by first | exact Or.inl rfl | exact Or.inr rfl)) (pss_cons (ps_set (i := 7) sc__law_slopes.nd rfl (by first | exact Or.inl rfl | exact Or.inr rfl) (pe_ifExp (pt_val (pe_callGS (E := (Snk.out E).at) I._law_is_slope hr gs (by rfl) T.m__law_is_slope T.k__law_is_slope T.b__law_is_slope .nil (px_out (L2N.takes_of rfl rfl rfl rfl)) (pa_cons (pv 5) (pa_cons (pv 6) pa_nil)))) (pe_callGS (E := (Snk.out E).at) I._law_plain hr gs (by rfl) T.m__law_plain T.k__law_plain T.b__law_plain .nil (px_out (L2N.takes_of rfl rfl rfl rfl)) (pa_cons (pv 5) pa_nil)) (pe_lst (pa_cons pe_str (pa_cons (pe_callGS (E := (Snk.out E).at) I._law_plain hr gs (by rfl) T.m__law_plain T.k__law_plain T.b__law_plain .nil (px_out (L2N.takes_of rfl rfl rfl rfl)) (pa_cons (pv 5) pa_nil)) pa_nil)))))
      (pss_one (ps_if (pt_not (pt_val (pe_callGS (E := (Snk.out E).at) I._law_like hr gs (by rfl) T.m__law_like T.k__law_like T.b__law_like .nil (px_out (L2N.takes_of rfl rfl rfl rfl)) (pa_cons (pe_callGS (E := (Snk.out E).at) I._law_slope_of hr gs (by rfl) T.m__law_slope_of T.k__law_slope_of T.b__law_slope_of .nil (px_out (L2N.takes_of rfl rfl rfl rfl)) (pa_cons (pv 5) (pa_cons (pv 6) pa_nil))) (pa_cons (pv 7) pa_nil))))) (pss_one (ps_ret pe_bl)) pss_nil))))
      (pss_cons (ps_set (i := 7) sc__law_slopes.nd rfl (by first | exact Or.inl rfl | exact Or.inr rfl) (pe_lst (pa_cons pe_str (pa_cons (pe_callGS (E := (Snk.out E).at) I._law_plain hr gs (by rfl) T.m__law_plain T.k__law_plain T.b__law_plain .nil (px_out (L2N.takes_of rfl rfl rfl rfl)) (pa_cons (pv 5) pa_nil)) pa_nil))))
      (pss_cons (ps_if (pt_val (pe_callGS (E := (Snk.out E).at) I._law_is_slope hr gs (by rfl) T.m__law_is_slope T.k__law_is_slope T.b__law_is_slope .nil (px_out (L2N.takes_of rfl rfl rfl rfl)) (pa_cons (pv 5) (pa_cons pe_bl pa_nil)))) (pss_one (ps_set (i := 7) sc__law_slopes.nd rfl (by first | exact Or.inl rfl | exact Or.inr rfl) (pe_ifExp (pt_cmpR (op_eqK (K := (kt K ad).K) rfl (Ez.hu64 hr)) (pe_ix (ix_seqK (K := (kt K ad).K) rfl) (pv 5) pe_int (fun _ _ => rfl)) pe_int (nomark _)) (pe_tup (pa_cons pe_int (pa_cons pe_int pa_nil))) (pe_tup (pa_cons (pe_ix (ix_seqK (K := (kt K ad).K) rfl) (pv 5) pe_int (fun _ _ => rfl)) (pa_cons (pe_ix (ix_seqK (K := (kt K ad).K) rfl) (pv 5) pe_int (fun _ _ => rfl)) pa_nil)))))) pss_nil)
      (pss_cons (ps_if (pt_not (pt_val (pe_callGS (E := (Snk.out E).at) I._law_like hr gs (by rfl) T.m__law_like T.k__law_like T.b__law_like .nil (px_out (L2N.takes_of rfl rfl rfl rfl)) (pa_cons (pe_callGS (E := (Snk.out E).at) I._law_mirror hr gs (by rfl) T.m__law_mirror T.k__law_mirror T.b__law_mirror .nil (px_out (L2N.takes_of rfl rfl rfl rfl)) (pa_cons (pv 5) pa_nil)) (pa_cons (pv 7) pa_nil))))) (pss_one (ps_ret pe_bl)) pss_nil)
      (pss_cons (ps_set (i := 8) sc__law_slopes.nd rfl (by first | exact Or.inl rfl | exact Or.inr rfl) (pe_callG I.take (hr.mono (by omega)) gs (by rfl) T.m__law_take T.k__law_take T.b__law_take .nil passN (pa_cons (pv 0) (pa_cons pe_int pa_nil))))
      (pss_cons (ps_if (pt_val (pe_callGS (E := (Snk.out E).at) I._law_is_slope hr gs (by rfl) T.m__law_is_slope T.k__law_is_slope T.b__law_is_slope .nil (px_out (L2N.takes_of rfl rfl rfl rfl)) (pa_cons (pv 5) (pa_cons pe_bl pa_nil)))) (pss_one (ps_set (i := 7) sc__law_slopes.nd rfl (by first | exact Or.inl rfl | exact Or.inr rfl) (pe_callTy (T := "tuple") (call_tupK (K := (kt K ad).K) rfl) (by rfl) T.b_tuple (by decide +kernel) (pa_cons (pe_callB (cr_sortedK (K := (kt K ad).K) rfl) (by rfl) T.b_sorted (by decide +kernel) (pa_cons (pe_callGS (E := (Snk.out E).at) I._law_four hr gs (by rfl) T.m__law_four T.k__law_four T.b__law_four .nil (px_out (L2N.takes_of rfl rfl rfl rfl)) (pa_cons (pv 8) (pa_cons (pv 5) pa_nil))) pa_nil)) pa_nil)))) pss_nil)
      (pss_cons (ps_if (pt_not (pt_val (pe_callGS (E := (Snk.out E).at) I._law_like hr gs (by rfl) T.m__law_like T.k__law_like T.b__law_like .nil (px_out (L2N.takes_of rfl rfl rfl rfl)) (pa_cons (pe_callGS (E := (Snk.out E).at) I._law_deed hr gs (by rfl) T.m__law_deed T.k__law_deed T.b__law_deed .nil (px_out (L2N.takes_of rfl rfl rfl rfl)) (pa_cons (pe_glob (v := .ref ad.f_directions_on) (by rfl) T.m_directions_on rfl) (pa_cons (pv 8) (pa_cons (pv 5) pa_nil)))) (pa_cons (pv 7) pa_nil))))) (pss_one (ps_ret pe_bl)) pss_nil)
      (pss_one (ps_if (pt_not (pt_val (pe_callGS (E := (Snk.out E).at) I._law_like hr gs (by rfl) T.m__law_like T.k__law_like T.b__law_like .nil (px_out (L2N.takes_of rfl rfl rfl rfl)) (pa_cons (pe_callGS (E := (Snk.out E).at) I._law_deed hr gs (by rfl) T.m__law_deed T.k__law_deed T.b__law_deed .nil (px_out (L2N.takes_of rfl rfl rfl rfl)) (pa_cons (pe_glob (v := .ref ad.f_directions_on) (by rfl) T.m_directions_on rfl) (pa_cons (pe_op (op_addK (K := (kt K ad).K) rfl) pe_int (pv 8)) (pa_cons (pv 5) pa_nil)))) (pa_cons (pe_lst (pa_cons pe_str (pa_cons (pe_op (op_addK (K := (kt K ad).K) rfl) pe_int (pv 8)) pa_nil))) pa_nil))))) (pss_one (ps_ret pe_bl)) pss_nil))))))))))
      (pss_cons (ps_if (pt_cmpR (op_neK (K := (kt K ad).K) rfl (Ez.hu64 hr)) (pe_callKW (E := (Snk.out E).at) I.check_slope hr gs (by rfl) T.m_check_slope T.k_check_slope kb_check_slope_1_band kg_check_slope_1_band (px_out (L2N.takes_of rfl rfl rfl rfl)) (pe_lst (pa_cons pe_int (pa_cons pe_int pa_nil))) pe_bl) (pe_tup (pa_cons pe_int (pa_cons pe_int pa_nil))) (nomark _)) (pss_one (ps_ret pe_bl)) pss_nil)
      (pss_cons (Ez.ps_tryR (Wout := fun _ _ _ _ => False) rfl rfl sc__law_slopes.nd takesN (fun Wx pn xe tk _ => (pss_one (ps_set (i := 9) sc__law_slopes.nd rfl (by first | exact Or.inl rfl | exact Or.inr rfl) (pe_callGS (E := (Snk.tr Wx).at) I.check_slope hr gs (by rfl) T.m_check_slope T.k_check_slope bd_check_slope_1 dv_check_slope_1 (px_tr tk) (pa_cons (pe_lst (pa_cons pe_int (pa_cons pe_int pa_nil))) pa_nil))))) (HdsN.named (i := 10) ⟨by rfl, by decide, Or.inl T.m_BadSlope⟩ rfl rfl (fun a oe cls d pn hz hf => (pss_cons (ps_set (i := 9) sc__law_slopes.nd rfl (by first | exact Or.inl rfl | exact Or.inr rfl) (pe_callHS (E := Snk.no.at) (all_hot T n).h__law_plain (roomH_mark hr _) (hot_suite hz hf) (by rfl) T.m__law_plain T.k__law_plain T.b__law_plain px_no (pa_cons (pe_xf T.x_BadSlope T.xn_BadSlope_slope hz.zc hf (pv 10)) pa_nil)))
      (pss_one (ps_ret (pe_cmpR (op_eqK (K := (kt K ad).K) rfl (Ez.hu64S hr)) (pv 9) (pe_tup (pa_cons pe_int (pa_cons pe_int pa_nil))) (nomark _)))))) HdsN.nil))
      (pss_one (ps_ret pe_bl))))))))), ?_⟩
  show _ = (denS (dn (kt K ad) tx (con ad) n E) b__law_slopes).ts
  unfold b__law_slopes
  simp only [denS, den, denGp, denI, denB, den2, Dn.of, Dn.wt, cond] <;> rfl
theorem ok__law_word (T : Txt K mg ad) {n : Nat} (I : AllOk Pg w K mg base ad n) : FnG Pg w K mg base (n + 3) ad.f__law_word ad.fd__law_word ["_law_face", "_law_steps_here"] (spR (kt K ad) tx (n + 1) 37) := by
  refine fn_R (txok T) rfl T.F__law_word sc__law_word rfl rfl fun cdv A outer s H E gs hr => ?_
  refine of_ex ⟨_, (pss_cons (ps_if (pw_or (pt_not (pt_val (pe_callB (call_isiTK (K := (kt K ad).K) rfl) (by rfl) T.b_isinstance (by decide +kernel) (pa_cons (pv 1) (pa_cons (pe_tup (pa_cons (pe_bltn (v := .ty "list") (by rfl) T.b_list (by decide +kernel) rfl) (pa_cons (pe_bltn (v := .ty "tuple") (by rfl) T.b_tuple (by decide +kernel) rfl) pa_nil))) pa_nil))))) (pw_or1 (pt_cmpR (op_neK (K := (kt K ad).K) rfl (Ez.hu64 hr)) (pe_callB (call_lenK (K := (kt K ad).K) rfl) (by rfl) T.b_len (by decide +kernel) (pa_cons (pv 1) pa_nil)) pe_int (nomark _)))).pt (pss_one (ps_ret pe_str)) pss_nil)
      (pss_cons (ps_if (pt_truthK (K := (kt K ad).K) rfl (pe_lc (own := [("_law_step", 2)]) (by rfl) sc__law_word.nd (pi_seqK (K := (kt K ad).K) rfl (pv 1)) (blkOk_by (N := ["_law_face", "_law_steps_here", "_law_step", "_law_axes_here"]) (sc := defScope s__law_word) (own := [("_law_step", 2)]) (by decide +kernel)) (fun _ _ _ _ _ => (pg_name (i := 2) sc__law_word.nd rfl (by first | exact Or.inl rfl | exact Or.inr rfl))) (fun _ _ _ _ _ => pts_one (pt_not (pt_val (pe_callGS (E := Snk.no.at) I._law_whole hr gs (by rfl) T.m__law_whole T.k__law_whole T.b__law_whole .nil px_no (pa_cons (pv 2) (pa_cons (pe_un un_neg pe_int) (pa_cons pe_int pa_nil))))))) (fun _ _ _ _ _ => pe_int)) (by intro _; rfl)) (pss_one (ps_ret pe_str)) pss_nil)
      (pss_cons (ps_if (pt_cmpR (op_neK (K := (kt K ad).K) rfl (Ez.hu64 hr)) (pe_ix (ix_seqK (K := (kt K ad).K) rfl) (pv 1) (pe_op op_fdivZ (pv 0) pe_int) (fun _ _ => rfl)) pe_int (nomark _)) (pss_one (ps_ret pe_str)) pss_nil)
      (pss_cons (ps_set (i := 3) sc__law_word.nd rfl (by first | exact Or.inl rfl | exact Or.inr rfl) (pe_callGS (E := (Snk.out E).at) I._law_axes hr gs (by rfl) T.m__law_axes T.k__law_axes T.b__law_axes .nil (px_out (L2N.takes_of rfl rfl rfl rfl)) (pa_cons (pv 0) pa_nil)))
      (pss_cons (ps_if (pw_and (pt_cmpR (op_eqK (K := (kt K ad).K) rfl (Ez.hu64 hr)) (pe_ix (ix_seqK (K := (kt K ad).K) rfl) (pv 1) (pe_ix (ix_seqK (K := (kt K ad).K) rfl) (pv 3) pe_int (fun _ _ => rfl)) (fun _ _ => rfl)) pe_int (nomark _)) (pw_and1 (pt_cmpR (op_eqK (K := (kt K ad).K) rfl (Ez.hu64 hr)) (pe_ix (ix_seqK (K := (kt K ad).K) rfl) (pv 1) (pe_ix (ix_seqK (K := (kt K ad).K) rfl) (pv 3) pe_int (fun _ _ => rfl)) (fun _ _ => rfl)) pe_int (nomark _)))).pt (pss_one (ps_ret pe_str)) pss_nil)
      (pss_one (ps_ret (pe_ifExp (pt_cmpR (op_eqK (K := (kt K ad).K) rfl (Ez.hu64 hr)) (pe_callGS (E := (Snk.out E).at) I._law_common hr gs (by rfl) T.m__law_common T.k__law_common T.b__law_common .nil (px_out (L2N.takes_of rfl rfl rfl rfl)) (pa_cons (pe_ix (ix_seqK (K := (kt K ad).K) rfl) (pv 1) (pe_ix (ix_seqK (K := (kt K ad).K) rfl) (pv 3) pe_int (fun _ _ => rfl)) (fun _ _ => rfl)) (pa_cons (pe_ix (ix_seqK (K := (kt K ad).K) rfl) (pv 1) (pe_ix (ix_seqK (K := (kt K ad).K) rfl) (pv 3) pe_int (fun _ _ => rfl)) (fun _ _ => rfl)) pa_nil))) pe_int (nomark _)) pe_non pe_str)))))))), ?_⟩
  show _ = (denS (dn (kt K ad) tx (con ad) n E) b__law_word).ts
  unfold b__law_word
  simp only [denS, den, denGp, denI, denB, den2, Dn.of, Dn.wt, cond] <;> rfl
theorem ok__law_drawn (T : Txt K mg ad) {n : Nat} (I : AllOk Pg w K mg base ad n) : FnG Pg w K mg base (n + 3) ad.f__law_drawn ad.fd__law_drawn ["_law_hand_here", "_law_face"] (spR (kt K ad) tx (n + 1) 38) := by
  refine fn_R (txok T) rfl T.F__law_drawn sc__law_drawn rfl rfl fun cdv A outer s H E gs hr => ?_
  refine of_ex ⟨_, (pss_cons (ps_set (i := 2) sc__law_drawn.nd rfl (by first | exact Or.inl rfl | exact Or.inr rfl) (pe_ifExp (pt_cmpR (op_eqK (K := (kt K ad).K) rfl (Ez.hu64 hr)) (pe_callG I.take (hr.mono (by omega)) gs (by rfl) T.m__law_take T.k__law_take T.b__law_take .nil passN (pa_cons (pv 0) (pa_cons pe_int pa_nil))) pe_int (nomark _)) pe_int pe_int))
      (pss_cons (ps_set (i := 3) sc__law_drawn.nd rfl (by first | exact Or.inl rfl | exact Or.inr rfl) (pe_op op_sub (pe_callG I.take (hr.mono (by omega)) gs (by rfl) T.m__law_take T.k__law_take T.b__law_take .nil passN (pa_cons (pv 0) (pa_cons (pe_op (op_addK (K := (kt K ad).K) rfl) (pe_op op_mulA pe_int (pv 2)) pe_int) pa_nil))) (pv 2)))
      (pss_cons (ps_set (i := 4) sc__law_drawn.nd rfl (by first | exact Or.inl rfl | exact Or.inr rfl) (pe_op op_sub (pe_callG I.take (hr.mono (by omega)) gs (by rfl) T.m__law_take T.k__law_take T.b__law_take .nil passN (pa_cons (pv 0) (pa_cons (pe_op (op_addK (K := (kt K ad).K) rfl) (pe_op op_mulA pe_int (pv 2)) pe_int) pa_nil))) (pv 2)))
      (pss_cons (ps_set (i := 5) sc__law_drawn.nd rfl (by first | exact Or.inl rfl | exact Or.inr rfl) (pe_callGS (E := (Snk.out E).at) I._law_common hr gs (by rfl) T.m__law_common T.k__law_common T.b__law_common .nil (px_out (L2N.takes_of rfl rfl rfl rfl)) (pa_cons (pv 3) (pa_cons (pv 4) pa_nil))))
      (pss_cons (ps_if (pt_cmpR (op_eqK (K := (kt K ad).K) rfl (Ez.hu64 hr)) (pv 5) pe_int (nomark _)) (pss_one (ps_ret (pe_callGS (E := (Snk.out E).at) I._law_steps hr gs (by rfl) T.m__law_steps T.k__law_steps T.b__law_steps .nil (px_out (L2N.takes_of rfl rfl rfl rfl)) (pa_cons (pv 1) (pa_cons pe_int (pa_cons (pe_op op_sub pe_int (pe_op op_mulA pe_int (pe_callG I.take (hr.mono (by omega)) gs (by rfl) T.m__law_take T.k__law_take T.b__law_take .nil passN (pa_cons (pv 0) (pa_cons pe_int pa_nil))))) pa_nil)))))) pss_nil)
      (pss_cons (ps_set (i := 6) sc__law_drawn.nd rfl (by first | exact Or.inl rfl | exact Or.inr rfl) (pe_callB (call_max2 rfl) (by rfl) T.b_max (by decide +kernel) (pa_cons (pv 5) (pa_cons pe_int pa_nil))))
      (pss_one (ps_ret (pe_callGS (E := (Snk.out E).at) I._law_steps hr gs (by rfl) T.m__law_steps T.k__law_steps T.b__law_steps .nil (px_out (L2N.takes_of rfl rfl rfl rfl)) (pa_cons (pv 1) (pa_cons (pe_op op_fdivZ (pv 3) (pv 6)) (pa_cons (pe_op op_fdivZ (pv 4) (pv 6)) pa_nil)))))))))))), ?_⟩
  show _ = (denS (dn (kt K ad) tx (con ad) n E) b__law_drawn).ts
  unfold b__law_drawn
  simp only [denS, den, denGp, denI, denB, den2, Dn.of, Dn.wt, cond] <;> rfl
theorem ok__law_spoilt (T : Txt K mg ad) {n : Nat} (I : AllOk Pg w K mg base ad n) : FnG Pg w K mg base (n + 3) ad.f__law_spoilt ad.fd__law_spoilt ["_law_hand_here", "_law_face", "_law_steps_here"] (spR (kt K ad) tx (n + 1) 39) := by
  refine fn_R (txok T) rfl T.F__law_spoilt sc__law_spoilt rfl rfl fun cdv A outer s H E gs hr => ?_
  refine of_ex ⟨_, (pss_cons (ps_set (i := 3) sc__law_spoilt.nd rfl (by first | exact Or.inl rfl | exact Or.inr rfl) (pe_callTy (T := "list") (call_listK (K := (kt K ad).K) rfl) (by rfl) T.b_list (by decide +kernel) (pa_cons (pv 2) pa_nil)))
      (pss_cons (ps_set (i := 4) sc__law_spoilt.nd rfl (by first | exact Or.inl rfl | exact Or.inr rfl) (pe_callG I.take (hr.mono (by omega)) gs (by rfl) T.m__law_take T.k__law_take T.b__law_take .nil passN (pa_cons (pv 0) (pa_cons pe_int pa_nil))))
      (pss_cons (ps_if (pt_cmpR (op_eqK (K := (kt K ad).K) rfl (Ez.hu64 hr)) (pv 4) pe_int (nomark _)) (pss_one (ps_asg (pe_op (op_addK (K := (kt K ad).K) rfl) pe_int (pe_callG I.take (hr.mono (by omega)) gs (by rfl) T.m__law_take T.k__law_take T.b__law_take .nil passN (pa_cons (pv 0) (pa_cons pe_int pa_nil)))) (pg_sub (pv 3) (pe_op op_fdivZ (pv 1) pe_int) set_list))) pss_nil)
      (pss_cons (ps_if (pt_cmpR (op_eqK (K := (kt K ad).K) rfl (Ez.hu64 hr)) (pv 4) pe_int (nomark _)) (pss_one (ps_setLc (i := 3) (own := [("_law_step", 5)]) (by rfl) sc__law_spoilt.nd rfl rfl (sw_true rfl rfl rfl (by decide +kernel)) (pi_seqK (K := (kt K ad).K) rfl (pv 3)) (blkOk_by (N := ["_law_hand_here", "_law_face", "_law_steps_here", "_law_out_here", "_law_kind", "_law_step"]) (sc := defScope s__law_spoilt) (own := [("_law_step", 5)]) (by decide +kernel)) (fun _ _ _ _ _ => (pg_name (i := 5) sc__law_spoilt.nd rfl (by first | exact Or.inl rfl | exact Or.inr rfl))) (fun _ _ _ _ _ => pts_nil) (fun _ _ _ _ _ => (pe_op op_mulA pe_int (pv 5))))) pss_nil)
      (pss_cons (ps_if (pt_cmpR (op_eqK (K := (kt K ad).K) rfl (Ez.hu64 hr)) (pv 4) pe_int (nomark _)) (pss_one (ps_set (i := 3) sc__law_spoilt.nd rfl (by first | exact Or.inl rfl | exact Or.inr rfl) (pe_lst (pa_cons pe_int (pa_cons pe_int (pa_cons pe_int pa_nil)))))) pss_nil)
      (pss_cons (ps_if (pt_cmpR (op_eqK (K := (kt K ad).K) rfl (Ez.hu64 hr)) (pv 4) pe_int (nomark _)) (pss_one (ps_asg (pe_ix (ix_seqK (K := (kt K ad).K) rfl) (pe_lst (pa_cons pe_bl (pa_cons pe_non (pa_cons pe_str (pa_cons pe_int (pa_cons (pe_un un_neg pe_int) (pa_cons (pe_tup (pa_cons pe_int pa_nil)) pa_nil))))))) (pe_callG I.take (hr.mono (by omega)) gs (by rfl) T.m__law_take T.k__law_take T.b__law_take .nil passN (pa_cons (pv 0) (pa_cons pe_int pa_nil))) (fun _ _ => rfl)) (pg_sub (pv 3) (pe_callG I.take (hr.mono (by omega)) gs (by rfl) T.m__law_take T.k__law_take T.b__law_take .nil passN (pa_cons (pv 0) (pa_cons pe_int pa_nil))) set_list))) pss_nil)
      (pss_cons (ps_if (pt_cmpR (op_eqK (K := (kt K ad).K) rfl (Ez.hu64 hr)) (pv 4) pe_int (nomark _)) (pss_one (ps_ret (pe_ix (ix_seqK (K := (kt K ad).K) rfl) (pe_lst (pa_cons (pe_slice (sl_seqK (K := (kt K ad).K) rfl) (pv 3) po_none (po_some pe_int)) (pa_cons (pe_op (op_addK (K := (kt K ad).K) rfl) (pv 3) (pe_lst (pa_cons pe_int pa_nil))) (pa_cons (pe_callGS (E := (Snk.out E).at) I._law_rid hr gs (by rfl) T.m__law_rid T.k__law_rid T.b__law_rid .nil (px_out (L2N.takes_of rfl rfl rfl rfl)) (pa_cons (pv 0) pa_nil)) (pa_cons (pe_tup pa_nil) pa_nil))))) (pe_callG I.take (hr.mono (by omega)) gs (by rfl) T.m__law_take T.k__law_take T.b__law_take .nil passN (pa_cons (pv 0) (pa_cons pe_int pa_nil))) (fun _ _ => rfl)))) pss_nil)
      (pss_cons (ps_if (pt_cmpR (op_eqK (K := (kt K ad).K) rfl (Ez.hu64 hr)) (pv 4) pe_int (nomark _)) (pss_cons (ps_asg pe_int (pg_sub (pv 3) (pe_op op_fdivZ (pv 1) pe_int) set_list))
      (pss_one (ps_asg (pe_ix (ix_seqK (K := (kt K ad).K) rfl) (pe_lst (pa_cons pe_int (pa_cons pe_int (pa_cons pe_bl pa_nil)))) (pe_callG I.take (hr.mono (by omega)) gs (by rfl) T.m__law_take T.k__law_take T.b__law_take .nil passN (pa_cons (pv 0) (pa_cons pe_int pa_nil))) (fun _ _ => rfl)) (pg_sub (pv 3) (pe_ix (ix_seqK (K := (kt K ad).K) rfl) (pe_callGS (E := (Snk.out E).at) I._law_axes hr gs (by rfl) T.m__law_axes T.k__law_axes T.b__law_axes .nil (px_out (L2N.takes_of rfl rfl rfl rfl)) (pa_cons (pv 1) pa_nil)) pe_int (fun _ _ => rfl)) set_list)))) pss_nil)
      (pss_cons (ps_if (pt_cmpR (op_eqK (K := (kt K ad).K) rfl (Ez.hu64 hr)) (pv 4) pe_int (nomark _)) (pss_cons (ps_set (i := 3) sc__law_spoilt.nd rfl (by first | exact Or.inl rfl | exact Or.inr rfl) (pe_lst (pa_cons pe_int (pa_cons pe_int (pa_cons pe_int pa_nil)))))
      (pss_one (ps_asg pe_int (pg_sub (pv 3) (pe_op op_fdivZ (pv 1) pe_int) set_list)))) pss_nil)
      (pss_one (ps_ret (pe_callGS (E := (Snk.out E).at) I._law_shaped hr gs (by rfl) T.m__law_shaped T.k__law_shaped T.b__law_shaped .nil (px_out (L2N.takes_of rfl rfl rfl rfl)) (pa_cons (pv 0) (pa_cons (pv 3) pa_nil)))))))))))))), ?_⟩
  show _ = (denS (dn (kt K ad) tx (con ad) n E) b__law_spoilt).ts
  unfold b__law_spoilt
  simp only [denS, den, denGp, denI, denB, den2, Dn.of, Dn.wt, cond] <;> rfl
theorem ok__law_faceless (T : Txt K mg ad) {n : Nat} (I : AllOk Pg w K mg base ad n) : FnG Pg w K mg base (n + 3) ad.f__law_faceless ad.fd__law_faceless ["_law_hand_here"] (spR (kt K ad) tx (n + 1) 40) := by
  refine fn_R (txok T) rfl T.F__law_faceless sc__law_faceless rfl rfl fun cdv A outer s H E gs hr => ?_
  refine of_ex ⟨_, (pss_cons (ps_set (i := 1) sc__law_faceless.nd rfl (by first | exact Or.inl rfl | exact Or.inr rfl) (pe_callGS (E := (Snk.out E).at) I._law_odd hr gs (by rfl) T.m__law_odd T.k__law_odd T.b__law_odd .nil (px_out (L2N.takes_of rfl rfl rfl rfl)) (pa_cons (pv 0) (pa_cons pe_int pa_nil))))
      (pss_cons (ps_set (i := 2) sc__law_faceless.nd rfl (by first | exact Or.inl rfl | exact Or.inr rfl) (pe_lst pa_nil))
      (pss_cons (Ez.ps_tryR (Wout := fun _ _ _ _ => False) rfl rfl sc__law_faceless.nd takesN (fun Wx pn xe tk _ => (pss_one (ps_expr (pe_appK (K := (kt K ad).K) rfl (pv 2) (pa_cons (pe_callGS (E := (Snk.tr Wx).at) I.framed hr gs (by rfl) T.m_framed T.k_framed T.b_framed .nil (px_tr tk) (pa_cons (pv 1) (pa_cons (pe_tup (pa_cons pe_int (pa_cons pe_int (pa_cons pe_int pa_nil)))) pa_nil))) pa_nil))))) (HdsN.named (i := 3) ⟨by rfl, by decide, Or.inl T.m_BadFace⟩ rfl rfl (fun a oe cls d pn hz hf => (pss_one (ps_expr (pe_appK (K := (kt K ad).K) rfl (pv 2) (pa_cons (pe_xf T.x_BadFace T.xn_BadFace_face hz.zc hf (pv 3)) pa_nil))))) HdsN.nil))
      (pss_cons (Ez.ps_tryR (Wout := fun _ _ _ _ => False) rfl rfl sc__law_faceless.nd takesN (fun Wx pn xe tk _ => (pss_one (ps_expr (pe_appK (K := (kt K ad).K) rfl (pv 2) (pa_cons (pe_callGS (E := (Snk.tr Wx).at) I.unframed hr gs (by rfl) T.m_unframed T.k_unframed T.b_unframed .nil (px_tr tk) (pa_cons (pv 1) (pa_cons pe_int (pa_cons pe_int pa_nil)))) pa_nil))))) (HdsN.named (i := 3) ⟨by rfl, by decide, Or.inl T.m_BadFace⟩ rfl rfl (fun a oe cls d pn hz hf => (pss_one (ps_expr (pe_appK (K := (kt K ad).K) rfl (pv 2) (pa_cons (pe_xf T.x_BadFace T.xn_BadFace_face hz.zc hf (pv 3)) pa_nil))))) HdsN.nil))
      (pss_one (ps_ret (pe_callGS (E := (Snk.out E).at) I._law_like hr gs (by rfl) T.m__law_like T.k__law_like T.b__law_like .nil (px_out (L2N.takes_of rfl rfl rfl rfl)) (pa_cons (pv 2) (pa_cons (pe_lst (pa_cons (pv 1) (pa_cons (pv 1) pa_nil))) pa_nil))))))))), ?_⟩
  show _ = (denS (dn (kt K ad) tx (con ad) n E) b__law_faceless).ts
  unfold b__law_faceless
  simp only [denS, den, denGp, denI, denB, den2, Dn.of, Dn.wt, cond] <;> rfl
end K04

set_option Elab.async false
set_option linter.all false
set_option maxRecDepth 100000
set_option maxHeartbeats 3999999

namespace K04
open L2 PySem PyProof.Rows PySem.Spec Ez
section
local macro_rules | `(tactic| walk_at "dzk") => `(tactic| first
  | exact kit_NoneType_bool
  | exact kit_NoneType_int
  | exact kit_NoneType_str
  | exact kit_NoneType_tuple
  | exact kit_NoneType_list
  | exact kit_bool_bool
  | exact kit_bool_int
  | exact kit_bool_str
  | exact kit_bool_tuple
  | exact kit_bool_list
  | exact kit_int_bool
  | exact kit_int_int
  | exact kit_int_str
  | exact kit_int_tuple
  | exact kit_int_list
  | exact kit_str_bool
  | exact kit_str_int
  | exact kit_str_str
  | exact kit_str_tuple
  | exact kit_str_list
  | exact kit_tuple_bool
  | exact kit_tuple_int
  | exact kit_tuple_str
  | exact kit_tuple_tuple
  | exact kit_tuple_list
  | exact kit_list_bool
  | exact kit_list_int
  | exact kit_list_str
  | exact kit_list_tuple
  | exact kit_list_list)
local macro_rules | `(tactic| walk_at "dz!") => `(tactic| first
  | rfl | assumption | decide | (simp only [List.length_cons, List.length_nil, List.length_set]; omega) | (simp; done))
local macro_rules | `(tactic| walk_at "dz") => `(tactic| first
  | with_reducible refine ws_seq ?_
  | with_reducible refine ws_next ?_
  | with_reducible refine ws_ret ?_
  | with_reducible refine ws_retN ?_
  | with_reducible refine ws_if ?_
  | with_reducible refine ws_setO rfl ?_
  | with_reducible refine ws_asg ?_
  | with_reducible refine ws_par ?_
  | ((with_reducible refine wg_name ?_ ?_); (focus walk_at "dz!"))
  | with_reducible refine wg_tup (by with_unfolding_all rfl) ?_
  | with_reducible refine wg_lst (by with_unfolding_all rfl) ?_
  | with_reducible refine wg_cons ?_
  | with_reducible refine wg_nil ?_
  | (with_reducible refine wp_var rfl ?_)
  | with_reducible refine wp_int ?_
  | with_reducible refine wp_bl ?_
  | with_reducible refine wp_str ?_
  | with_reducible refine wp_non ?_
  | with_reducible refine wp_ref (by assumption) ?_
  | with_reducible refine wp_ty ?_
  | with_reducible refine wp_ixO rfl ?_
  | with_reducible refine wp_op ?_
  | with_reducible refine wp_un ?_
  | with_reducible refine wp_if ?_
  | with_reducible refine wp_andV ?_
  | with_reducible refine wp_orV ?_
  | with_reducible refine wp_notV ?_
  | with_reducible refine wp_notT ?_
  | with_reducible refine wp_isN ?_
  | with_reducible refine wp_notN ?_
  | with_reducible refine wp_nil ?_
  | with_reducible refine wp_cons ?_
  | with_reducible refine wp_tup ?_
  | with_reducible refine wp_lst ?_
  | ((with_reducible refine wp_isi2 ?_); dsimp only)
  | with_reducible refine wp_lenO rfl ?_
  | with_reducible refine wp_tupO rfl ?_
  | with_reducible refine wp_cb ?_
  | ((with_reducible refine wp_call0 rfl ?_); dsimp only [List.map, dOf, List.nil_append, List.cons_append, List.append_nil])
  | with_reducible refine wp_chain ?_
  | with_reducible refine wt_test ?_
  | with_reducible refine wt_B ?_
  | with_reducible refine wt_and ?_
  | with_reducible refine wt_or ?_
  | with_reducible refine wt_not ?_
  | with_reducible refine wt_tru ?_
  | with_reducible refine wt_yes ?_
  | with_reducible refine od_i ?_
  | with_reducible refine od_b ?_
  | with_reducible refine od_ixT (by first | with_unfolding_all rfl | exact atI_cons0) ?_
  | with_reducible refine od_ixL (by first | with_unfolding_all rfl | exact atI_cons0) ?_
  | with_reducible refine od_eq (by with_unfolding_all rfl) (by with_unfolding_all rfl) ?_
  | with_reducible refine od_ne (by with_unfolding_all rfl) (by with_unfolding_all rfl) ?_
  | with_reducible refine od_bb ?_
  | with_reducible refine ud_neg ?_
  | with_reducible refine cb_lenT ?_
  | with_reducible refine cb_lenL ?_
  | with_reducible refine cb_abs ?_
  | with_reducible refine cb_int ?_
  | with_reducible refine cb_gcd ?_
  | with_reducible refine cb_min ?_
  | with_reducible refine cb_max ?_
  | with_reducible refine cb_listT ?_
  | with_reducible refine cb_listL ?_
  | with_reducible refine cb_tupT ?_
  | with_reducible refine cb_tupL ?_
  | with_reducible refine cb_isi (by with_unfolding_all rfl) (by walk_at "dzk") ?_
  | with_reducible refine ⟨_, _, _, (by with_unfolding_all rfl), (by walk_at "dzk"), (by walk_at "dzk"), ?_⟩
  | with_reducible refine ix_of (by with_unfolding_all rfl) ?_
  | with_reducible refine st_of (by with_unfolding_all rfl) ?_
  | with_reducible refine od_pow (by decide) ?_
  | with_reducible refine Exists.intro _ (And.intro rfl ?_))
local macro_rules | `(tactic| walk_at "dz0") => `(tactic| dsimp only [cxOf, Cx.tr, Cx.suite, Cx.nox, Cx.blk, Pm.fn, slots, List.map, List.length, List.replicate, Nat.reduceAdd, Nat.reduceSub, List.cons_append, List.nil_append, List.append_nil, dOf])
local macro_rules | `(tactic| walk_at "dzb") => `(tactic| first
  | with_reducible refine br_t ?_
  | with_reducible refine br_f ?_
  | with_reducible refine br_t2 ?_
  | with_reducible refine br_f2 ?_
  | (with_reducible refine br_d ?_ ?_ <;> intro _)
  | (with_reducible refine br_d2 ?_ ?_ <;> intro _)
  | refine br_t ?_
  | refine br_f ?_
  | refine br_t2 ?_
  | refine br_f2 ?_
  | (with_reducible refine br_b ?_ ?_ <;> intro _)
  | (with_reducible refine br_b2 ?_ ?_ <;> intro _))
local macro_rules | `(tactic| walk_at "dz*") => `(tactic| repeat' (first
  | walk_at "dz"
  | walk_at "dzb"
  | (refine And.intro (show _ ≤ 10000 by (first | decide | (simp; done))) ?_)
  | dsimp only))

variable {Pg : Program} {w : World} {K : PySem.W.Frag} {mg : Str → Option Value} {base : Heap} {ad : Ad}
abbrev pm_mixed : Pm := .f2 (fun _ x y => ∃ a b, x = .int a ∧ y = .int b ∧ Bd 100 a ∧ Bd 100 b) (fun _ _ r => ∃ v, r = .int v ∧ 0 ≤ v)
theorem ok_mixed (T : Txt K mg ad) (p : Addr) : FnOk Pg w K mg base (L2N.CX Pg w) 1 ad.f__law_mixed ad.fd__law_mixed ["_law_number", "_law_turn"] (spD (kp (kt K ad) p) pm_mixed) := by
  refine fn_D (K := kp (kt K ad) p) T.F__law_mixed sc__law_mixed (fun W ds h => ?_) fun cdv A outer s E W G H ds hr o hp hx => ?_
  · obtain ⟨a, b, rfl, _⟩ := Pm.l2 h; rfl
  obtain ⟨_, _, rfl, a, b, rfl, rfl, za, zb⟩ := Pm.l2 hp
  refine ⟨_, (pss_cons (ps_set (i := 2) sc__law_mixed.nd rfl (by first | exact Or.inl rfl | exact Or.inr rfl) (pe_op op_mod (pe_callTy (T := "int") call_int1 (by rfl) T.b_int (by decide +kernel) (pa_cons (pe_op op_add (pe_op op_add (pe_op op_mulW (pv 0) pe_int) (pe_op op_mulW (pv 1) pe_int)) pe_int) pa_nil)) pe_int))
      (pss_cons (ps_set (i := 3) sc__law_mixed.nd rfl (by first | exact Or.inl rfl | exact Or.inr rfl) (pe_op op_mod (pe_callTy (T := "int") call_int1 (by rfl) T.b_int (by decide +kernel) (pa_cons (pe_op op_add (pe_op op_add (pe_op op_mulW (pv 2) (pv 2)) (pe_op op_mulW (pv 1) pe_int)) (pe_op op_fdivW (pv 2) pe_int)) pa_nil)) pe_int))
      (pss_one (ps_ret (pe_op op_fdivW (pe_callTy (T := "int") call_int1 (by rfl) T.b_int (by decide +kernel) (pa_cons (pe_op op_mod (pe_callTy (T := "int") call_int1 (by rfl) T.b_int (by decide +kernel) (pa_cons (pe_op op_add (pe_op op_mulW (pv 3) pe_int) (pe_op op_fdivW (pv 2) pe_int)) pa_nil)) pe_int) pa_nil)) pe_int))))), ?_⟩
  walk_at "dz0"
  walk_at "dz*"
  refine od_ci (CMulW.of za (Bd.lit (n := 20) (by decide)) (by decide)) ?_
  walk_at "dz*"
  refine od_ci (CMulW.of zb (Bd.lit (n := 20) (by decide)) (by decide)) ?_
  walk_at "dz*"
  refine od_modF (by decide) fun x x0 x1 => ?_
  have zx : Bd 40 x := .of_range x0 x1 (.lit (by decide))
  walk_at "dz*"
  refine od_ci (CMulW.of zx zx (by decide)) ?_
  walk_at "dz*"
  refine od_ci (CMulW.of zb (Bd.lit (n := 20) (by decide)) (by decide)) ?_
  walk_at "dz*"
  refine od_divF (n := 20) (by decide) (.lit (by decide)) (by decide) fun u u0 u1 => ?_
  walk_at "dz*"
  refine od_modF (by decide) fun y y0 y1 => ?_
  have zy : Bd 40 y := .of_range y0 y1 (.lit (by decide))
  walk_at "dz*"
  refine od_ci (CMulW.of zy (Bd.lit (n := 20) (by decide)) (by decide)) ?_
  walk_at "dz*"
  refine od_divF (n := 20) (by decide) (.lit (by decide)) (by decide) fun u u0 u1 => ?_
  walk_at "dz*"
  refine od_modF (by decide) fun z z0 z1 => ?_
  walk_at "dz*"
  refine od_divF (n := 20) (by decide) (.lit (by decide)) (by decide) fun v v0 v1 => ?_
  exact ⟨v, rfl, (v0 z0).1⟩
theorem cell_at {cells : List Int} {i : Int} (h0 : 0 ≤ i) (h1 : i < (cells.length : Int)) : ∃ c, c ∈ cells ∧ atI (cells.map D.int) i = some (.int c) := by
  obtain ⟨jj, rfl⟩ := Int.eq_ofNat_of_zero_le h0
  have hj : jj < cells.length := by omega
  refine ⟨cells[jj], List.getElem_mem hj, ?_⟩
  refine atI_nat ?_
  rw [List.getElem?_map, List.getElem?_eq_getElem hj]; rfl
theorem ok_take (T : Txt K mg ad) (p : Addr) : FnOk Pg w K mg base (L2N.CX Pg w) 2 ad.f__law_take ad.fd__law_take ["_law_hand_here", "_law_many"] (spD (kp (kt K ad) p) (pmTake (kp (kt K ad) p))) := by
  have G__law_mixed := ok_mixed (Pg := Pg) (w := w) (base := base) T p
  refine fn_hand (K := kp (kt K ad) p) T.F__law_take sc__law_take (fun W ds h => by obtain ⟨a, b, rfl, _⟩ := Pm.l2 h; rfl) (fun W ds h => by obtain ⟨_, b, rfl, p, m, rfl, rfl, _, _, rfl⟩ := Pm.l2 h; exact ⟨p, _, rfl, rfl⟩) fun cdv A outer s E G H a es cells i r t hr hp ok => ?_
  obtain ⟨_, _, e1, p1, m, e2, rfl, m0, zm, _⟩ := Pm.l2 hp
  cases e2; cases e1
  refine ⟨_, (pss_cons (ps_if (pw_and (pt_cmpR (op_eqD (Ez.hu64 hr)) (pe_ix ix_seq (pv 0) pe_int (fun _ _ => rfl)) pe_int (nomark _)) (pw_and1 (pt_cmpR op_lt (pe_ix ix_seq (pv 0) pe_int (fun _ _ => rfl)) (pe_callB call_len_seq (by rfl) T.b_len (by decide +kernel) (pa_cons (pe_ix ix_seq (pv 0) pe_int (fun _ _ => rfl)) pa_nil)) (nomark _)))).pt (pss_cons (ps_set (i := 2) sc__law_take.nd rfl (by first | exact Or.inl rfl | exact Or.inr rfl) (pe_ix ix_seq (pe_ix ix_seq (pv 0) pe_int (fun _ _ => rfl)) (pe_ix ix_seq (pv 0) pe_int (fun _ _ => rfl)) (fun _ _ => rfl)))
      (pss_cons (ps_asg (pe_op op_add (pe_ix ix_seq (pv 0) pe_int (fun _ _ => rfl)) pe_int) (pg_sub (pv 0) pe_int set_list))
      (pss_cons (ps_if (pt_cmpR op_lt (pv 2) (pe_op op_pow pe_int pe_int) (nomark _)) (pss_one (ps_ret (pe_op op_mod (pe_callTy (T := "int") call_int1 (by rfl) T.b_int (by decide +kernel) (pa_cons (pe_call G__law_mixed (hr.mono (by first | decide | exact Nat.le_refl _)) (by rfl) T.m__law_mixed T.k__law_mixed T.b__law_mixed .nil passN (pa_cons (pe_op op_mod (pe_callTy (T := "int") call_int1 (by rfl) T.b_int (by decide +kernel) (pa_cons (pv 2) pa_nil)) pe_int) (pa_cons (pe_ix ix_seq (pv 0) pe_int (fun _ _ => rfl)) pa_nil))) pa_nil)) (pv 1)))) pss_nil)
      (pss_one (ps_asg (pv 2) (pg_sub (pv 0) pe_int set_list)))))) pss_nil)
      (pss_cons (ps_if (pt_cmpR op_gt (pe_ix ix_seq (pv 0) pe_int (fun _ _ => rfl)) pe_int (nomark _)) (pss_cons (ps_set (i := 3) sc__law_take.nd rfl (by first | exact Or.inl rfl | exact Or.inr rfl) (pe_ix ix_seq (pv 0) pe_int (fun _ _ => rfl)))
      (pss_cons (ps_asg (pe_op op_fdivW (pe_callTy (T := "int") call_int1 (by rfl) T.b_int (by decide +kernel) (pa_cons (pv 3) pa_nil)) (pv 1)) (pg_sub (pv 0) pe_int set_list))
      (pss_one (ps_ret (pe_op op_mod (pe_callTy (T := "int") call_int1 (by rfl) T.b_int (by decide +kernel) (pa_cons (pv 3) pa_nil)) (pv 1)))))) pss_nil)
      (pss_cons (ps_asg (pe_op op_mod (pe_callTy (T := "int") call_int1 (by rfl) T.b_int (by decide +kernel) (pa_cons (pe_op op_add (pe_ix ix_seq (pv 0) pe_int (fun _ _ => rfl)) pe_int) pa_nil)) pe_int) (pg_sub (pv 0) pe_int set_list))
      (pss_one (ps_ret (pe_op op_mod (pe_callTy (T := "int") call_int1 (by rfl) T.b_int (by decide +kernel) (pa_cons (pe_call G__law_mixed (hr.mono (by first | decide | exact Nat.le_refl _)) (by rfl) T.m__law_mixed T.k__law_mixed T.b__law_mixed .nil passN (pa_cons (pe_ix ix_seq (pv 0) pe_int (fun _ _ => rfl)) (pa_cons (pe_ix ix_seq (pv 0) pe_int (fun _ _ => rfl)) pa_nil))) pa_nil)) (pv 1))))))), ?_⟩
  have zi : ∀ x : Int, 0 ≤ x → x < 1000 → Bd 100 x := fun x h0 h1 => .of_range h0 h1 (.lit (by decide))
  walk_at "dz0"
  walk_at "dz*"
  · rename_i hi
    rw [List.length_map] at hi
    obtain ⟨c, hc, e⟩ := cell_at ok.i0 hi
    have c0 := ok.c0 c hc
    refine od_ixL e ?_
    walk_at "dz*"
    · refine od_modF (by decide) fun x x0 x1 => ?_
      walk_at "dz*"
      refine ⟨⟨x, i + 1, rfl, rfl, .of_range x0 x1 (.lit (by decide)), zi (i + 1) (by have := ok.i0; omega) (by have := ok.i1; have := ok.many; omega)⟩, ?_, fun _ _ _ h => h⟩
      rintro _ ⟨v, rfl, v0⟩
      walk_at "dz*"
      refine od_modF m0 fun y y0 y1 => ?_
      exact ⟨⟨cells, i + 1, r, t, rfl, ⟨ok.many, by have := ok.i0; omega, by omega, ok.r0, ok.t0, ok.t1, ok.c0⟩⟩, m, y, rfl, rfl, y0, y1⟩
    ·
      refine od_divF m0 zm (by decide) fun u u0 u1 => ?_
      walk_at "dz*"
      refine od_modF m0 fun y y0 y1 => ?_
      exact ⟨⟨cells, i + 1, u, t, rfl, ⟨ok.many, by have := ok.i0; omega, by have := ok.i1; omega, (u0 (by have := ok.r0; omega)).1, ok.t0, ok.t1, ok.c0⟩⟩, m, y, rfl, rfl, y0, y1⟩
    ·
      refine od_modF (by decide) fun u u0 u1 => ?_
      walk_at "dz*"
      refine ⟨⟨u, i + 1, rfl, rfl, .of_range u0 u1 (.lit (by decide)), zi (i + 1) (by have := ok.i0; omega) (by have := ok.i1; have := ok.many; omega)⟩, ?_, fun _ _ _ h => h⟩
      rintro _ ⟨v, rfl, v0⟩
      walk_at "dz*"
      refine od_modF m0 fun y y0 y1 => ?_
      exact ⟨⟨cells, i + 1, c, u, rfl, ⟨ok.many, by have := ok.i0; omega, by have := ok.i1; omega, by have := ok.r0; omega, u0, u1, ok.c0⟩⟩, m, y, rfl, rfl, y0, y1⟩
  ·
    refine od_divF m0 zm (by decide) fun u u0 u1 => ?_
    walk_at "dz*"
    refine od_modF m0 fun y y0 y1 => ?_
    exact ⟨⟨cells, i, u, t, rfl, ⟨ok.many, by have := ok.i0; omega, by have := ok.i1; omega, (u0 (by have := ok.r0; omega)).1, ok.t0, ok.t1, ok.c0⟩⟩, m, y, rfl, rfl, y0, y1⟩
  ·
    refine od_modF (by decide) fun u u0 u1 => ?_
    walk_at "dz*"
    refine ⟨⟨u, i, rfl, rfl, .of_range u0 u1 (.lit (by decide)), zi i (by have := ok.i0; omega) (by have := ok.i1; have := ok.many; omega)⟩, ?_, fun _ _ _ h => h⟩
    rintro _ ⟨v, rfl, v0⟩
    walk_at "dz*"
    refine od_modF m0 fun y y0 y1 => ?_
    exact ⟨⟨cells, i, r, u, rfl, ⟨ok.many, by have := ok.i0; omega, by have := ok.i1; omega, by have := ok.r0; omega, u0, u1, ok.c0⟩⟩, m, y, rfl, rfl, y0, y1⟩
  ·
    refine od_divF m0 zm (by decide) fun u u0 u1 => ?_
    walk_at "dz*"
    refine od_modF m0 fun y y0 y1 => ?_
    exact ⟨⟨cells, i, u, t, rfl, ⟨ok.many, by have := ok.i0; omega, by have := ok.i1; omega, (u0 (by have := ok.r0; omega)).1, ok.t0, ok.t1, ok.c0⟩⟩, m, y, rfl, rfl, y0, y1⟩
  ·
    refine od_modF (by decide) fun u u0 u1 => ?_
    walk_at "dz*"
    refine ⟨⟨u, i, rfl, rfl, .of_range u0 u1 (.lit (by decide)), zi i (by have := ok.i0; omega) (by have := ok.i1; have := ok.many; omega)⟩, ?_, fun _ _ _ h => h⟩
    rintro _ ⟨v, rfl, v0⟩
    walk_at "dz*"
    refine od_modF m0 fun y y0 y1 => ?_
    exact ⟨⟨cells, i, r, u, rfl, ⟨ok.many, by have := ok.i0; omega, by have := ok.i1; omega, by have := ok.r0; omega, u0, u1, ok.c0⟩⟩, m, y, rfl, rfl, y0, y1⟩

end
section
local macro_rules | `(tactic| walk_at "bd") => `(tactic| first
  | assumption
  | exact Bd.one
  | (apply Bd.neg; walk_at "bd")
  | (apply Bd.mul <;> walk_at "bd")
  | (apply Bd.add2 <;> walk_at "bd")
  | (apply Bd.sub2 <;> walk_at "bd")
  | (apply Bd.ediv; walk_at "bd")
  | exact Bd.lit (n := 20) (by decide))
local macro_rules | `(tactic| walk_at "dzm") => `(tactic| refine od_ci (CMulW.of (by walk_at "bd") (by walk_at "bd") (by decide)) ?_)
local macro_rules | `(tactic| walk_at "dzk") => `(tactic| first
  | exact kit_NoneType_bool
  | exact kit_NoneType_int
  | exact kit_NoneType_str
  | exact kit_NoneType_tuple
  | exact kit_NoneType_list
  | exact kit_bool_bool
  | exact kit_bool_int
  | exact kit_bool_str
  | exact kit_bool_tuple
  | exact kit_bool_list
  | exact kit_int_bool
  | exact kit_int_int
  | exact kit_int_str
  | exact kit_int_tuple
  | exact kit_int_list
  | exact kit_str_bool
  | exact kit_str_int
  | exact kit_str_str
  | exact kit_str_tuple
  | exact kit_str_list
  | exact kit_tuple_bool
  | exact kit_tuple_int
  | exact kit_tuple_str
  | exact kit_tuple_tuple
  | exact kit_tuple_list
  | exact kit_list_bool
  | exact kit_list_int
  | exact kit_list_str
  | exact kit_list_tuple
  | exact kit_list_list)
local macro_rules | `(tactic| walk_at "dz!") => `(tactic| first
  | rfl | assumption | decide | (simp only [List.length_cons, List.length_nil, List.length_set]; omega) | (simp; done))
local macro_rules | `(tactic| walk_at "dz") => `(tactic| first
  | with_reducible refine ws_seq ?_
  | with_reducible refine ws_next ?_
  | with_reducible refine ws_ret ?_
  | with_reducible refine ws_retN ?_
  | with_reducible refine ws_if ?_
  | with_reducible refine ws_setO rfl ?_
  | with_reducible refine ws_asg ?_
  | ((with_reducible refine ws_own ?_ ?_); (focus walk_at "dz!"))
  | with_reducible refine wf_lst ?_
  | with_reducible refine ws_app rfl ?_
  | with_reducible refine wp_slL ?_
  | with_reducible refine wo_none ?_
  | with_reducible refine wo_some ?_
  | with_reducible refine cb_lenS ?_
  | with_reducible refine ws_par ?_
  | ((with_reducible refine wg_name ?_ ?_); (focus walk_at "dz!"))
  | with_reducible refine wg_tup (by with_unfolding_all rfl) ?_
  | with_reducible refine wg_lst (by with_unfolding_all rfl) ?_
  | with_reducible refine wg_cons ?_
  | with_reducible refine wg_nil ?_
  | (with_reducible refine wp_var rfl ?_)
  | with_reducible refine wp_int ?_
  | with_reducible refine wp_bl ?_
  | with_reducible refine wp_str ?_
  | with_reducible refine wp_non ?_
  | with_reducible refine wp_ref (by assumption) ?_
  | with_reducible refine wp_ty ?_
  | with_reducible refine wp_ixO rfl ?_
  | with_reducible refine wp_op ?_
  | with_reducible refine wp_un ?_
  | with_reducible refine wp_andV ?_
  | with_reducible refine wp_orV ?_
  | with_reducible refine wp_notV ?_
  | with_reducible refine wp_notT ?_
  | with_reducible refine wp_isN ?_
  | with_reducible refine wp_notN ?_
  | with_reducible refine wp_nil ?_
  | with_reducible refine wp_cons ?_
  | with_reducible refine wp_tup ?_
  | with_reducible refine wp_lst ?_
  | ((with_reducible refine wp_isi2 ?_); dsimp only)
  | with_reducible refine wp_lenO rfl ?_
  | with_reducible refine wp_tupO rfl ?_
  | with_reducible refine wp_cb ?_
  | ((with_reducible refine wp_call0 rfl ?_); dsimp only [List.map, dOf, List.nil_append, List.cons_append, List.append_nil])
  | with_reducible refine wp_chain ?_
  | with_reducible refine wt_test ?_
  | with_reducible refine wt_B ?_
  | with_reducible refine wt_and ?_
  | with_reducible refine wt_or ?_
  | with_reducible refine wt_not ?_
  | with_reducible refine wt_tru ?_
  | with_reducible refine wt_yes ?_
  | with_reducible refine od_i ?_
  | with_reducible refine od_b ?_
  | with_reducible refine od_ixT (by first | with_unfolding_all rfl | exact atI_cons0) ?_
  | with_reducible refine od_ixL (by first | with_unfolding_all rfl | exact atI_cons0) ?_
  | with_reducible refine od_eqI ?_
  | with_reducible refine od_neI ?_
  | with_reducible refine od_eq_same (by with_unfolding_all rfl) ?_
  | with_reducible refine od_ne_same (by with_unfolding_all rfl) ?_
  | with_reducible refine od_eq (by with_unfolding_all rfl) (by with_unfolding_all rfl) ?_
  | with_reducible refine od_ne (by with_unfolding_all rfl) (by with_unfolding_all rfl) ?_
  | with_reducible refine od_bb ?_
  | with_reducible refine ud_neg ?_
  | with_reducible refine cb_lenT ?_
  | with_reducible refine cb_lenL ?_
  | with_reducible refine cb_abs ?_
  | with_reducible refine cb_int ?_
  | with_reducible refine cb_gcd ?_
  | with_reducible refine cb_min ?_
  | with_reducible refine cb_max ?_
  | with_reducible refine cb_listT ?_
  | with_reducible refine cb_listL ?_
  | with_reducible refine cb_tupT ?_
  | with_reducible refine cb_tupL ?_
  | with_reducible refine cb_isi (by with_unfolding_all rfl) (by walk_at "dzk") ?_
  | with_reducible refine ⟨_, _, _, (by with_unfolding_all rfl), (by walk_at "dzk"), (by walk_at "dzk"), ?_⟩
  | with_reducible refine ix_of (by with_unfolding_all rfl) ?_
  | with_reducible refine st_of (by with_unfolding_all rfl) ?_
  | with_reducible refine od_pow (by decide) ?_
  | with_reducible refine Exists.intro _ (And.intro rfl ?_))
local macro_rules | `(tactic| walk_at "dz0") => `(tactic| dsimp only [cxOf, Cx.tr, Cx.suite, Cx.nox, Cx.blk, Pm.fn, slots, List.map, List.length, List.replicate, Nat.reduceAdd, Nat.reduceSub, List.cons_append, List.nil_append, List.append_nil, dOf])
local macro_rules | `(tactic| walk_at "dzb") => `(tactic| first
  | with_reducible refine br_t ?_
  | with_reducible refine br_f ?_
  | with_reducible refine br_t2 ?_
  | with_reducible refine br_f2 ?_
  | (with_reducible refine br_d ?_ ?_ <;> intro _)
  | (with_reducible refine br_d2 ?_ ?_ <;> intro _)
  | (with_reducible refine br_nd ?_ ?_ <;> intro h <;> first | with_reducible exact absurd rfl h | skip)
  | (with_reducible refine br_nd2 ?_ ?_ <;> intro h <;> first | with_reducible exact absurd rfl h | skip)
  | refine br_t ?_
  | refine br_f ?_
  | refine br_t2 ?_
  | refine br_f2 ?_
  | (with_reducible refine br_b ?_ ?_ <;> intro _)
  | (with_reducible refine br_b2 ?_ ?_ <;> intro _))
local macro_rules | `(tactic| walk_at "dz-") => `(tactic| repeat' (first
  | walk_at "dz"
  | walk_at "dzb"
  | ((refine And.intro ?_ ?_); (focus (show _ ≤ 10000; first | decide | (simp; done) | (simp; omega))))
  | dsimp only))
local macro_rules | `(tactic| walk_at "dz*") => `(tactic| repeat' (first
  | walk_at "dz"
  | with_reducible refine wp_if ?_
  | walk_at "dzb"
  | ((refine And.intro ?_ ?_); (focus (show _ ≤ 10000; first | decide | (simp; done) | (simp; omega))))
  | dsimp only))

variable {Pg : Program} {w : World} {K : PySem.W.Frag} {mg : Str → Option Value} {base : Heap} {ad : Ad}
theorem ok_new (T : Txt K mg ad) : FnOk Pg w K mg base (L2N.CX Pg w) 1 ad.f__law_hand ad.fd__law_hand ["_law_script"] (spNew (kp (kt K ad) 0)) := by
  refine fn_new (K := kp (kt K ad) 0) T.F__law_hand sc__law_hand rfl fun cdv A outer s E G H ns hr hz => ?_
  refine ⟨_, (pss_cons (ps_set (i := 1) sc__law_hand.nd rfl (by first | exact Or.inl rfl | exact Or.inr rfl) (pe_op op_add (pe_op op_mulW pe_int (pe_callB call_len_seq (by rfl) T.b_len (by decide +kernel) (pa_cons (pv 0) pa_nil))) pe_int))
      (pss_cons (Ez.ps_own (ps_set (i := 2) sc__law_hand.nd rfl (by first | exact Or.inl rfl | exact Or.inr rfl) (pe_lst pa_nil)))
      (pss_cons (ps_for (by passes_own) rfl (pi_list (pv 0)) (pg_name (i := 3) sc__law_hand.nd rfl (by first | exact Or.inl rfl | exact Or.inr rfl)) (pss_cons (ps_set (i := 1) sc__law_hand.nd rfl (by first | exact Or.inl rfl | exact Or.inr rfl) (pe_op op_mod (pe_callTy (T := "int") call_int1 (by rfl) T.b_int (by decide +kernel) (pa_cons (pe_op op_add (pe_op op_mulW (pv 1) pe_int) (pe_callTy (T := "int") call_int1 (by rfl) T.b_int (by decide +kernel) (pa_cons (pv 3) pa_nil))) pa_nil)) pe_int))
      (pss_one (ps_expr (pe_bm PySem.F.plainAttrs_list PySem.F.slot_list_append PySem.F.type_list_append mt_append (pv 2) (pa_cons (pe_callB call_abs (by rfl) T.b_abs (by decide +kernel) (pa_cons (pe_callTy (T := "int") call_int1 (by rfl) T.b_int (by decide +kernel) (pa_cons (pv 3) pa_nil)) pa_nil)) pa_nil))))))
      (pss_one (Ez.ps_retF (ps_ret (pe_lst (pa_cons (pv 2) (pa_cons pe_int (pa_cons pe_int (pa_cons (pv 1) pa_nil))))))))))), ?_⟩
  have hl : (ns.map D.int).length = ns.length := List.length_map ..
  have zl : Bd 20 ((ns.map D.int).length : Int) := Bd.le (j := 100) (.lit (by decide)) (by omega)
  walk_at "dz0"
  walk_at "dz-"
  walk_at "dzm"
  walk_at "dz-"
  intro a
  walk_at "dz-"
  refine ws_forS ?_
  walk_at "dz-"
  refine ⟨fun i q => ∃ t cs z, q = [.dat (.scr (ns.map D.int)), .dat (.int t), .own a (cs.map D.int), z] ∧ 0 ≤ t ∧ t < 2147483549 ∧ cs.length = i ∧ ∀ x ∈ cs, (0 : Int) ≤ x, ⟨_, [], _, rfl, by omega, by omega, rfl, by simp⟩, ?_, ?_⟩
  · rintro i x _ hi ⟨t, cs, z, rfl, t0, t1, hc, h0⟩
    have zt : Bd 40 t := .of_range t0 t1 (.lit (by decide))
    obtain ⟨n, hn, rfl⟩ : ∃ n, ns[i]? = some n ∧ x = .int n := by
      rw [List.getElem?_map] at hi
      cases e : ns[i]? with
      | none => rw [e] at hi; cases hi
      | some n => rw [e] at hi; cases hi; exact ⟨n, rfl, rfl⟩
    have ilt := (List.getElem?_eq_some_iff.mp hn).1
    walk_at "dz-"
    walk_at "dzm"
    walk_at "dz-"
    refine od_modF (by decide) fun u u0 u1 => ?_
    walk_at "dz-"
    refine ⟨u, cs ++ [if n < 0 then -n else n], .dat (.int n), ?_, u0, u1, by rw [List.length_append, hc]; rfl, ?_⟩
    · rw [List.map_append]; rfl
    · intro x hx
      rcases List.mem_append.mp hx with hy | hx
      · exact h0 x hy
      · cases List.mem_singleton.mp hx
        split <;> omega
  · rintro _ ⟨t, cs, z, rfl, t0, t1, hc, h0⟩
    walk_at "dz-"
    refine ws_keep (i := 2) rfl ?_
    refine ws_retO 1 (by simp) ?_
    walk_at "dz-"
    refine fun a => ⟨1, a, cs, t, rfl, rfl, ⟨by omega, by decide, by omega, by decide, t0, t1, h0⟩⟩


theorem g_take (T : Txt K mg ad) (k : Nat) (hk : 2 ≤ k) : FnG Pg w K mg base k ad.f__law_take ad.fd__law_take ["_law_hand_here", "_law_many"] (spTake (kt K ad)) := FnG.ex (K := kp (kt K ad) 0) fun p => FnG.mono (K := kp (kt K ad) 0) (FnG.of (K := kp (kt K ad) 0) (ok_take T p)) hk
theorem g_hand (T : Txt K mg ad) (k : Nat) (hk : 1 ≤ k) : FnG Pg w K mg base k ad.f__law_hand ad.fd__law_hand ["_law_script"] (spNew (kp (kt K ad) 0)) := FnG.mono (K := kp (kt K ad) 0) (FnG.of (K := kp (kt K ad) 0) (ok_new T)) hk

end
end K04

set_option Elab.async false
set_option linter.all false
set_option maxRecDepth 100000
set_option maxHeartbeats 3999999

namespace K04
open L2 PySem PyProof.Rows PySem.Spec Ez
variable {Pg : Program} {w : World} {K : PySem.W.Frag} {mg : Str → Option Value} {base : Heap} {ad : Ad}
theorem any_of (T : Txt K mg ad) {n : Nat} (G_back_of : FnG Pg w K mg base (n + 2) ad.f_back_of ad.fd_back_of ["face", "direction"] (spR (kt K ad) tx n 14)) (G_check_direction : FnG Pg w K mg base (n + 2) ad.f_check_direction ad.fd_check_direction ["face", "direction"] (spR (kt K ad) tx n 7)) (G_directions_on : FnG Pg w K mg base (n + 2) ad.f_directions_on ad.fd_directions_on ["face", "slope"] (spR (kt K ad) tx n 10)) (G_left_of : FnG Pg w K mg base (n + 2) ad.f_left_of ad.fd_left_of ["face", "direction"] (spR (kt K ad) tx n 15)) (G_slope_of : FnG Pg w K mg base (n + 2) ad.f_slope_of ad.fd_slope_of ["face", "direction"] (spR (kt K ad) tx n 11)) : ∀ f, tx.ok f = true → ∃ (fd : FuncData) (ps : List Str), FnG Pg w K mg base (n + 2) ((kt K ad).fn f) fd ps (spR (kt K ad) tx n f) ∧ PySem.W.keepIn K (.ref ((kt K ad).fn f)) = true ∧ Binds K fd ps [] := by
  intro f h
  have z : f ∈ [14, 7, 10, 15, 11] := by simpa [tx] using h
  simp only [List.mem_cons, List.not_mem_nil, or_false] at z
  rcases z with rfl | rfl | rfl | rfl | rfl
  · exact ⟨_, _, G_back_of, T.k_back_of, T.b_back_of⟩
  · exact ⟨_, _, G_check_direction, T.k_check_direction, T.b_check_direction⟩
  · exact ⟨_, _, G_directions_on, T.k_directions_on, T.b_directions_on⟩
  · exact ⟨_, _, G_left_of, T.k_left_of, T.b_left_of⟩
  · exact ⟨_, _, G_slope_of, T.k_slope_of, T.b_slope_of⟩
theorem all_ok (T : Txt K mg ad) : ∀ n, AllOk Pg w K mg base ad n
  | 0 => ⟨g_take T _ (by omega), fn_run0 (B := kt K ad), fn_run0 (B := kt K ad), fn_run0 (B := kt K ad), fn_run0 (B := kt K ad), fn_run0 (B := kt K ad), fn_run0 (B := kt K ad), fn_run0 (B := kt K ad), fn_run0 (B := kt K ad), fn_run0 (B := kt K ad), fn_run0 (B := kt K ad), fn_run0 (B := kt K ad), fn_run0 (B := kt K ad), fn_run0 (B := kt K ad), fn_run0 (B := kt K ad), fn_run0 (B := kt K ad), fn_run0 (B := kt K ad), fn_run0 (B := kt K ad), fn_run0 (B := kt K ad), fn_run0 (B := kt K ad), fn_run0 (B := kt K ad), fn_run0 (B := kt K ad), fn_run0 (B := kt K ad), fn_run0 (B := kt K ad), fn_run0 (B := kt K ad), fn_run0 (B := kt K ad), fn_run0 (B := kt K ad), fn_run0 (B := kt K ad), fn_run0 (B := kt K ad), fn_run0 (B := kt K ad), fn_run0 (B := kt K ad), fn_run0 (B := kt K ad), fn_run0 (B := kt K ad), fn_run0 (B := kt K ad), fn_run0 (B := kt K ad), fn_run0 (B := kt K ad), fn_run0 (B := kt K ad), fn_run0 (B := kt K ad), fn_run0 (B := kt K ad), any_of T (fn_run0 (B := kt K ad)) (fn_run0 (B := kt K ad)) (fn_run0 (B := kt K ad)) (fn_run0 (B := kt K ad)) (fn_run0 (B := kt K ad))⟩
  | n + 1 => by
    have I := all_ok T n
    have G_is_whole := ok_is_whole T I
    have G_is_sequence := ok_is_sequence T I
    have G_check_face := ok_check_face T I
    have G_face_axes := ok_face_axes T I
    have G_framed := ok_framed T I
    have G_check_slope := ok_check_slope T I
    have G_mirrored_slope := ok_mirrored_slope T I
    have G_check_direction := ok_check_direction T I
    have G_unframed := ok_unframed T I
    have G_quarter_turns := ok_quarter_turns T I
    have G_directions_on := ok_directions_on T I
    have G_slope_of := ok_slope_of T I
    have G_slope_on := ok_slope_on T I
    have G_reversed_direction := ok_reversed_direction T I
    have G_back_of := ok_back_of T I
    have G_left_of := ok_left_of T I
    have G_outward_step := ok_outward_step T I
    have G__law_common := ok__law_common T I
    have G__law_axes := ok__law_axes T I
    have G__law_steps := ok__law_steps T I
    have G__law_four := ok__law_four T I
    have G__law_out := ok__law_out T I
    have G__law_tuples := ok__law_tuples T I
    have G__law_odd := ok__law_odd T I
    have G__law_rid := ok__law_rid T I
    have G__law_whole := ok__law_whole T I
    have G__law_shaped := ok__law_shaped T I
    have G__law_plain := ok__law_plain T I
    have G__law_like := ok__law_like T I
    have G__law_slope_of := ok__law_slope_of T I
    have G__law_mirror := ok__law_mirror T I
    have G__law_deed := ok__law_deed T I
    have G__law_is_slope := ok__law_is_slope T I
    have G__law_slopes := ok__law_slopes T I
    have G__law_word := ok__law_word T I
    have G__law_drawn := ok__law_drawn T I
    have G__law_spoilt := ok__law_spoilt T I
    have G__law_faceless := ok__law_faceless T I
    exact ⟨g_take T _ (by omega), G_is_whole, G_is_sequence, G_check_face, G_face_axes, G_framed, G_check_slope, G_mirrored_slope, G_check_direction, G_unframed, G_quarter_turns, G_directions_on, G_slope_of, G_slope_on, G_reversed_direction, G_back_of, G_left_of, G_outward_step, G__law_common, G__law_axes, G__law_steps, G__law_four, G__law_out, G__law_tuples, G__law_odd, G__law_rid, G__law_whole, G__law_shaped, G__law_plain, G__law_like, G__law_slope_of, G__law_mirror, G__law_deed, G__law_is_slope, G__law_slopes, G__law_word, G__law_drawn, G__law_spoilt, G__law_faceless, any_of T G_back_of G_check_direction G_directions_on G_left_of G_slope_of⟩
def Math (n : Nat) : Prop := Tr.All True (fun fl => match fl with | .rt d _ => d = .bl true | _ => False) (fun _ => False) (evalS (tx.pgm n) b_law none (.unk :: .dat .hand :: List.replicate (16 - 2) .unk))
theorem ok_law (T : Txt K mg ad) {n : Nat} (I : AllOk Pg w K mg base ad n) (law : Math n) : FnG Pg w K mg base (n + 3) ad.f_law ad.fd_law ["_law_script"] (spLaw (kp (kt K ad) 0)) := by
  refine fn_lawR (txok T) (n := n) (body := b_law) T.F_law sc_law rfl (by decide) (E0' := Snk.no.at) (m := 16) rfl (fun cdv A outer s H E gs hr => ?_) law
  refine of_ex ⟨_, (pss_cons (ps_set (i := 1) sc_law.nd rfl (by first | exact Or.inl rfl | exact Or.inr rfl) (pe_callGS (E := Snk.no.at) (g_hand T (n + 2) (by omega)) hr gs (by rfl) T.m__law_hand T.k__law_hand T.b__law_hand .nil px_no (pa_cons (pv 0) pa_nil))) (pss_cons (ps_if (pw_or (pt_not (pt_val (pe_callGS (E := (Snk.out E).at) I._law_slopes hr gs (by rfl) T.m__law_slopes T.k__law_slopes T.b__law_slopes .nil (px_out (L2N.takes_of rfl rfl rfl rfl)) (pa_cons (pv 1) pa_nil)))) (pw_or1 (pt_not (pt_val (pe_callGS (E := (Snk.out E).at) I._law_faceless hr gs (by rfl) T.m__law_faceless T.k__law_faceless T.b__law_faceless .nil (px_out (L2N.takes_of rfl rfl rfl rfl)) (pa_cons (pv 1) pa_nil)))))).pt (pss_one (ps_ret pe_bl)) pss_nil)
      (pss_cons (ps_set (i := 2) sc_law.nd rfl (by first | exact Or.inl rfl | exact Or.inr rfl) (pe_callG I.take (hr.mono (by omega)) gs (by rfl) T.m__law_take T.k__law_take T.b__law_take .nil passN (pa_cons (pv 1) (pa_cons pe_int pa_nil))))
      (pss_cons (ps_set (i := 3) sc_law.nd rfl (by first | exact Or.inl rfl | exact Or.inr rfl) (pe_callGS (E := (Snk.out E).at) I._law_drawn hr gs (by rfl) T.m__law_drawn T.k__law_drawn T.b__law_drawn .nil (px_out (L2N.takes_of rfl rfl rfl rfl)) (pa_cons (pv 1) (pa_cons (pv 2) pa_nil))))
      (pss_cons (ps_set (i := 4) sc_law.nd rfl (by first | exact Or.inl rfl | exact Or.inr rfl) (pe_callGS (E := (Snk.out E).at) I._law_axes hr gs (by rfl) T.m__law_axes T.k__law_axes T.b__law_axes .nil (px_out (L2N.takes_of rfl rfl rfl rfl)) (pa_cons (pv 2) pa_nil)))
      (pss_cons (ps_set (i := 5) sc_law.nd rfl (by first | exact Or.inl rfl | exact Or.inr rfl) (pe_ix (ix_seqK (K := (kt K ad).K) rfl) (pv 3) (pe_ix (ix_seqK (K := (kt K ad).K) rfl) (pv 4) pe_int (fun _ _ => rfl)) (fun _ _ => rfl)))
      (pss_cons (ps_set (i := 6) sc_law.nd rfl (by first | exact Or.inl rfl | exact Or.inr rfl) (pe_ix (ix_seqK (K := (kt K ad).K) rfl) (pv 3) (pe_ix (ix_seqK (K := (kt K ad).K) rfl) (pv 4) pe_int (fun _ _ => rfl)) (fun _ _ => rfl)))
      (pss_cons (ps_if (pw_or (pt_cmpR (op_neK (K := (kt K ad).K) rfl (Ez.hu64 hr)) (pe_callGS (E := (Snk.out E).at) I.check_direction hr gs (by rfl) T.m_check_direction T.k_check_direction T.b_check_direction .nil (px_out (L2N.takes_of rfl rfl rfl rfl)) (pa_cons (pv 2) (pa_cons (pe_callTy (T := "list") (call_listK (K := (kt K ad).K) rfl) (by rfl) T.b_list (by decide +kernel) (pa_cons (pv 3) pa_nil)) pa_nil))) (pv 3) (nomark _)) (pw_or1 (pt_cmpR (op_neK (K := (kt K ad).K) rfl (Ez.hu64 hr)) (pe_callGS (E := (Snk.out E).at) I.unframed hr gs (by rfl) T.m_unframed T.k_unframed T.b_unframed .nil (px_out (L2N.takes_of rfl rfl rfl rfl)) (pa_cons (pv 2) (pa_cons (pv 5) (pa_cons (pv 6) pa_nil)))) (pv 3) (nomark _)))).pt (pss_one (ps_ret pe_bl)) pss_nil)
      (pss_cons (ps_if (pw_or (pt_cmpR (op_neK (K := (kt K ad).K) rfl (Ez.hu64 hr)) (pe_callGS (E := (Snk.out E).at) I.back_of hr gs (by rfl) T.m_back_of T.k_back_of T.b_back_of .nil (px_out (L2N.takes_of rfl rfl rfl rfl)) (pa_cons (pv 2) (pa_cons (pv 3) pa_nil))) (pe_callTy (T := "tuple") (call_tupK (K := (kt K ad).K) rfl) (by rfl) T.b_tuple (by decide +kernel) (pa_cons (pe_lc (own := [("_law_step", 7)]) (by rfl) sc_law.nd (pi_seqK (K := (kt K ad).K) rfl (pv 3)) (blkOk_by (N := ["_law_script", "_law_hand_here", "_law_face", "_law_steps_here", "_law_axes_here", "_law_first", "_law_second", "_law_step", "_law_turns", "_law_due", "_law_turn", "_law_beside", "_law_other", "_law_word_here", "_law_deed_here", "_law_found"]) (sc := defScope s_law) (own := [("_law_step", 7)]) (by decide +kernel)) (fun _ _ _ _ _ => (pg_name (i := 7) sc_law.nd rfl (by first | exact Or.inl rfl | exact Or.inr rfl))) (fun _ _ _ _ _ => pts_nil) (fun _ _ _ _ _ => (pe_un un_neg (pv 7)))) pa_nil)) (nomark _)) (pw_or1 (pt_cmpR (op_neK (K := (kt K ad).K) rfl (Ez.hu64 hr)) (pe_callGS (E := (Snk.out E).at) I.left_of hr gs (by rfl) T.m_left_of T.k_left_of T.b_left_of .nil (px_out (L2N.takes_of rfl rfl rfl rfl)) (pa_cons (pv 2) (pa_cons (pe_callTy (T := "list") (call_listK (K := (kt K ad).K) rfl) (by rfl) T.b_list (by decide +kernel) (pa_cons (pv 3) pa_nil)) pa_nil))) (pe_callGS (E := (Snk.out E).at) I._law_steps hr gs (by rfl) T.m__law_steps T.k__law_steps T.b__law_steps .nil (px_out (L2N.takes_of rfl rfl rfl rfl)) (pa_cons (pv 2) (pa_cons (pe_un un_neg (pv 6)) (pa_cons (pv 5) pa_nil)))) (nomark _)))).pt (pss_one (ps_ret pe_bl)) pss_nil)
      (pss_cons (ps_set (i := 8) sc_law.nd rfl (by first | exact Or.inl rfl | exact Or.inr rfl) (pe_lst (pa_cons (pe_tup (pa_cons (pv 5) (pa_cons (pv 6) pa_nil))) (pa_cons (pe_tup (pa_cons (pe_un un_neg (pv 6)) (pa_cons (pv 5) pa_nil))) (pa_cons (pe_tup (pa_cons (pe_un un_neg (pv 5)) (pa_cons (pe_un un_neg (pv 6)) pa_nil))) (pa_cons (pe_tup (pa_cons (pv 6) (pa_cons (pe_un un_neg (pv 5)) pa_nil))) pa_nil))))))
      (pss_cons (ps_setLc (i := 9) (own := [("_law_turn", 10)]) (by rfl) sc_law.nd rfl rfl (sw_true rfl rfl rfl (by decide +kernel)) (pi_seqK (K := (kt K ad).K) rfl (pv 8)) (blkOk_by (N := ["_law_script", "_law_hand_here", "_law_face", "_law_steps_here", "_law_axes_here", "_law_first", "_law_second", "_law_step", "_law_turns", "_law_due", "_law_turn", "_law_beside", "_law_other", "_law_word_here", "_law_deed_here", "_law_found"]) (sc := defScope s_law) (own := [("_law_turn", 10)]) (by decide +kernel)) (fun _ _ _ _ _ => (pg_name (i := 10) sc_law.nd rfl (by first | exact Or.inl rfl | exact Or.inr rfl))) (fun _ _ _ _ _ => pts_one (pw_and (pt_cmpR op_ge (pe_ix (ix_seqK (K := (kt K ad).K) rfl) (pv 10) pe_int (fun _ _ => rfl)) pe_int (nomark _)) (pw_and1 (pt_cmpR op_ge (pe_ix (ix_seqK (K := (kt K ad).K) rfl) (pv 10) pe_int (fun _ _ => rfl)) pe_int (nomark _)))).pt) (fun _ _ _ _ _ => (pv 10)))
      (pss_cons (ps_if (pw_or (pt_cmpR (op_neK (K := (kt K ad).K) rfl (Ez.hu64 hr)) (pe_callB (call_lenK (K := (kt K ad).K) rfl) (by rfl) T.b_len (by decide +kernel) (pa_cons (pv 9) pa_nil)) pe_int (nomark _)) (pw_or (pt_cmpR (op_neK (K := (kt K ad).K) rfl (Ez.hu64 hr)) (pe_callGS (E := (Snk.out E).at) I.slope_of hr gs (by rfl) T.m_slope_of T.k_slope_of T.b_slope_of .nil (px_out (L2N.takes_of rfl rfl rfl rfl)) (pa_cons (pv 2) (pa_cons (pv 3) pa_nil))) (pe_ix (ix_seqK (K := (kt K ad).K) rfl) (pv 9) pe_int (fun _ _ => rfl)) (nomark _)) (pw_or1 (pt_not (pt_val (pe_callGS (E := (Snk.out E).at) I._law_tuples hr gs (by rfl) T.m__law_tuples T.k__law_tuples T.b__law_tuples .nil (px_out (L2N.takes_of rfl rfl rfl rfl)) (pa_cons (pe_callGS (E := (Snk.out E).at) I.slope_of hr gs (by rfl) T.m_slope_of T.k_slope_of T.b_slope_of .nil (px_out (L2N.takes_of rfl rfl rfl rfl)) (pa_cons (pv 2) (pa_cons (pv 3) pa_nil))) pa_nil))))))).pt (pss_one (ps_ret pe_bl)) pss_nil)
      (pss_cons (ps_set (i := 11) sc_law.nd rfl (by first | exact Or.inl rfl | exact Or.inr rfl) (pe_callG I.take (hr.mono (by omega)) gs (by rfl) T.m__law_take T.k__law_take T.b__law_take .nil passN (pa_cons (pv 1) (pa_cons pe_int pa_nil))))
      (pss_cons (ps_if (pt_cmpR (op_neK (K := (kt K ad).K) rfl (Ez.hu64 hr)) (pe_callGS (E := (Snk.out E).at) I.outward_step hr gs (by rfl) T.m_outward_step T.k_outward_step T.b_outward_step .nil (px_out (L2N.takes_of rfl rfl rfl rfl)) (pa_cons (pv 11) (pa_cons (pv 3) pa_nil))) (pe_callGS (E := (Snk.out E).at) I._law_out hr gs (by rfl) T.m__law_out T.k__law_out T.b__law_out .nil (px_out (L2N.takes_of rfl rfl rfl rfl)) (pa_cons (pv 11) (pa_cons (pv 3) pa_nil))) (nomark _)) (pss_one (ps_ret pe_bl)) pss_nil)
      (pss_cons (ps_set (i := 12) sc_law.nd rfl (by first | exact Or.inl rfl | exact Or.inr rfl) (pe_callGS (E := (Snk.out E).at) I._law_spoilt hr gs (by rfl) T.m__law_spoilt T.k__law_spoilt T.b__law_spoilt .nil (px_out (L2N.takes_of rfl rfl rfl rfl)) (pa_cons (pv 1) (pa_cons (pv 2) (pa_cons (pv 3) pa_nil)))))
      (pss_cons (ps_set (i := 13) sc_law.nd rfl (by first | exact Or.inl rfl | exact Or.inr rfl) (pe_callGS (E := (Snk.out E).at) I._law_word hr gs (by rfl) T.m__law_word T.k__law_word T.b__law_word .nil (px_out (L2N.takes_of rfl rfl rfl rfl)) (pa_cons (pv 2) (pa_cons (pv 12) pa_nil))))
      (pss_cons (ps_for (by passes_own) rfl (pi_seqK (K := (kt K ad).K) rfl (pe_lst (pa_cons (pe_glob (v := .ref ad.f_check_direction) (by rfl) T.m_check_direction rfl) (pa_cons (pe_glob (v := .ref ad.f_slope_of) (by rfl) T.m_slope_of rfl) (pa_cons (pe_glob (v := .ref ad.f_left_of) (by rfl) T.m_left_of rfl) (pa_cons (pe_glob (v := .ref ad.f_back_of) (by rfl) T.m_back_of rfl) pa_nil)))))) (pg_name (i := 14) sc_law.nd rfl (by first | exact Or.inl rfl | exact Or.inr rfl)) (pss_cons (ps_set (i := 15) sc_law.nd rfl (by first | exact Or.inl rfl | exact Or.inr rfl) (pe_callGS (E := (Snk.out E).at) I._law_deed hr gs (by rfl) T.m__law_deed T.k__law_deed T.b__law_deed .nil (px_out (L2N.takes_of rfl rfl rfl rfl)) (pa_cons (pv 14) (pa_cons (pv 2) (pa_cons (pv 12) pa_nil)))))
      (pss_cons (ps_if (pw_and (pt_cmp (pc_notN (pv 13))) (pw_and1 (pt_cmpR (op_neK (K := (kt K ad).K) rfl (Ez.hu64 hr)) (pv 15) (pe_lst (pa_cons pe_str (pa_cons (pv 13) pa_nil))) (nomark _)))).pt (pss_one (ps_ret pe_bl)) pss_nil)
      (pss_cons (ps_if (pw_and (pt_cmp (pc_isN (pv 13))) (pw_and1 (pt_val (pe_callB (call_isiK (K := (kt K ad).K) rfl) (by rfl) T.b_isinstance (by decide +kernel) (pa_cons (pv 15) (pa_cons (pe_bltn (v := .ty "list") (by rfl) T.b_list (by decide +kernel) rfl) pa_nil)))))).pt (pss_one (ps_ret pe_bl)) pss_nil)
      (pss_one (ps_if (pt_not (pt_val (pe_callGS (E := (Snk.out E).at) I._law_like hr gs (by rfl) T.m__law_like T.k__law_like T.b__law_like .nil (px_out (L2N.takes_of rfl rfl rfl rfl)) (pa_cons (pe_callGS (E := (Snk.out E).at) I._law_deed hr gs (by rfl) T.m__law_deed T.k__law_deed T.b__law_deed .nil (px_out (L2N.takes_of rfl rfl rfl rfl)) (pa_cons (pv 14) (pa_cons (pe_op (op_addK (K := (kt K ad).K) rfl) (pv 11) pe_int) (pa_cons (pv 12) pa_nil)))) (pa_cons (pe_lst (pa_cons pe_str (pa_cons (pe_op (op_addK (K := (kt K ad).K) rfl) (pv 11) pe_int) pa_nil))) pa_nil))))) (pss_one (ps_ret pe_bl)) pss_nil))))))
      (pss_one (ps_ret pe_bl))))))))))))))))))), ?_⟩
  refine congrArg (tSeq _) ?_
  show _ = (denS (dn (kt K ad) tx (con ad) n E) b_law).ts
  unfold b_law
  simp only [denS, den, denGp, denI, denB, den2, Dn.of, Dn.wt, cond] <;> rfl
end K04

set_option Elab.async false
set_option maxRecDepth 100000
set_option maxHeartbeats 4000000
set_option linter.all false
namespace K04
open PySem Ez Tr
local macro_rules | `(tactic| walk_at "ev") => `(tactic| simp [↓bind_T, ↓bindT_ret, ↓bindT_exn, ↓bindT_bad, ↓bindT_draw, ↓mapX_ret, ↓mapX_exn, ↓mapX_bad, ↓mapX_draw, ↓noX_ret, ↓noX_exn, ↓noX_bad, ↓noX_draw, ↓catch_T, ↓catT_ret, ↓catT_exn, ↓catT_bad, ↓catT_draw, ↓E_var, ↓ev_var, ↓E_lit, ↓ev_lit, ↓E_con, ↓ev_con, ↓E_fnv, ↓ev_fnv, ↓E_clv, ↓ev_clv, ↓E_op, ↓ev_op, ↓E_neg, ↓ev_neg, ↓E_and, ↓ev_and, ↓E_or, ↓ev_or, ↓E_not, ↓ev_not, ↓E_notT, ↓ev_notT, ↓E_isN, ↓ev_isN, ↓E_notN, ↓ev_notN, ↓E_tru, ↓ev_tru, ↓E_chain, ↓ev_chain, ↓E_ifx, ↓ev_ifx, ↓E_nil, ↓ev_nil, ↓E_cons, ↓ev_cons, ↓E_tup, ↓ev_tup, ↓E_lst, ↓ev_lst, ↓E_slc, ↓ev_slc, ↓E_nop, ↓ev_nop, ↓E_part, ↓ev_part, ↓E_call, ↓ev_call, ↓E_callV, ↓ev_callV, ↓E_take, ↓ev_take, ↓E_bi, ↓ev_bi, ↓E_isi, ↓ev_isi, ↓E_isi2, ↓ev_isi2, ↓E_isC, ↓ev_isC, ↓E_lc, ↓ev_lc, ↓E_yes, ↓ev_yes, ↓E_eqR, ↓ev_eqR, ↓E_xf, ↓ev_xf, ↓E_fld, ↓ev_fld, ↓E_lenO, ↓ev_lenO, ↓E_tupO, ↓ev_tupO, ↓E_ixO, ↓ev_ixO, ↓S_nop, ↓es_nop, ↓S_seq, ↓es_seq, ↓S_asg, ↓es_asg, ↓S_asgO, ↓es_asgO, ↓S_par, ↓es_par, ↓S_app, ↓es_app, ↓S_setO, ↓es_setO, ↓S_ret, ↓es_ret, ↓S_retN, ↓es_retN, ↓S_ite, ↓es_ite, ↓S_for, ↓es_for, ↓S_whl, ↓es_whl, ↓S_rse, ↓es_rse, ↓S_try, ↓es_try, ↓S_hnil, ↓S_hcons, ↓es_hcons, ↓S_drop, ↓es_drop, ↓S_keep, ↓es_keep, ↓S_brk, ↓es_brk, ↓S_cnt, ↓es_cnt, ↓at_, getV, getO, isiD, D.isNon, op2, o2_add, o2_sub, o2_mul, o2_div, o2_mod, o2_lt, o2_le, o2_gt, o2_ge, o2_ix, o2_isB, o2_isnB, biD, bi_lenD, bi_absD, bi_intD, bi_listD, bi_tupleD, bi_gcd2D, bi_gcd3D, bi_min2D, bi_max2D, Fl.res, ↓runD, startD, toB, truD, optI, slcT, noExc, Sv.isExc, Fl.clr, Fl.off, Sv.clr, evalG, Tg.len, Tg.inn, wipeV, itemsOf, rngL, lcGo, forGo, pgm_call, pgm_con, pgm_fld, pgm_xf, pgm_sub, pgm_most, pgm_ok, scaV, dOf, *])
local macro_rules | `(tactic| walk_at "op") => `(tactic| simp [↓bind_T, ↓bindT_ret, ↓bindT_exn, ↓bindT_bad, ↓bindT_draw, ↓mapX_ret, ↓mapX_exn, ↓mapX_bad, ↓mapX_draw, ↓noX_ret, ↓noX_exn, ↓noX_bad, ↓noX_draw, ↓catch_T, ↓catT_ret, ↓catT_exn, ↓catT_bad, ↓catT_draw, ↓E_var, ↓ev_var, ↓E_lit, ↓ev_lit, ↓E_con, ↓ev_con, ↓E_fnv, ↓ev_fnv, ↓E_clv, ↓ev_clv, ↓E_op, ↓ev_op, ↓E_neg, ↓ev_neg, ↓E_and, ↓ev_and, ↓E_or, ↓ev_or, ↓E_not, ↓ev_not, ↓E_notT, ↓ev_notT, ↓E_isN, ↓ev_isN, ↓E_notN, ↓ev_notN, ↓E_tru, ↓ev_tru, ↓E_chain, ↓ev_chain, ↓E_ifx, ↓ev_ifx, ↓E_nil, ↓ev_nil, ↓E_cons, ↓ev_cons, ↓E_tup, ↓ev_tup, ↓E_lst, ↓ev_lst, ↓E_slc, ↓ev_slc, ↓E_nop, ↓ev_nop, ↓E_part, ↓ev_part, ↓E_call, ↓ev_call, ↓E_callV, ↓ev_callV, ↓E_take, ↓ev_take, ↓E_bi, ↓ev_bi, ↓E_isi, ↓ev_isi, ↓E_isi2, ↓ev_isi2, ↓E_isC, ↓ev_isC, ↓E_lc, ↓ev_lc, ↓E_yes, ↓ev_yes, ↓E_eqR, ↓ev_eqR, ↓E_xf, ↓ev_xf, ↓E_fld, ↓ev_fld, ↓E_lenO, ↓ev_lenO, ↓E_tupO, ↓ev_tupO, ↓E_ixO, ↓ev_ixO, ↓S_nop, ↓es_nop, ↓S_seq, ↓es_seq, ↓S_asg, ↓es_asg, ↓S_asgO, ↓es_asgO, ↓S_par, ↓es_par, ↓S_app, ↓es_app, ↓S_setO, ↓es_setO, ↓S_ret, ↓es_ret, ↓S_retN, ↓es_retN, ↓S_ite, ↓es_ite, ↓S_for, ↓es_for, ↓S_whl, ↓es_whl, ↓S_rse, ↓es_rse, ↓S_try, ↓es_try, ↓S_hnil, ↓S_hcons, ↓es_hcons, ↓S_drop, ↓es_drop, ↓S_keep, ↓es_keep, ↓S_brk, ↓es_brk, ↓S_cnt, ↓es_cnt, ↓at_, getV, getO, isiD, D.isNon, op2, o2_add, o2_sub, o2_mul, o2_div, o2_mod, o2_lt, o2_gt, o2_ge, o2_isB, o2_isnB, biD, bi_lenD, bi_absD, bi_intD, bi_tupleD, bi_gcd2D, bi_gcd3D, bi_min2D, bi_max2D, Fl.res, ↓runD, startD, toB, truD, optI, slcT, noExc, Sv.isExc, Fl.clr, Fl.off, Sv.clr, evalG, Tg.len, Tg.inn, wipeV, itemsOf, rngL, lcGo, forGo, pgm_call, pgm_con, pgm_fld, pgm_xf, pgm_sub, pgm_most, pgm_ok, scaV, dOf, *])
local macro_rules | `(tactic| walk_at "dv") => `(tactic| simp [↓bind_T, ↓bindT_ret, ↓bindT_exn, ↓bindT_bad, ↓bindT_draw, ↓mapX_ret, ↓mapX_exn, ↓mapX_bad, ↓mapX_draw, ↓noX_ret, ↓noX_exn, ↓noX_bad, ↓noX_draw, ↓catch_T, ↓catT_ret, ↓catT_exn, ↓catT_bad, ↓catT_draw, ↓E_var, ↓ev_var, ↓E_lit, ↓ev_lit, ↓E_con, ↓ev_con, ↓E_fnv, ↓ev_fnv, ↓E_clv, ↓ev_clv, ↓E_op, ↓ev_op, ↓E_neg, ↓ev_neg, ↓E_and, ↓ev_and, ↓E_or, ↓ev_or, ↓E_not, ↓ev_not, ↓E_notT, ↓ev_notT, ↓E_isN, ↓ev_isN, ↓E_notN, ↓ev_notN, ↓E_tru, ↓ev_tru, ↓E_chain, ↓ev_chain, ↓E_ifx, ↓ev_ifx, ↓E_nil, ↓ev_nil, ↓E_cons, ↓ev_cons, ↓E_tup, ↓ev_tup, ↓E_lst, ↓ev_lst, ↓E_slc, ↓ev_slc, ↓E_nop, ↓ev_nop, ↓E_part, ↓ev_part, ↓E_call, ↓ev_call, ↓E_callV, ↓ev_callV, ↓E_take, ↓ev_take, ↓E_bi, ↓ev_bi, ↓E_isi, ↓ev_isi, ↓E_isi2, ↓ev_isi2, ↓E_isC, ↓ev_isC, ↓E_lc, ↓ev_lc, ↓E_yes, ↓ev_yes, ↓E_eqR, ↓ev_eqR, ↓E_xf, ↓ev_xf, ↓E_fld, ↓ev_fld, ↓E_lenO, ↓ev_lenO, ↓E_tupO, ↓ev_tupO, ↓E_ixO, ↓ev_ixO, ↓S_nop, ↓es_nop, ↓S_seq, ↓es_seq, ↓S_asg, ↓es_asg, ↓S_asgO, ↓es_asgO, ↓S_par, ↓es_par, ↓S_app, ↓es_app, ↓S_setO, ↓es_setO, ↓S_ret, ↓es_ret, ↓S_retN, ↓es_retN, ↓S_ite, ↓es_ite, ↓S_for, ↓es_for, ↓S_whl, ↓es_whl, ↓S_rse, ↓es_rse, ↓S_try, ↓es_try, ↓S_hnil, ↓S_hcons, ↓es_hcons, ↓S_drop, ↓es_drop, ↓S_keep, ↓es_keep, ↓S_brk, ↓es_brk, ↓S_cnt, ↓es_cnt, ↓at_, getV, getO, isiD, D.isNon, op2, o2_add, o2_sub, o2_mul, o2_mod, o2_lt, o2_gt, o2_ge, o2_isB, o2_isnB, biD, bi_lenD, bi_absD, bi_intD, bi_tupleD, bi_gcd2D, bi_gcd3D, bi_min2D, bi_max2D, Fl.res, ↓runD, startD, toB, truD, optI, slcT, noExc, Sv.isExc, Fl.clr, Fl.off, Sv.clr, evalG, Tg.len, Tg.inn, wipeV, itemsOf, rngL, lcGo, forGo, pgm_call, pgm_con, pgm_fld, pgm_xf, pgm_sub, pgm_most, pgm_ok, scaV, dOf, *])
theorem r_common (n : Nat) (a b : Int) (hb : b.natAbs < 2 ^ 400) : tx.run (n + 1) 20 [.int a, .int b] = .ret (.int (Int.gcd a b)) := by
  have e : tx.run (n + 1) 20 [.int a, .int b] = runD (tx.pgm n) ⟨2, 2, b__law_common⟩ [.int a, .int b] := rfl
  have A1 : (if a < 0 then -a else a) = (a.natAbs : Int) := by split <;> omega
  have A2 : (if b < 0 then -b else b) = (b.natAbs : Int) := by split <;> omega
  have G : (Int.gcd (a.natAbs : Int) (b.natAbs : Int)) = Int.gcd a b := by simp [Int.gcd]
  have W := eu_goes (Γ := tx.pgm n) 400 (n := 100000) (a := (a.natAbs : Int)) (b := (b.natAbs : Int)) (by omega) (by omega) (by exact_mod_cast hb) (by omega)
  rw [G] at W
  have M : evalS (tx.pgm n) (.whl euT euB) none [.dat (.int a.natAbs), .dat (.int b.natAbs)] = .ret (.nx [.dat (.int (Int.gcd a b)), .dat (.int 0)]) := W
  clear W G
  rw [e, b__law_common]
  revert M
  simp only [euT, euB]
  generalize SS.whl (.op .gt (.var 1) (.lit (.int 0))) (.par 0 1 (.cons (.var 1) (.cons (.op .mod (.bi .int (.cons (.var 0) .nil)) (.var 1)) .nil))) = W
  intro M
  walk_at "op"
end K04

set_option Elab.async false
set_option maxRecDepth 100000
set_option maxHeartbeats 4000000
set_option linter.all false
namespace K04
open PySem Ez Tr
local macro_rules | `(tactic| walk_at "ev") => `(tactic| simp [↓bind_T, ↓bindT_ret, ↓bindT_exn, ↓bindT_bad, ↓bindT_draw, ↓mapX_ret, ↓mapX_exn, ↓mapX_bad, ↓mapX_draw, ↓noX_ret, ↓noX_exn, ↓noX_bad, ↓noX_draw, ↓catch_T, ↓catT_ret, ↓catT_exn, ↓catT_bad, ↓catT_draw, ↓E_var, ↓ev_var, ↓E_lit, ↓ev_lit, ↓E_con, ↓ev_con, ↓E_fnv, ↓ev_fnv, ↓E_clv, ↓ev_clv, ↓E_op, ↓ev_op, ↓E_neg, ↓ev_neg, ↓E_and, ↓ev_and, ↓E_or, ↓ev_or, ↓E_not, ↓ev_not, ↓E_notT, ↓ev_notT, ↓E_isN, ↓ev_isN, ↓E_notN, ↓ev_notN, ↓E_tru, ↓ev_tru, ↓E_chain, ↓ev_chain, ↓E_ifx, ↓ev_ifx, ↓E_nil, ↓ev_nil, ↓E_cons, ↓ev_cons, ↓E_tup, ↓ev_tup, ↓E_lst, ↓ev_lst, ↓E_slc, ↓ev_slc, ↓E_nop, ↓ev_nop, ↓E_part, ↓ev_part, ↓E_call, ↓ev_call, ↓E_callV, ↓ev_callV, ↓E_take, ↓ev_take, ↓E_bi, ↓ev_bi, ↓E_isi, ↓ev_isi, ↓E_isi2, ↓ev_isi2, ↓E_isC, ↓ev_isC, ↓E_lc, ↓ev_lc, ↓E_yes, ↓ev_yes, ↓E_eqR, ↓ev_eqR, ↓E_xf, ↓ev_xf, ↓E_fld, ↓ev_fld, ↓E_lenO, ↓ev_lenO, ↓E_tupO, ↓ev_tupO, ↓E_ixO, ↓ev_ixO, ↓S_nop, ↓es_nop, ↓S_seq, ↓es_seq, ↓S_asg, ↓es_asg, ↓S_asgO, ↓es_asgO, ↓S_par, ↓es_par, ↓S_app, ↓es_app, ↓S_setO, ↓es_setO, ↓S_ret, ↓es_ret, ↓S_retN, ↓es_retN, ↓S_ite, ↓es_ite, ↓S_for, ↓es_for, ↓S_whl, ↓es_whl, ↓S_rse, ↓es_rse, ↓S_try, ↓es_try, ↓S_hnil, ↓S_hcons, ↓es_hcons, ↓S_drop, ↓es_drop, ↓S_keep, ↓es_keep, ↓S_brk, ↓es_brk, ↓S_cnt, ↓es_cnt, ↓at_, getV, getO, isiD, D.isNon, op2, o2_add, o2_sub, o2_mul, o2_div, o2_mod, o2_lt, o2_le, o2_gt, o2_ge, o2_ix, o2_isB, o2_isnB, biD, bi_lenD, bi_absD, bi_intD, bi_listD, bi_tupleD, bi_gcd2D, bi_gcd3D, bi_min2D, bi_max2D, Fl.res, ↓runD, startD, toB, truD, optI, slcT, noExc, Sv.isExc, Fl.clr, Fl.off, Sv.clr, evalG, Tg.len, Tg.inn, wipeV, itemsOf, rngL, lcGo, forGo, pgm_call, pgm_con, pgm_fld, pgm_xf, pgm_sub, pgm_most, pgm_ok, scaV, dOf, *])
local macro_rules | `(tactic| walk_at "op") => `(tactic| simp [↓bind_T, ↓bindT_ret, ↓bindT_exn, ↓bindT_bad, ↓bindT_draw, ↓mapX_ret, ↓mapX_exn, ↓mapX_bad, ↓mapX_draw, ↓noX_ret, ↓noX_exn, ↓noX_bad, ↓noX_draw, ↓catch_T, ↓catT_ret, ↓catT_exn, ↓catT_bad, ↓catT_draw, ↓E_var, ↓ev_var, ↓E_lit, ↓ev_lit, ↓E_con, ↓ev_con, ↓E_fnv, ↓ev_fnv, ↓E_clv, ↓ev_clv, ↓E_op, ↓ev_op, ↓E_neg, ↓ev_neg, ↓E_and, ↓ev_and, ↓E_or, ↓ev_or, ↓E_not, ↓ev_not, ↓E_notT, ↓ev_notT, ↓E_isN, ↓ev_isN, ↓E_notN, ↓ev_notN, ↓E_tru, ↓ev_tru, ↓E_chain, ↓ev_chain, ↓E_ifx, ↓ev_ifx, ↓E_nil, ↓ev_nil, ↓E_cons, ↓ev_cons, ↓E_tup, ↓ev_tup, ↓E_lst, ↓ev_lst, ↓E_slc, ↓ev_slc, ↓E_nop, ↓ev_nop, ↓E_part, ↓ev_part, ↓E_call, ↓ev_call, ↓E_callV, ↓ev_callV, ↓E_take, ↓ev_take, ↓E_bi, ↓ev_bi, ↓E_isi, ↓ev_isi, ↓E_isi2, ↓ev_isi2, ↓E_isC, ↓ev_isC, ↓E_lc, ↓ev_lc, ↓E_yes, ↓ev_yes, ↓E_eqR, ↓ev_eqR, ↓E_xf, ↓ev_xf, ↓E_fld, ↓ev_fld, ↓E_lenO, ↓ev_lenO, ↓E_tupO, ↓ev_tupO, ↓E_ixO, ↓ev_ixO, ↓S_nop, ↓es_nop, ↓S_seq, ↓es_seq, ↓S_asg, ↓es_asg, ↓S_asgO, ↓es_asgO, ↓S_par, ↓es_par, ↓S_app, ↓es_app, ↓S_setO, ↓es_setO, ↓S_ret, ↓es_ret, ↓S_retN, ↓es_retN, ↓S_ite, ↓es_ite, ↓S_for, ↓es_for, ↓S_whl, ↓es_whl, ↓S_rse, ↓es_rse, ↓S_try, ↓es_try, ↓S_hnil, ↓S_hcons, ↓es_hcons, ↓S_drop, ↓es_drop, ↓S_keep, ↓es_keep, ↓S_brk, ↓es_brk, ↓S_cnt, ↓es_cnt, ↓at_, getV, getO, isiD, D.isNon, op2, o2_add, o2_sub, o2_mul, o2_div, o2_mod, o2_lt, o2_gt, o2_ge, o2_isB, o2_isnB, biD, bi_lenD, bi_absD, bi_intD, bi_tupleD, bi_gcd2D, bi_gcd3D, bi_min2D, bi_max2D, Fl.res, ↓runD, startD, toB, truD, optI, slcT, noExc, Sv.isExc, Fl.clr, Fl.off, Sv.clr, evalG, Tg.len, Tg.inn, wipeV, itemsOf, rngL, lcGo, forGo, pgm_call, pgm_con, pgm_fld, pgm_xf, pgm_sub, pgm_most, pgm_ok, scaV, dOf, *])
local macro_rules | `(tactic| walk_at "lo") => `(tactic| simp [↓bind_T, ↓bindT_ret, ↓bindT_exn, ↓bindT_bad, ↓bindT_draw, ↓mapX_ret, ↓mapX_exn, ↓mapX_bad, ↓mapX_draw, ↓noX_ret, ↓noX_exn, ↓noX_bad, ↓noX_draw, ↓catch_T, ↓catT_ret, ↓catT_exn, ↓catT_bad, ↓catT_draw, ↓E_var, ↓ev_var, ↓E_lit, ↓ev_lit, ↓E_con, ↓ev_con, ↓E_fnv, ↓ev_fnv, ↓E_clv, ↓ev_clv, ↓E_op, ↓ev_op, ↓E_neg, ↓ev_neg, ↓E_and, ↓ev_and, ↓E_or, ↓ev_or, ↓E_not, ↓ev_not, ↓E_notT, ↓ev_notT, ↓E_isN, ↓ev_isN, ↓E_notN, ↓ev_notN, ↓E_tru, ↓ev_tru, ↓E_chain, ↓ev_chain, ↓E_ifx, ↓ev_ifx, ↓E_nil, ↓ev_nil, ↓E_cons, ↓ev_cons, ↓E_tup, ↓ev_tup, ↓E_lst, ↓ev_lst, ↓E_slc, ↓ev_slc, ↓E_nop, ↓ev_nop, ↓E_part, ↓ev_part, ↓E_call, ↓ev_call, ↓E_callV, ↓ev_callV, ↓E_take, ↓ev_take, ↓E_bi, ↓ev_bi, ↓E_isi, ↓ev_isi, ↓E_isi2, ↓ev_isi2, ↓E_isC, ↓ev_isC, ↓E_lc, ↓ev_lc, ↓E_yes, ↓ev_yes, ↓E_eqR, ↓ev_eqR, ↓E_xf, ↓ev_xf, ↓E_fld, ↓ev_fld, ↓E_lenO, ↓ev_lenO, ↓E_tupO, ↓ev_tupO, ↓E_ixO, ↓ev_ixO, ↓S_nop, ↓es_nop, ↓S_seq, ↓es_seq, ↓S_asg, ↓es_asg, ↓S_asgO, ↓es_asgO, ↓S_par, ↓es_par, ↓S_app, ↓es_app, ↓S_setO, ↓es_setO, ↓S_ret, ↓es_ret, ↓S_retN, ↓es_retN, ↓S_ite, ↓es_ite, ↓S_for, ↓es_for, ↓S_whl, ↓es_whl, ↓S_rse, ↓es_rse, ↓S_try, ↓es_try, ↓S_hnil, ↓S_hcons, ↓es_hcons, ↓S_drop, ↓es_drop, ↓S_keep, ↓es_keep, ↓S_brk, ↓es_brk, ↓S_cnt, ↓es_cnt, ↓at_, getV, getO, isiD, D.isNon, op2, o2_add, o2_sub, o2_mod, o2_lt, o2_gt, o2_ge, o2_isB, o2_isnB, biD, bi_lenD, bi_absD, bi_intD, bi_tupleD, bi_min2D, bi_max2D, Fl.res, ↓runD, startD, toB, truD, optI, slcT, noExc, Sv.isExc, Fl.clr, Fl.off, Sv.clr, evalG, Tg.len, Tg.inn, wipeV, itemsOf, rngL, lcGo, forGo, pgm_call, pgm_con, pgm_fld, pgm_xf, pgm_sub, pgm_most, pgm_ok, scaV, dOf, *])
local macro_rules | `(tactic| walk_at "l2") => `(tactic| simp [↓bind_T, ↓bindT_ret, ↓bindT_exn, ↓bindT_bad, ↓bindT_draw, ↓mapX_ret, ↓mapX_exn, ↓mapX_bad, ↓mapX_draw, ↓noX_ret, ↓noX_exn, ↓noX_bad, ↓noX_draw, ↓catch_T, ↓catT_ret, ↓catT_exn, ↓catT_bad, ↓catT_draw, ↓E_var, ↓ev_var, ↓E_lit, ↓ev_lit, ↓E_con, ↓ev_con, ↓E_fnv, ↓ev_fnv, ↓E_clv, ↓ev_clv, ↓E_op, ↓ev_op, ↓E_neg, ↓ev_neg, ↓E_and, ↓ev_and, ↓E_or, ↓ev_or, ↓E_not, ↓ev_not, ↓E_notT, ↓ev_notT, ↓E_isN, ↓ev_isN, ↓E_notN, ↓ev_notN, ↓E_tru, ↓ev_tru, ↓E_chain, ↓ev_chain, ↓E_ifx, ↓ev_ifx, ↓E_nil, ↓ev_nil, ↓E_cons, ↓ev_cons, ↓E_tup, ↓ev_tup, ↓E_lst, ↓ev_lst, ↓E_slc, ↓ev_slc, ↓E_nop, ↓ev_nop, ↓E_part, ↓ev_part, ↓E_call, ↓ev_call, ↓E_callV, ↓ev_callV, ↓E_take, ↓ev_take, ↓E_bi, ↓ev_bi, ↓E_isi, ↓ev_isi, ↓E_isi2, ↓ev_isi2, ↓E_isC, ↓ev_isC, ↓E_lc, ↓ev_lc, ↓E_yes, ↓ev_yes, ↓E_eqR, ↓ev_eqR, ↓E_xf, ↓ev_xf, ↓E_fld, ↓ev_fld, ↓E_lenO, ↓ev_lenO, ↓E_tupO, ↓ev_tupO, ↓E_ixO, ↓ev_ixO, ↓S_nop, ↓es_nop, ↓S_seq, ↓es_seq, ↓S_asg, ↓es_asg, ↓S_asgO, ↓es_asgO, ↓S_par, ↓es_par, ↓S_app, ↓es_app, ↓S_setO, ↓es_setO, ↓S_ret, ↓es_ret, ↓S_retN, ↓es_retN, ↓S_ite, ↓es_ite, ↓S_for, ↓es_for, ↓S_whl, ↓es_whl, ↓S_rse, ↓es_rse, ↓S_try, ↓es_try, ↓S_hnil, ↓S_hcons, ↓es_hcons, ↓S_drop, ↓es_drop, ↓S_keep, ↓es_keep, ↓S_brk, ↓es_brk, ↓S_cnt, ↓es_cnt, ↓at_, getV, getO, isiD, D.isNon, op2, o2_add, o2_sub, o2_mod, o2_lt, o2_gt, o2_ge, o2_isB, o2_isnB, biD, bi_lenD, bi_absD, bi_intD, bi_listD, bi_tupleD, bi_min2D, bi_max2D, Fl.res, ↓runD, startD, toB, truD, optI, slcT, noExc, Sv.isExc, Fl.clr, Fl.off, Sv.clr, evalG, Tg.len, Tg.inn, wipeV, itemsOf, rngL, lcGo, forGo, pgm_call, pgm_con, pgm_fld, pgm_xf, pgm_sub, pgm_most, pgm_ok, scaV, dOf, *])
theorem r_whole (n : Nat) (x a b : Int) : tx.run (n + 1) 0 [.int x, .int a, .int b] = .ret (.bl (decide (a ≤ x) && decide (x ≤ b))) := by
  have e : tx.run (n + 1) 0 [.int x, .int a, .int b] = runD (tx.pgm n) ⟨3, 3, b_is_whole⟩ [.int x, .int a, .int b] := rfl
  rw [e, b_is_whole]
  by_cases h1 : x < a
  · walk_at "ev" <;> omega
  · by_cases h2 : x ≤ b
    · walk_at "ev" <;> omega
    · walk_at "ev" <;> omega
theorem r_face (n : Nat) (f : Int) (f0 : 0 ≤ f) (f1 : f ≤ 5) : tx.run (n + 2) 2 [.int f] = .ret (.int f) := by
  have e : tx.run (n + 2) 2 [.int f] = runD (tx.pgm (n + 1)) ⟨1, 1, b_check_face⟩ [.int f] := rfl
  have H := r_whole n f 0 5
  rw [decide_eq_true f0, decide_eq_true f1] at H
  rw [e, b_check_face]
  walk_at "ev"
theorem r_seq (n : Nat) (a b c : Int) : tx.run (n + 1) 1 [.tup [.int a, .int b, .int c], .int 3, .int 3] = .ret (.bl true) ∧ tx.run (n + 1) 1 [.lst [.int a, .int b, .int c], .int 3, .int 3] = .ret (.bl true) := by
  constructor
  · have e : tx.run (n + 1) 1 [.tup [.int a, .int b, .int c], .int 3, .int 3] = runD (tx.pgm n) ⟨3, 3, b_is_sequence⟩ [.tup [.int a, .int b, .int c], .int 3, .int 3] := rfl
    rw [e, b_is_sequence]
    walk_at "ev"
  · have e : tx.run (n + 1) 1 [.lst [.int a, .int b, .int c], .int 3, .int 3] = runD (tx.pgm n) ⟨3, 3, b_is_sequence⟩ [.lst [.int a, .int b, .int c], .int 3, .int 3] := rfl
    rw [e, b_is_sequence]
    walk_at "ev"
def inR (x : Int) : Prop := -10000 ≤ x ∧ x ≤ 10000
def onAx (f a b c : Int) : Int := if f / 2 = 0 then a else if f / 2 = 1 then b else c
def g3 (a b c : Int) : Nat := Nat.gcd (Nat.gcd a.natAbs b.natAbs) c.natAbs
theorem ix3 {f a b c : Int} (f0 : 0 ≤ f) (f1 : f ≤ 5) : o2_ix (.tup [.int a, .int b, .int c]) (.int (f / 2)) = .ret (.int (onAx f a b c)) ∧ o2_ix (.lst [.int a, .int b, .int c]) (.int (f / 2)) = .ret (.int (onAx f a b c)) := by
  have : f = 0 ∨ f = 1 ∨ f = 2 ∨ f = 3 ∨ f = 4 ∨ f = 5 := by omega
  rcases this with rfl | rfl | rfl | rfl | rfl | rfl <;> exact ⟨rfl, rfl⟩
theorem div2 (f : Int) : o2_div (.int f) (.int 2) = .ret (.int (f / 2)) := by
  rw [o2_div, if_pos ⟨by decide, by decide⟩, Int.fdiv_eq_ediv_of_nonneg _ (by decide)]
theorem r_dir (n : Nat) (f a b c : Int) (f0 : 0 ≤ f) (f1 : f ≤ 5) (ha : inR a) (hb : inR b) (hc : inR c) (hx : onAx f a b c = 0) (g : g3 a b c = 1) : tx.run (n + 3) 7 [.int f, .tup [.int a, .int b, .int c]] = .ret (.tup [.int a, .int b, .int c]) ∧ tx.run (n + 3) 7 [.int f, .lst [.int a, .int b, .int c]] = .ret (.tup [.int a, .int b, .int c]) := by
  have F := r_face n f f0 f1
  obtain ⟨S1, S2⟩ := r_seq (n + 1) a b c
  have W1 := r_whole (n + 1) a (-10000) 10000
  have W2 := r_whole (n + 1) b (-10000) 10000
  have W3 := r_whole (n + 1) c (-10000) 10000
  rw [decide_eq_true ha.1, decide_eq_true ha.2] at W1
  rw [decide_eq_true hb.1, decide_eq_true hb.2] at W2
  rw [decide_eq_true hc.1, decide_eq_true hc.2] at W3
  obtain ⟨I1, I2⟩ := ix3 (a := a) (b := b) (c := c) f0 f1
  rw [hx] at I1 I2
  have V := div2 f
  have G : bi_gcd3D [.int a, .int b, .int c] = .ret (.int 1) := by
    show Tr.ret (D.int ((g3 a b c : Nat) : Int)) = _
    rw [g]
    rfl
  have X0 : ∀ a b c : D, o2_ix (.tup [a, b, c]) (.int 0) = .ret a := fun _ _ _ => rfl
  have X1 : ∀ a b c : D, o2_ix (.tup [a, b, c]) (.int 1) = .ret b := fun _ _ _ => rfl
  have X2 : ∀ a b c : D, o2_ix (.tup [a, b, c]) (.int 2) = .ret c := fun _ _ _ => rfl
  have Y0 : ∀ a b c : D, o2_ix (.lst [a, b, c]) (.int 0) = .ret a := fun _ _ _ => rfl
  have Y1 : ∀ a b c : D, o2_ix (.lst [a, b, c]) (.int 1) = .ret b := fun _ _ _ => rfl
  have Y2 : ∀ a b c : D, o2_ix (.lst [a, b, c]) (.int 2) = .ret c := fun _ _ _ => rfl
  have N0 : o2_ne (.int 0) (.int 0) = .ret (.bl false) := rfl
  have N1 : o2_ne (.int 1) (.int 1) = .ret (.bl false) := rfl
  have E1 : o2_eq (.int 1) (.int 0) = .ret (.bl false) := rfl
  clear ha hb hc hx g f0 f1
  constructor
  · have e : tx.run (n + 3) 7 [.int f, .tup [.int a, .int b, .int c]] = runD (tx.pgm (n + 2)) ⟨2, 4, b_check_direction⟩ [.int f, .tup [.int a, .int b, .int c]] := rfl
    rw [e, b_check_direction]
    walk_at "lo"
  · have e : tx.run (n + 3) 7 [.int f, .lst [.int a, .int b, .int c]] = runD (tx.pgm (n + 2)) ⟨2, 4, b_check_direction⟩ [.int f, .lst [.int a, .int b, .int c]] := rfl
    rw [e, b_check_direction]
    walk_at "l2"
end K04

set_option Elab.async false
set_option maxRecDepth 100000
set_option maxHeartbeats 4000000
set_option linter.all false
namespace K04
open PySem Ez Tr
local macro_rules | `(tactic| walk_at "ev") => `(tactic| simp [↓bind_T, ↓bindT_ret, ↓bindT_exn, ↓bindT_bad, ↓bindT_draw, ↓mapX_ret, ↓mapX_exn, ↓mapX_bad, ↓mapX_draw, ↓noX_ret, ↓noX_exn, ↓noX_bad, ↓noX_draw, ↓catch_T, ↓catT_ret, ↓catT_exn, ↓catT_bad, ↓catT_draw, ↓E_var, ↓ev_var, ↓E_lit, ↓ev_lit, ↓E_con, ↓ev_con, ↓E_fnv, ↓ev_fnv, ↓E_clv, ↓ev_clv, ↓E_op, ↓ev_op, ↓E_neg, ↓ev_neg, ↓E_and, ↓ev_and, ↓E_or, ↓ev_or, ↓E_not, ↓ev_not, ↓E_notT, ↓ev_notT, ↓E_isN, ↓ev_isN, ↓E_notN, ↓ev_notN, ↓E_tru, ↓ev_tru, ↓E_chain, ↓ev_chain, ↓E_ifx, ↓ev_ifx, ↓E_nil, ↓ev_nil, ↓E_cons, ↓ev_cons, ↓E_tup, ↓ev_tup, ↓E_lst, ↓ev_lst, ↓E_slc, ↓ev_slc, ↓E_nop, ↓ev_nop, ↓E_part, ↓ev_part, ↓E_call, ↓ev_call, ↓E_callV, ↓ev_callV, ↓E_take, ↓ev_take, ↓E_bi, ↓ev_bi, ↓E_isi, ↓ev_isi, ↓E_isi2, ↓ev_isi2, ↓E_isC, ↓ev_isC, ↓E_lc, ↓ev_lc, ↓E_yes, ↓ev_yes, ↓E_eqR, ↓ev_eqR, ↓E_xf, ↓ev_xf, ↓E_fld, ↓ev_fld, ↓E_lenO, ↓ev_lenO, ↓E_tupO, ↓ev_tupO, ↓E_ixO, ↓ev_ixO, ↓S_nop, ↓es_nop, ↓S_seq, ↓es_seq, ↓S_asg, ↓es_asg, ↓S_asgO, ↓es_asgO, ↓S_par, ↓es_par, ↓S_app, ↓es_app, ↓S_setO, ↓es_setO, ↓S_ret, ↓es_ret, ↓S_retN, ↓es_retN, ↓S_ite, ↓es_ite, ↓S_for, ↓es_for, ↓S_whl, ↓es_whl, ↓S_rse, ↓es_rse, ↓S_try, ↓es_try, ↓S_hnil, ↓S_hcons, ↓es_hcons, ↓S_drop, ↓es_drop, ↓S_keep, ↓es_keep, ↓S_brk, ↓es_brk, ↓S_cnt, ↓es_cnt, ↓at_, getV, getO, isiD, D.isNon, op2, o2_add, o2_sub, o2_mul, o2_div, o2_mod, o2_lt, o2_le, o2_gt, o2_ge, o2_ix, o2_isB, o2_isnB, biD, bi_lenD, bi_absD, bi_intD, bi_listD, bi_tupleD, bi_gcd2D, bi_gcd3D, bi_min2D, bi_max2D, Fl.res, ↓runD, startD, toB, truD, optI, slcT, noExc, Sv.isExc, Fl.clr, Fl.off, Sv.clr, evalG, Tg.len, Tg.inn, wipeV, itemsOf, rngL, lcGo, forGo, pgm_call, pgm_con, pgm_fld, pgm_xf, pgm_sub, pgm_most, pgm_ok, scaV, dOf, *])
local macro_rules | `(tactic| walk_at "ax") => `(tactic| simp [↓bind_T, ↓bindT_ret, ↓bindT_exn, ↓bindT_bad, ↓bindT_draw, ↓mapX_ret, ↓mapX_exn, ↓mapX_bad, ↓mapX_draw, ↓noX_ret, ↓noX_exn, ↓noX_bad, ↓noX_draw, ↓catch_T, ↓catT_ret, ↓catT_exn, ↓catT_bad, ↓catT_draw, ↓E_var, ↓ev_var, ↓E_lit, ↓ev_lit, ↓E_con, ↓ev_con, ↓E_fnv, ↓ev_fnv, ↓E_clv, ↓ev_clv, ↓E_op, ↓ev_op, ↓E_neg, ↓ev_neg, ↓E_and, ↓ev_and, ↓E_or, ↓ev_or, ↓E_not, ↓ev_not, ↓E_notT, ↓ev_notT, ↓E_isN, ↓ev_isN, ↓E_notN, ↓ev_notN, ↓E_tru, ↓ev_tru, ↓E_chain, ↓ev_chain, ↓E_ifx, ↓ev_ifx, ↓E_nil, ↓ev_nil, ↓E_cons, ↓ev_cons, ↓E_tup, ↓ev_tup, ↓E_lst, ↓ev_lst, ↓E_slc, ↓ev_slc, ↓E_nop, ↓ev_nop, ↓E_part, ↓ev_part, ↓E_call, ↓ev_call, ↓E_callV, ↓ev_callV, ↓E_take, ↓ev_take, ↓E_bi, ↓ev_bi, ↓E_isi, ↓ev_isi, ↓E_isi2, ↓ev_isi2, ↓E_isC, ↓ev_isC, ↓E_lc, ↓ev_lc, ↓E_yes, ↓ev_yes, ↓E_eqR, ↓ev_eqR, ↓E_xf, ↓ev_xf, ↓E_fld, ↓ev_fld, ↓E_lenO, ↓ev_lenO, ↓E_tupO, ↓ev_tupO, ↓E_ixO, ↓ev_ixO, ↓S_nop, ↓es_nop, ↓S_seq, ↓es_seq, ↓S_asg, ↓es_asg, ↓S_asgO, ↓es_asgO, ↓S_par, ↓es_par, ↓S_app, ↓es_app, ↓S_setO, ↓es_setO, ↓S_ret, ↓es_ret, ↓S_retN, ↓es_retN, ↓S_ite, ↓es_ite, ↓S_for, ↓es_for, ↓S_whl, ↓es_whl, ↓S_rse, ↓es_rse, ↓S_try, ↓es_try, ↓S_hnil, ↓S_hcons, ↓es_hcons, ↓S_drop, ↓es_drop, ↓S_keep, ↓es_keep, ↓S_brk, ↓es_brk, ↓S_cnt, ↓es_cnt, ↓at_, getV, getO, isiD, D.isNon, op2, o2_add, o2_sub, o2_mul, o2_div, o2_mod, o2_lt, o2_le, o2_gt, o2_ge, o2_isB, o2_isnB, biD, bi_lenD, bi_absD, bi_intD, bi_listD, bi_tupleD, bi_gcd2D, bi_gcd3D, bi_min2D, bi_max2D, Fl.res, ↓runD, startD, toB, truD, optI, slcT, noExc, Sv.isExc, Fl.clr, Fl.off, Sv.clr, evalG, Tg.len, Tg.inn, wipeV, itemsOf, rngL, lcGo, forGo, pgm_call, pgm_con, pgm_fld, pgm_xf, pgm_sub, pgm_most, pgm_ok, scaV, dOf, *])
def axL : Int → Int × Int
  | 0 => (2, 1) | 1 => (1, 2) | 2 => (0, 2) | 3 => (2, 0) | 4 => (1, 0) | _ => (0, 1)
def pr (i : Int) (a b c : D) : D := if i = 0 then a else if i = 1 then b else c
theorem r_axes (n : Nat) (f : Int) (f0 : 0 ≤ f) (f1 : f ≤ 5) : tx.run (n + 3) 3 [.int f] = .ret (.tup [.int (axL f).1, .int (axL f).2]) := by
  have e : tx.run (n + 3) 3 [.int f] = runD (tx.pgm (n + 2)) ⟨1, 1, b_face_axes⟩ [.int f] := rfl
  have F := r_face n f f0 f1
  have X : o2_ix (tx.con 0) (.int f) = .ret (.tup [.int (axL f).1, .int (axL f).2]) := by
    have : f = 0 ∨ f = 1 ∨ f = 2 ∨ f = 3 ∨ f = 4 ∨ f = 5 := by omega
    rcases this with rfl | rfl | rfl | rfl | rfl | rfl <;> rfl
  rw [e, b_face_axes]
  clear f0 f1
  walk_at "ax"
theorem r_laxes (n : Nat) (f : Int) (f0 : 0 ≤ f) (f1 : f ≤ 5) : tx.run (n + 1) 21 [.int f] = .ret (.tup [.int (axL f).1, .int (axL f).2]) := by
  have h : ∀ g : Int, 0 ≤ g → g ≤ 5 → tx.run (n + 1) 21 [.int g] = .ret (.tup [.int (axL g).1, .int (axL g).2]) := by
    intro g g0 g1
    have e : tx.run (n + 1) 21 [.int g] = runD (tx.pgm n) ⟨1, 1, b__law_axes⟩ [.int g] := rfl
    rw [e, b__law_axes]
    have X : o2_ix (.tup [.tup [.int 2, .int 1], .tup [.int 1, .int 2], .tup [.int 0, .int 2], .tup [.int 2, .int 0], .tup [.int 1, .int 0], .tup [.int 0, .int 1]]) (.int g) = .ret (.tup [.int (axL g).1, .int (axL g).2]) := by
      have : g = 0 ∨ g = 1 ∨ g = 2 ∨ g = 3 ∨ g = 4 ∨ g = 5 := by omega
      rcases this with rfl | rfl | rfl | rfl | rfl | rfl <;> rfl
    clear g0 g1
    walk_at "ax"
  exact h f f0 f1
end K04

set_option Elab.async false
set_option maxRecDepth 100000
set_option maxHeartbeats 4000000
set_option linter.all false
namespace K04
open PySem Ez Tr
local macro_rules | `(tactic| walk_at "ev") => `(tactic| simp [↓bind_T, ↓bindT_ret, ↓bindT_exn, ↓bindT_bad, ↓bindT_draw, ↓mapX_ret, ↓mapX_exn, ↓mapX_bad, ↓mapX_draw, ↓noX_ret, ↓noX_exn, ↓noX_bad, ↓noX_draw, ↓catch_T, ↓catT_ret, ↓catT_exn, ↓catT_bad, ↓catT_draw, ↓E_var, ↓ev_var, ↓E_lit, ↓ev_lit, ↓E_con, ↓ev_con, ↓E_fnv, ↓ev_fnv, ↓E_clv, ↓ev_clv, ↓E_op, ↓ev_op, ↓E_neg, ↓ev_neg, ↓E_and, ↓ev_and, ↓E_or, ↓ev_or, ↓E_not, ↓ev_not, ↓E_notT, ↓ev_notT, ↓E_isN, ↓ev_isN, ↓E_notN, ↓ev_notN, ↓E_tru, ↓ev_tru, ↓E_chain, ↓ev_chain, ↓E_ifx, ↓ev_ifx, ↓E_nil, ↓ev_nil, ↓E_cons, ↓ev_cons, ↓E_tup, ↓ev_tup, ↓E_lst, ↓ev_lst, ↓E_slc, ↓ev_slc, ↓E_nop, ↓ev_nop, ↓E_part, ↓ev_part, ↓E_call, ↓ev_call, ↓E_callV, ↓ev_callV, ↓E_take, ↓ev_take, ↓E_bi, ↓ev_bi, ↓E_isi, ↓ev_isi, ↓E_isi2, ↓ev_isi2, ↓E_isC, ↓ev_isC, ↓E_lc, ↓ev_lc, ↓E_yes, ↓ev_yes, ↓E_eqR, ↓ev_eqR, ↓E_xf, ↓ev_xf, ↓E_fld, ↓ev_fld, ↓E_lenO, ↓ev_lenO, ↓E_tupO, ↓ev_tupO, ↓E_ixO, ↓ev_ixO, ↓S_nop, ↓es_nop, ↓S_seq, ↓es_seq, ↓S_asg, ↓es_asg, ↓S_asgO, ↓es_asgO, ↓S_par, ↓es_par, ↓S_app, ↓es_app, ↓S_setO, ↓es_setO, ↓S_ret, ↓es_ret, ↓S_retN, ↓es_retN, ↓S_ite, ↓es_ite, ↓S_for, ↓es_for, ↓S_whl, ↓es_whl, ↓S_rse, ↓es_rse, ↓S_try, ↓es_try, ↓S_hnil, ↓S_hcons, ↓es_hcons, ↓S_drop, ↓es_drop, ↓S_keep, ↓es_keep, ↓S_brk, ↓es_brk, ↓S_cnt, ↓es_cnt, ↓at_, getV, getO, isiD, D.isNon, op2, o2_add, o2_sub, o2_mul, o2_div, o2_mod, o2_lt, o2_le, o2_gt, o2_ge, o2_ix, o2_isB, o2_isnB, biD, bi_lenD, bi_absD, bi_intD, bi_listD, bi_tupleD, bi_gcd2D, bi_gcd3D, bi_min2D, bi_max2D, Fl.res, ↓runD, startD, toB, truD, optI, slcT, noExc, Sv.isExc, Fl.clr, Fl.off, Sv.clr, evalG, Tg.len, Tg.inn, wipeV, itemsOf, rngL, lcGo, forGo, pgm_call, pgm_con, pgm_fld, pgm_xf, pgm_sub, pgm_most, pgm_ok, scaV, dOf, *])
local macro_rules | `(tactic| walk_at "ax") => `(tactic| simp [↓bind_T, ↓bindT_ret, ↓bindT_exn, ↓bindT_bad, ↓bindT_draw, ↓mapX_ret, ↓mapX_exn, ↓mapX_bad, ↓mapX_draw, ↓noX_ret, ↓noX_exn, ↓noX_bad, ↓noX_draw, ↓catch_T, ↓catT_ret, ↓catT_exn, ↓catT_bad, ↓catT_draw, ↓E_var, ↓ev_var, ↓E_lit, ↓ev_lit, ↓E_con, ↓ev_con, ↓E_fnv, ↓ev_fnv, ↓E_clv, ↓ev_clv, ↓E_op, ↓ev_op, ↓E_neg, ↓ev_neg, ↓E_and, ↓ev_and, ↓E_or, ↓ev_or, ↓E_not, ↓ev_not, ↓E_notT, ↓ev_notT, ↓E_isN, ↓ev_isN, ↓E_notN, ↓ev_notN, ↓E_tru, ↓ev_tru, ↓E_chain, ↓ev_chain, ↓E_ifx, ↓ev_ifx, ↓E_nil, ↓ev_nil, ↓E_cons, ↓ev_cons, ↓E_tup, ↓ev_tup, ↓E_lst, ↓ev_lst, ↓E_slc, ↓ev_slc, ↓E_nop, ↓ev_nop, ↓E_part, ↓ev_part, ↓E_call, ↓ev_call, ↓E_callV, ↓ev_callV, ↓E_take, ↓ev_take, ↓E_bi, ↓ev_bi, ↓E_isi, ↓ev_isi, ↓E_isi2, ↓ev_isi2, ↓E_isC, ↓ev_isC, ↓E_lc, ↓ev_lc, ↓E_yes, ↓ev_yes, ↓E_eqR, ↓ev_eqR, ↓E_xf, ↓ev_xf, ↓E_fld, ↓ev_fld, ↓E_lenO, ↓ev_lenO, ↓E_tupO, ↓ev_tupO, ↓E_ixO, ↓ev_ixO, ↓S_nop, ↓es_nop, ↓S_seq, ↓es_seq, ↓S_asg, ↓es_asg, ↓S_asgO, ↓es_asgO, ↓S_par, ↓es_par, ↓S_app, ↓es_app, ↓S_setO, ↓es_setO, ↓S_ret, ↓es_ret, ↓S_retN, ↓es_retN, ↓S_ite, ↓es_ite, ↓S_for, ↓es_for, ↓S_whl, ↓es_whl, ↓S_rse, ↓es_rse, ↓S_try, ↓es_try, ↓S_hnil, ↓S_hcons, ↓es_hcons, ↓S_drop, ↓es_drop, ↓S_keep, ↓es_keep, ↓S_brk, ↓es_brk, ↓S_cnt, ↓es_cnt, ↓at_, getV, getO, isiD, D.isNon, op2, o2_add, o2_sub, o2_mul, o2_div, o2_mod, o2_lt, o2_le, o2_gt, o2_ge, o2_isB, o2_isnB, biD, bi_lenD, bi_absD, bi_intD, bi_listD, bi_tupleD, bi_gcd2D, bi_gcd3D, bi_min2D, bi_max2D, Fl.res, ↓runD, startD, toB, truD, optI, slcT, noExc, Sv.isExc, Fl.clr, Fl.off, Sv.clr, evalG, Tg.len, Tg.inn, wipeV, itemsOf, rngL, lcGo, forGo, pgm_call, pgm_con, pgm_fld, pgm_xf, pgm_sub, pgm_most, pgm_ok, scaV, dOf, *])
local macro_rules | `(tactic| walk_at "fr") => `(tactic| simp [↓bind_T, ↓bindT_ret, ↓bindT_exn, ↓bindT_bad, ↓bindT_draw, ↓mapX_ret, ↓mapX_exn, ↓mapX_bad, ↓mapX_draw, ↓noX_ret, ↓noX_exn, ↓noX_bad, ↓noX_draw, ↓catch_T, ↓catT_ret, ↓catT_exn, ↓catT_bad, ↓catT_draw, ↓E_var, ↓ev_var, ↓E_lit, ↓ev_lit, ↓E_con, ↓ev_con, ↓E_fnv, ↓ev_fnv, ↓E_clv, ↓ev_clv, ↓E_op, ↓ev_op, ↓E_neg, ↓ev_neg, ↓E_and, ↓ev_and, ↓E_or, ↓ev_or, ↓E_not, ↓ev_not, ↓E_notT, ↓ev_notT, ↓E_isN, ↓ev_isN, ↓E_notN, ↓ev_notN, ↓E_tru, ↓ev_tru, ↓E_chain, ↓ev_chain, ↓E_ifx, ↓ev_ifx, ↓E_nil, ↓ev_nil, ↓E_cons, ↓ev_cons, ↓E_tup, ↓ev_tup, ↓E_lst, ↓ev_lst, ↓E_slc, ↓ev_slc, ↓E_nop, ↓ev_nop, ↓E_part, ↓ev_part, ↓E_call, ↓ev_call, ↓E_callV, ↓ev_callV, ↓E_take, ↓ev_take, ↓E_bi, ↓ev_bi, ↓E_isi, ↓ev_isi, ↓E_isi2, ↓ev_isi2, ↓E_isC, ↓ev_isC, ↓E_lc, ↓ev_lc, ↓E_yes, ↓ev_yes, ↓E_eqR, ↓ev_eqR, ↓E_xf, ↓ev_xf, ↓E_fld, ↓ev_fld, ↓E_lenO, ↓ev_lenO, ↓E_tupO, ↓ev_tupO, ↓E_ixO, ↓ev_ixO, ↓S_nop, ↓es_nop, ↓S_seq, ↓es_seq, ↓S_asg, ↓es_asg, ↓S_asgO, ↓es_asgO, ↓S_par, ↓es_par, ↓S_app, ↓es_app, ↓S_setO, ↓es_setO, ↓S_ret, ↓es_ret, ↓S_retN, ↓es_retN, ↓S_ite, ↓es_ite, ↓S_for, ↓es_for, ↓S_whl, ↓es_whl, ↓S_rse, ↓es_rse, ↓S_try, ↓es_try, ↓S_hnil, ↓S_hcons, ↓es_hcons, ↓S_drop, ↓es_drop, ↓S_keep, ↓es_keep, ↓S_brk, ↓es_brk, ↓S_cnt, ↓es_cnt, ↓at_, getV, getO, D.isNon, op2, o2_add, o2_sub, o2_mul, o2_div, o2_mod, o2_lt, o2_le, o2_gt, o2_ge, o2_isB, o2_isnB, biD, bi_lenD, bi_absD, bi_intD, bi_listD, bi_tupleD, bi_gcd2D, bi_gcd3D, bi_min2D, bi_max2D, Fl.res, ↓runD, startD, toB, truD, optI, slcT, noExc, Sv.isExc, Fl.clr, Fl.off, Sv.clr, evalG, Tg.len, Tg.inn, wipeV, itemsOf, rngL, lcGo, forGo, pgm_call, pgm_con, pgm_fld, pgm_xf, pgm_sub, pgm_most, pgm_ok, scaV, dOf, *])
def ax1 (f : Int) (a b c : D) : D := pr (axL f).1 a b c
def ax2 (f : Int) (a b c : D) : D := pr (axL f).2 a b c
theorem ix_ax {f : Int} (a b c : D) (f0 : 0 ≤ f) (f1 : f ≤ 5) : o2_ix (.tup [a, b, c]) (.int (axL f).1) = .ret (ax1 f a b c) ∧ o2_ix (.tup [a, b, c]) (.int (axL f).2) = .ret (ax2 f a b c) ∧ o2_ix (.lst [a, b, c]) (.int (axL f).1) = .ret (ax1 f a b c) ∧ o2_ix (.lst [a, b, c]) (.int (axL f).2) = .ret (ax2 f a b c) := by
  have : f = 0 ∨ f = 1 ∨ f = 2 ∨ f = 3 ∨ f = 4 ∨ f = 5 := by omega
  rcases this with rfl | rfl | rfl | rfl | rfl | rfl <;> exact ⟨rfl, rfl, rfl, rfl⟩
def notL : D → Bool
  | .lst _ => false
  | _ => true
theorem r_framed (n : Nat) (f : Int) (a b c : D) (f0 : 0 ≤ f) (f1 : f ≤ 5) (h1 : isiD (ax1 f a b c) .list = some false) (h2 : isiD (ax2 f a b c) .list = some false) : tx.run (n + 4) 4 [.int f, .tup [a, b, c]] = .ret (.tup [ax1 f a b c, ax2 f a b c]) ∧ tx.run (n + 4) 4 [.int f, .lst [a, b, c]] = .ret (.tup [ax1 f a b c, ax2 f a b c]) := by
  have F := r_face (n + 1) f f0 f1
  have A := r_axes n f f0 f1
  obtain ⟨I1, I2, I3, I4⟩ := ix_ax a b c f0 f1
  generalize ax1 f a b c = p at *
  generalize ax2 f a b c = q at *
  clear f0 f1
  constructor
  · have e : tx.run (n + 4) 4 [.int f, .tup [a, b, c]] = runD (tx.pgm (n + 3)) ⟨2, 6, b_framed⟩ [.int f, .tup [a, b, c]] := rfl
    rw [e, b_framed]
    walk_at "fr"
  · have e : tx.run (n + 4) 4 [.int f, .lst [a, b, c]] = runD (tx.pgm (n + 3)) ⟨2, 6, b_framed⟩ [.int f, .lst [a, b, c]] := rfl
    rw [e, b_framed]
    walk_at "fr"
end K04

set_option Elab.async false
set_option maxRecDepth 100000
set_option maxHeartbeats 4000000
set_option linter.all false
namespace K04
open PySem Ez Tr
local macro_rules | `(tactic| walk_at "ax") => `(tactic| simp [↓bind_T, ↓bindT_ret, ↓bindT_exn, ↓bindT_bad, ↓bindT_draw, ↓mapX_ret, ↓mapX_exn, ↓mapX_bad, ↓mapX_draw, ↓noX_ret, ↓noX_exn, ↓noX_bad, ↓noX_draw, ↓catch_T, ↓catT_ret, ↓catT_exn, ↓catT_bad, ↓catT_draw, ↓E_var, ↓ev_var, ↓E_lit, ↓ev_lit, ↓E_con, ↓ev_con, ↓E_fnv, ↓ev_fnv, ↓E_clv, ↓ev_clv, ↓E_op, ↓ev_op, ↓E_neg, ↓ev_neg, ↓E_and, ↓ev_and, ↓E_or, ↓ev_or, ↓E_not, ↓ev_not, ↓E_notT, ↓ev_notT, ↓E_isN, ↓ev_isN, ↓E_notN, ↓ev_notN, ↓E_tru, ↓ev_tru, ↓E_chain, ↓ev_chain, ↓E_ifx, ↓ev_ifx, ↓E_nil, ↓ev_nil, ↓E_cons, ↓ev_cons, ↓E_tup, ↓ev_tup, ↓E_lst, ↓ev_lst, ↓E_slc, ↓ev_slc, ↓E_nop, ↓ev_nop, ↓E_part, ↓ev_part, ↓E_call, ↓ev_call, ↓E_callV, ↓ev_callV, ↓E_take, ↓ev_take, ↓E_bi, ↓ev_bi, ↓E_isi, ↓ev_isi, ↓E_isi2, ↓ev_isi2, ↓E_isC, ↓ev_isC, ↓E_lc, ↓ev_lc, ↓E_yes, ↓ev_yes, ↓E_eqR, ↓ev_eqR, ↓E_xf, ↓ev_xf, ↓E_fld, ↓ev_fld, ↓E_lenO, ↓ev_lenO, ↓E_tupO, ↓ev_tupO, ↓E_ixO, ↓ev_ixO, ↓S_nop, ↓es_nop, ↓S_seq, ↓es_seq, ↓S_asg, ↓es_asg, ↓S_asgO, ↓es_asgO, ↓S_par, ↓es_par, ↓S_app, ↓es_app, ↓S_setO, ↓es_setO, ↓S_ret, ↓es_ret, ↓S_retN, ↓es_retN, ↓S_ite, ↓es_ite, ↓S_for, ↓es_for, ↓S_whl, ↓es_whl, ↓S_rse, ↓es_rse, ↓S_try, ↓es_try, ↓S_hnil, ↓S_hcons, ↓es_hcons, ↓S_drop, ↓es_drop, ↓S_keep, ↓es_keep, ↓S_brk, ↓es_brk, ↓S_cnt, ↓es_cnt, ↓at_, getV, getO, isiD, D.isNon, op2, o2_add, o2_sub, o2_lt, o2_le, o2_gt, o2_ge, o2_isB, o2_isnB, biD, bi_lenD, bi_absD, bi_intD, bi_listD, bi_tupleD, bi_gcd2D, bi_gcd3D, bi_min2D, bi_max2D, Fl.res, ↓runD, startD, toB, truD, optI, slcT, noExc, Sv.isExc, Fl.clr, Fl.off, Sv.clr, evalG, Tg.len, Tg.inn, wipeV, itemsOf, rngL, lcGo, forGo, pgm_call, pgm_con, pgm_fld, pgm_xf, pgm_sub, pgm_most, pgm_ok, scaV, dOf, EE.fresh, *])
theorem mod2 (f : Int) : o2_mod (.int f) (.int 2) = .ret (.int (f % 2)) := by simp [o2_mod]
def outw (g a b c : Int) : Int := if g % 2 = 1 then onAx g a b c else -onAx g a b c
theorem r_lout (n : Nat) (g a b c : Int) (g0 : 0 ≤ g) (g1 : g ≤ 5) : tx.run (n + 1) 24 [.int g, .tup [.int a, .int b, .int c]] = .ret (.int (outw g a b c)) := by
  have e : tx.run (n + 1) 24 [.int g, .tup [.int a, .int b, .int c]] = runD (tx.pgm n) ⟨2, 2, b__law_out⟩ [.int g, .tup [.int a, .int b, .int c]] := rfl
  have I := (ix3 (a := a) (b := b) (c := c) g0 g1).1
  have V := div2 g
  have M := mod2 g
  have OE := @o2_eq_int
  rw [outw]
  generalize onAx g a b c = w at *
  clear g0 g1
  rw [e, b__law_out]
  by_cases h : g % 2 = 1 <;> walk_at "ax"
theorem r_out (n : Nat) (g a b c : Int) (g0 : 0 ≤ g) (g1 : g ≤ 5) : tx.run (n + 1) 16 [.int g, .tup [.int a, .int b, .int c]] = .ret (.int (outw g a b c)) := by
  have e : tx.run (n + 1) 16 [.int g, .tup [.int a, .int b, .int c]] = runD (tx.pgm n) ⟨2, 3, b_outward_step⟩ [.int g, .tup [.int a, .int b, .int c]] := rfl
  have I := (ix3 (a := a) (b := b) (c := c) g0 g1).1
  have V := div2 g
  have M := mod2 g
  have OE := @o2_eq_int
  rw [outw]
  generalize onAx g a b c = w at *
  clear g0 g1
  rw [e, b_outward_step]
  by_cases h : g % 2 = 1 <;> walk_at "ax"
theorem ixN3 {f : Int} (f0 : 0 ≤ f) (f1 : f ≤ 5) : L2.ixN 3 (f / 2) = some (f / 2).toNat := by
  have : f = 0 ∨ f = 1 ∨ f = 2 ∨ f = 3 ∨ f = 4 ∨ f = 5 := by omega
  rcases this with rfl | rfl | rfl | rfl | rfl | rfl <;> rfl
end K04

set_option Elab.async false
set_option maxRecDepth 100000
set_option maxHeartbeats 4000000
set_option linter.all false
namespace K04
open PySem Ez Tr
local macro_rules | `(tactic| walk_at "ax") => `(tactic| simp [↓bind_T, ↓bindT_ret, ↓bindT_exn, ↓bindT_bad, ↓bindT_draw, ↓mapX_ret, ↓mapX_exn, ↓mapX_bad, ↓mapX_draw, ↓noX_ret, ↓noX_exn, ↓noX_bad, ↓noX_draw, ↓catch_T, ↓catT_ret, ↓catT_exn, ↓catT_bad, ↓catT_draw, ↓E_var, ↓ev_var, ↓E_lit, ↓ev_lit, ↓E_con, ↓ev_con, ↓E_fnv, ↓ev_fnv, ↓E_clv, ↓ev_clv, ↓E_op, ↓ev_op, ↓E_neg, ↓ev_neg, ↓E_and, ↓ev_and, ↓E_or, ↓ev_or, ↓E_not, ↓ev_not, ↓E_notT, ↓ev_notT, ↓E_isN, ↓ev_isN, ↓E_notN, ↓ev_notN, ↓E_tru, ↓ev_tru, ↓E_chain, ↓ev_chain, ↓E_ifx, ↓ev_ifx, ↓E_nil, ↓ev_nil, ↓E_cons, ↓ev_cons, ↓E_tup, ↓ev_tup, ↓E_lst, ↓ev_lst, ↓E_slc, ↓ev_slc, ↓E_nop, ↓ev_nop, ↓E_part, ↓ev_part, ↓E_call, ↓ev_call, ↓E_callV, ↓ev_callV, ↓E_take, ↓ev_take, ↓E_bi, ↓ev_bi, ↓E_isi, ↓ev_isi, ↓E_isi2, ↓ev_isi2, ↓E_isC, ↓ev_isC, ↓E_lc, ↓ev_lc, ↓E_yes, ↓ev_yes, ↓E_eqR, ↓ev_eqR, ↓E_xf, ↓ev_xf, ↓E_fld, ↓ev_fld, ↓E_lenO, ↓ev_lenO, ↓E_tupO, ↓ev_tupO, ↓E_ixO, ↓ev_ixO, ↓S_nop, ↓es_nop, ↓S_seq, ↓es_seq, ↓S_asg, ↓es_asg, ↓S_asgO, ↓es_asgO, ↓S_par, ↓es_par, ↓S_app, ↓es_app, ↓S_setO, ↓es_setO, ↓S_ret, ↓es_ret, ↓S_retN, ↓es_retN, ↓S_ite, ↓es_ite, ↓S_for, ↓es_for, ↓S_whl, ↓es_whl, ↓S_rse, ↓es_rse, ↓S_try, ↓es_try, ↓S_hnil, ↓S_hcons, ↓es_hcons, ↓S_drop, ↓es_drop, ↓S_keep, ↓es_keep, ↓S_brk, ↓es_brk, ↓S_cnt, ↓es_cnt, ↓at_, getV, getO, isiD, D.isNon, op2, o2_add, o2_sub, o2_lt, o2_le, o2_gt, o2_ge, o2_isB, o2_isnB, biD, bi_lenD, bi_absD, bi_intD, bi_listD, bi_tupleD, bi_gcd2D, bi_gcd3D, bi_min2D, bi_max2D, Fl.res, ↓runD, startD, toB, truD, optI, slcT, noExc, Sv.isExc, Fl.clr, Fl.off, Sv.clr, evalG, Tg.len, Tg.inn, wipeV, itemsOf, rngL, lcGo, forGo, pgm_call, pgm_con, pgm_fld, pgm_xf, pgm_sub, pgm_most, pgm_ok, scaV, dOf, EE.fresh, *])
theorem r_face_no (n : Nat) (x : D) (W : tx.run (n + 1) 0 [x, .int 0, .int 5] = .ret (.bl false)) : tx.run (n + 2) 2 [x] = .exn ⟨1, [x]⟩ := by
  have e : tx.run (n + 2) 2 [x] = runD (tx.pgm (n + 1)) ⟨1, 1, b_check_face⟩ [x] := rfl
  have X : tx.xf 1 = [Str.ofString "face"] := rfl
  rw [e, b_check_face]
  walk_at "ax"
end K04

set_option Elab.async false
set_option maxRecDepth 100000
set_option maxHeartbeats 4000000
set_option linter.all false
namespace K04
open PySem Ez Tr
local macro_rules | `(tactic| walk_at "ax") => `(tactic| simp [↓bind_T, ↓bindT_ret, ↓bindT_exn, ↓bindT_bad, ↓bindT_draw, ↓mapX_ret, ↓mapX_exn, ↓mapX_bad, ↓mapX_draw, ↓noX_ret, ↓noX_exn, ↓noX_bad, ↓noX_draw, ↓catch_T, ↓catT_ret, ↓catT_exn, ↓catT_bad, ↓catT_draw, ↓E_var, ↓ev_var, ↓E_lit, ↓ev_lit, ↓E_con, ↓ev_con, ↓E_fnv, ↓ev_fnv, ↓E_clv, ↓ev_clv, ↓E_op, ↓ev_op, ↓E_neg, ↓ev_neg, ↓E_and, ↓ev_and, ↓E_or, ↓ev_or, ↓E_not, ↓ev_not, ↓E_notT, ↓ev_notT, ↓E_isN, ↓ev_isN, ↓E_notN, ↓ev_notN, ↓E_tru, ↓ev_tru, ↓E_chain, ↓ev_chain, ↓E_ifx, ↓ev_ifx, ↓E_nil, ↓ev_nil, ↓E_cons, ↓ev_cons, ↓E_tup, ↓ev_tup, ↓E_lst, ↓ev_lst, ↓E_slc, ↓ev_slc, ↓E_nop, ↓ev_nop, ↓E_part, ↓ev_part, ↓E_call, ↓ev_call, ↓E_callV, ↓ev_callV, ↓E_take, ↓ev_take, ↓E_bi, ↓ev_bi, ↓E_isi, ↓ev_isi, ↓E_isi2, ↓ev_isi2, ↓E_isC, ↓ev_isC, ↓E_lc, ↓ev_lc, ↓E_yes, ↓ev_yes, ↓E_eqR, ↓ev_eqR, ↓E_xf, ↓ev_xf, ↓E_fld, ↓ev_fld, ↓E_lenO, ↓ev_lenO, ↓E_tupO, ↓ev_tupO, ↓E_ixO, ↓ev_ixO, ↓S_nop, ↓es_nop, ↓S_seq, ↓es_seq, ↓S_asg, ↓es_asg, ↓S_asgO, ↓es_asgO, ↓S_par, ↓es_par, ↓S_app, ↓es_app, ↓S_setO, ↓es_setO, ↓S_ret, ↓es_ret, ↓S_retN, ↓es_retN, ↓S_ite, ↓es_ite, ↓S_for, ↓es_for, ↓S_whl, ↓es_whl, ↓S_rse, ↓es_rse, ↓S_try, ↓es_try, ↓S_hnil, ↓S_hcons, ↓es_hcons, ↓S_drop, ↓es_drop, ↓S_keep, ↓es_keep, ↓S_brk, ↓es_brk, ↓S_cnt, ↓es_cnt, ↓at_, getV, getO, isiD, D.isNon, op2, o2_add, o2_sub, o2_lt, o2_le, o2_gt, o2_ge, o2_isB, o2_isnB, biD, bi_lenD, bi_absD, bi_intD, bi_listD, bi_tupleD, bi_gcd2D, bi_gcd3D, bi_min2D, bi_max2D, Fl.res, ↓runD, startD, toB, truD, optI, slcT, noExc, Sv.isExc, Fl.clr, Fl.off, Sv.clr, evalG, Tg.len, Tg.inn, wipeV, itemsOf, rngL, lcGo, forGo, pgm_call, pgm_con, pgm_fld, pgm_xf, pgm_sub, pgm_most, pgm_ok, scaV, dOf, EE.fresh, *])
def d3 (f x y : Int) : Int × Int × Int := match f with
  | 0 => (0, y, x) | 1 => (0, x, y) | 2 => (x, 0, y) | 3 => (y, 0, x) | 4 => (y, x, 0) | _ => (x, y, 0)
def dir (f x y : Int) : D := .tup [.int (d3 f x y).1, .int (d3 f x y).2.1, .int (d3 f x y).2.2]
theorem dir_facts {f : Int} (x y : Int) (f0 : 0 ≤ f) (f1 : f ≤ 5) : ax1 f (.int (d3 f x y).1) (.int (d3 f x y).2.1) (.int (d3 f x y).2.2) = .int x ∧ ax2 f (.int (d3 f x y).1) (.int (d3 f x y).2.1) (.int (d3 f x y).2.2) = .int y ∧ onAx f (d3 f x y).1 (d3 f x y).2.1 (d3 f x y).2.2 = 0 ∧ g3 (d3 f x y).1 (d3 f x y).2.1 (d3 f x y).2.2 = Int.gcd x y := by
  have : f = 0 ∨ f = 1 ∨ f = 2 ∨ f = 3 ∨ f = 4 ∨ f = 5 := by omega
  rcases this with rfl | rfl | rfl | rfl | rfl | rfl <;> refine ⟨rfl, rfl, rfl, ?_⟩ <;> simp [g3, d3, Int.gcd, Nat.gcd_comm]
theorem ixNa {f : Int} (f0 : 0 ≤ f) (f1 : f ≤ 5) : L2.ixN 3 (axL f).1 = some (axL f).1.toNat ∧ L2.ixN 3 (axL f).2 = some (axL f).2.toNat := by
  have : f = 0 ∨ f = 1 ∨ f = 2 ∨ f = 3 ∨ f = 4 ∨ f = 5 := by omega
  rcases this with rfl | rfl | rfl | rfl | rfl | rfl <;> exact ⟨rfl, rfl⟩
theorem set_dir {f : Int} (x y : Int) (f0 : 0 ≤ f) (f1 : f ≤ 5) : D.tup (([D.int 0, .int 0, .int 0].set (axL f).1.toNat (.int x)).set (axL f).2.toNat (.int y)) = dir f x y := by
  have : f = 0 ∨ f = 1 ∨ f = 2 ∨ f = 3 ∨ f = 4 ∨ f = 5 := by omega
  rcases this with rfl | rfl | rfl | rfl | rfl | rfl <;> rfl
theorem r_steps (n : Nat) (f x y : Int) (f0 : 0 ≤ f) (f1 : f ≤ 5) : tx.run (n + 2) 22 [.int f, .int x, .int y] = .ret (dir f x y) := by
  have e : tx.run (n + 2) 22 [.int f, .int x, .int y] = runD (tx.pgm (n + 1)) ⟨3, 5, b__law_steps⟩ [.int f, .int x, .int y] := rfl
  have A := r_laxes n f f0 f1
  obtain ⟨N1, N2⟩ := ixNa f0 f1
  have S := set_dir x y f0 f1
  have A0 : ∀ a b : D, o2_ix (.tup [a, b]) (.int 0) = .ret a := fun _ _ => rfl
  have A1 : ∀ a b : D, o2_ix (.tup [a, b]) (.int 1) = .ret b := fun _ _ => rfl
  rw [← S]
  clear S
  generalize (axL f).1 = p at *
  generalize (axL f).2 = q at *
  generalize p.toNat = i at *
  generalize q.toNat = j at *
  clear f0 f1
  rw [e, b__law_steps]
  walk_at "ax"
theorem r_unframed (n : Nat) (f x y : Int) (f0 : 0 ≤ f) (f1 : f ≤ 5) : tx.run (n + 4) 8 [.int f, .int x, .int y] = .ret (dir f x y) := by
  have e : tx.run (n + 4) 8 [.int f, .int x, .int y] = runD (tx.pgm (n + 3)) ⟨3, 5, b_unframed⟩ [.int f, .int x, .int y] := rfl
  have A := r_axes n f f0 f1
  obtain ⟨N1, N2⟩ := ixNa f0 f1
  have S := set_dir x y f0 f1
  have A0 : ∀ a b : D, o2_ix (.tup [a, b]) (.int 0) = .ret a := fun _ _ => rfl
  have A1 : ∀ a b : D, o2_ix (.tup [a, b]) (.int 1) = .ret b := fun _ _ => rfl
  rw [← S]
  clear S
  generalize (axL f).1 = p at *
  generalize (axL f).2 = q at *
  generalize p.toNat = i at *
  generalize q.toNat = j at *
  clear f0 f1
  rw [e, b_unframed]
  walk_at "ax"
end K04

set_option Elab.async false
set_option maxRecDepth 100000
set_option maxHeartbeats 4000000
set_option linter.all false
namespace K04
open PySem Ez Tr
local macro_rules | `(tactic| walk_at "ax") => `(tactic| simp [↓bind_T, ↓bindT_ret, ↓bindT_exn, ↓bindT_bad, ↓bindT_draw, ↓mapX_ret, ↓mapX_exn, ↓mapX_bad, ↓mapX_draw, ↓noX_ret, ↓noX_exn, ↓noX_bad, ↓noX_draw, ↓catch_T, ↓catT_ret, ↓catT_exn, ↓catT_bad, ↓catT_draw, ↓E_var, ↓ev_var, ↓E_lit, ↓ev_lit, ↓E_con, ↓ev_con, ↓E_fnv, ↓ev_fnv, ↓E_clv, ↓ev_clv, ↓E_op, ↓ev_op, ↓E_neg, ↓ev_neg, ↓E_and, ↓ev_and, ↓E_or, ↓ev_or, ↓E_not, ↓ev_not, ↓E_notT, ↓ev_notT, ↓E_isN, ↓ev_isN, ↓E_notN, ↓ev_notN, ↓E_tru, ↓ev_tru, ↓E_chain, ↓ev_chain, ↓E_ifx, ↓ev_ifx, ↓E_nil, ↓ev_nil, ↓E_cons, ↓ev_cons, ↓E_tup, ↓ev_tup, ↓E_lst, ↓ev_lst, ↓E_slc, ↓ev_slc, ↓E_nop, ↓ev_nop, ↓E_part, ↓ev_part, ↓E_call, ↓ev_call, ↓E_callV, ↓ev_callV, ↓E_take, ↓ev_take, ↓E_bi, ↓ev_bi, ↓E_isi, ↓ev_isi, ↓E_isi2, ↓ev_isi2, ↓E_isC, ↓ev_isC, ↓E_lc, ↓ev_lc, ↓E_yes, ↓ev_yes, ↓E_eqR, ↓ev_eqR, ↓E_xf, ↓ev_xf, ↓E_fld, ↓ev_fld, ↓E_lenO, ↓ev_lenO, ↓E_tupO, ↓ev_tupO, ↓E_ixO, ↓ev_ixO, ↓S_nop, ↓es_nop, ↓S_seq, ↓es_seq, ↓S_asg, ↓es_asg, ↓S_asgO, ↓es_asgO, ↓S_par, ↓es_par, ↓S_app, ↓es_app, ↓S_setO, ↓es_setO, ↓S_ret, ↓es_ret, ↓S_retN, ↓es_retN, ↓S_ite, ↓es_ite, ↓S_for, ↓es_for, ↓S_whl, ↓es_whl, ↓S_rse, ↓es_rse, ↓S_try, ↓es_try, ↓S_hnil, ↓S_hcons, ↓es_hcons, ↓S_drop, ↓es_drop, ↓S_keep, ↓es_keep, ↓S_brk, ↓es_brk, ↓S_cnt, ↓es_cnt, ↓at_, getV, getO, isiD, D.isNon, op2, o2_add, o2_sub, o2_lt, o2_le, o2_gt, o2_ge, o2_isB, o2_isnB, biD, bi_lenD, bi_absD, bi_intD, bi_listD, bi_tupleD, bi_gcd2D, bi_gcd3D, bi_min2D, Fl.res, ↓runD, startD, toB, truD, optI, slcT, noExc, Sv.isExc, Fl.clr, Fl.off, Sv.clr, evalG, Tg.len, Tg.inn, wipeV, itemsOf, rngL, lcGo, forGo, pgm_call, pgm_con, pgm_fld, pgm_xf, pgm_sub, pgm_most, pgm_ok, scaV, dOf, EE.fresh, *])
theorem gcd_dvd_l (a b : Int) : ((Int.gcd a b : Nat) : Int) ∣ a := Int.gcd_dvd_left a b
theorem gcd_dvd_r (a b : Int) : ((Int.gcd a b : Nat) : Int) ∣ b := Int.gcd_dvd_right a b
theorem rat_le1 {a b : Int} : (a / Int.gcd a b).natAbs ≤ a.natAbs := by
  obtain ⟨i, hi⟩ := gcd_dvd_l a b
  generalize ((Int.gcd a b : Nat) : Int) = G at *
  by_cases g : G = 0
  · subst g; simp
  · rw [hi, Int.mul_ediv_cancel_left _ g, Int.natAbs_mul]
    exact Nat.le_mul_of_pos_left _ (by omega)
theorem rat_le2 {a b : Int} : (b / Int.gcd a b).natAbs ≤ b.natAbs := by
  obtain ⟨i, hi⟩ := gcd_dvd_r a b
  generalize ((Int.gcd a b : Nat) : Int) = G at *
  by_cases g : G = 0
  · subst g; simp
  · rw [hi, Int.mul_ediv_cancel_left _ g, Int.natAbs_mul]
    exact Nat.le_mul_of_pos_left _ (by omega)
noncomputable abbrev d_i (n : Nat) : SS := firstS (rests b__law_drawn n)
noncomputable abbrev d_r (n : Nat) : SS := rests b__law_drawn n
theorem di0 (Γ : Pgm) (f : Int) : Goes Γ (d_i 0) (fun ρ => ∃ m : Int, (m = 10000 ∨ m = 6) ∧ ρ = [.dat .hand, .dat (.int f), .dat (.int m), .unk, .unk, .unk, .unk]) [.dat .hand, .dat (.int f), .unk, .unk, .unk, .unk, .unk] := by
  have OE := @o2_eq_int
  simp only [Goes, d_i, firstS, rests, b__law_drawn]
  walk_at "ax"
  refine All.drawI (by decide) (by decide) fun v v0 v1 => ?_
  by_cases e : v = 0
  · subst e; walk_at "ax"; exact ⟨_, rfl, Or.inl rfl⟩
  · walk_at "ax"; exact ⟨_, rfl, Or.inr rfl⟩
theorem di1 (Γ : Pgm) (f m : Int) (hm : m = 10000 ∨ m = 6) : Goes Γ (d_i 1) (fun ρ => ∃ p : Int, inR p ∧ ρ = [.dat .hand, .dat (.int f), .dat (.int m), .dat (.int p), .unk, .unk, .unk]) [.dat .hand, .dat (.int f), .dat (.int m), .unk, .unk, .unk, .unk] := by
  have M : o2_mul (.int 2) (.int m) = .ret (.int (2 * m)) := by rcases hm with rfl | rfl <;> rfl
  have b : 0 < 2 * m + 1 ∧ 2 * m + 1 ≤ 100000 ∧ m ≤ 10000 := by omega
  clear hm
  simp only [Goes, d_i, firstS, rests, b__law_drawn]
  walk_at "ax"
  exact All.drawI b.1 b.2.1 fun v v0 v1 => ⟨_, rfl, v - m, ⟨by omega, by omega⟩, rfl⟩
theorem di2 (Γ : Pgm) (f m p : Int) (hm : m = 10000 ∨ m = 6) : Goes Γ (d_i 2) (fun ρ => ∃ q : Int, inR q ∧ ρ = [.dat .hand, .dat (.int f), .dat (.int m), .dat (.int p), .dat (.int q), .unk, .unk]) [.dat .hand, .dat (.int f), .dat (.int m), .dat (.int p), .unk, .unk, .unk] := by
  have M : o2_mul (.int 2) (.int m) = .ret (.int (2 * m)) := by rcases hm with rfl | rfl <;> rfl
  have b : 0 < 2 * m + 1 ∧ 2 * m + 1 ≤ 100000 ∧ m ≤ 10000 := by omega
  clear hm
  simp only [Goes, d_i, firstS, rests, b__law_drawn]
  walk_at "ax"
  exact All.drawI b.1 b.2.1 fun v v0 v1 => ⟨_, rfl, v - m, ⟨by omega, by omega⟩, rfl⟩
theorem d3r (n : Nat) (f m p q : Int) (f0 : 0 ≤ f) (f1 : f ≤ 5) (hp : inR p) (hq : inR q) : All True (fun fl => ∃ d ρ', fl = .rt d ρ' ∧ ∃ x y : Int, inR x ∧ inR y ∧ Int.gcd x y = 1 ∧ d = dir f x y) (fun _ => False) (evalS (tx.pgm (n + 2)) (d_r 3) none [.dat .hand, .dat (.int f), .dat (.int m), .dat (.int p), .dat (.int q), .unk, .unk]) := by
  have C := r_common (n + 1) p q (Nat.lt_of_le_of_lt (show q.natAbs ≤ 10000 by have := hq.1; have := hq.2; omega) (by decide))
  have OE := @o2_eq_int
  by_cases g : Int.gcd p q = 0
  · have S : ∀ v : Int, tx.run (n + 2) 22 [.int f, .int 0, .int (1 - 2 * v)] = .ret (dir f 0 (1 - 2 * v)) := fun v => r_steps n f 0 (1 - 2 * v) f0 f1
    rw [g] at C
    have M : ∀ v : Int, 0 ≤ v → v < 2 → o2_mul (.int 2) (.int v) = .ret (.int (2 * v)) := by
      intro v v0 v1
      have : v = 0 ∨ v = 1 := by omega
      rcases this with rfl | rfl <;> rfl
    clear f0 f1 hp hq
    simp only [d_r, rests, b__law_drawn]
    walk_at "ax"
    refine All.drawI (by decide) (by decide) fun v v0 v1 => ?_
    have M := M v v0 v1
    walk_at "ax"
    refine ⟨_, ⟨_, rfl⟩, 0, ⟨by decide, by decide⟩, 1 - 2 * v, ⟨by omega, by omega⟩, ?_, rfl⟩
    have : v = 0 ∨ v = 1 := by omega
    rcases this with rfl | rfl <;> decide
  · have D1 : ∀ i : Int, o2_div (.int i) (.int (Int.gcd p q)) = .ret (.int (i / Int.gcd p q)) := by
      intro i
      have h : ((Int.gcd p q : Nat) : Int) ≠ 0 ∧ ((Int.gcd p q : Nat) : Int).natAbs.log2 < 9000 := by
        refine ⟨by omega, ?_⟩
        rw [Int.natAbs_natCast]
        have gl : Int.gcd p q ≤ 10000 := by
          by_cases z : p = 0
          · subst z
            rw [Int.gcd_zero_left]
            have := hq.1; have := hq.2; omega
          · have := Nat.le_of_dvd (by omega) (Nat.gcd_dvd_left p.natAbs q.natAbs)
            have := hp.1; have := hp.2
            have e : Int.gcd p q = Nat.gcd p.natAbs q.natAbs := rfl
            omega
        exact (Nat.log2_lt g).mpr (Nat.lt_of_le_of_lt gl (Nat.lt_of_lt_of_le (show 10000 < 2 ^ 14 by decide) (Nat.pow_le_pow_right (by decide) (by decide))))
      rw [o2_div, if_pos h, Int.fdiv_eq_ediv_of_nonneg _ (by omega)]
    have GM : bi_max2D [.int (Int.gcd p q), .int 1] = .ret (.int (Int.gcd p q)) := by
      have z : ¬ ((Int.gcd p q : Nat) : Int) < 1 := by omega
      have z' : ((Int.gcd p q : Nat) : Int) < 1 ↔ False := ⟨fun k => z k, fun k => k.elim⟩
      simp [bi_max2D, z, z']
      try omega
    have S := r_steps n f (p / Int.gcd p q) (q / Int.gcd p q) f0 f1
    have b1 : inR (p / Int.gcd p q) := by
      have := rat_le1 (a := p) (b := q); have := hp.1; have := hp.2
      constructor <;> omega
    have b2 : inR (q / Int.gcd p q) := by
      have := rat_le2 (a := p) (b := q); have := hq.1; have := hq.2
      constructor <;> omega
    have g1 : Int.gcd (p / Int.gcd p q) (q / Int.gcd p q) = 1 := Int.gcd_ediv_gcd_ediv_gcd (by omega)
    clear f0 f1 hp hq
    simp only [d_r, rests, b__law_drawn]
    walk_at "ax"
    exact ⟨_, ⟨_, rfl⟩, _, b1, _, b2, g1, rfl⟩
theorem r_drawn (n : Nat) (f : Int) (f0 : 0 ≤ f) (f1 : f ≤ 5) : All True (fun d => ∃ x y : Int, inR x ∧ inR y ∧ Int.gcd x y = 1 ∧ d = dir f x y) (fun _ => False) (tx.run (n + 3) 38 [.hand, .int f]) := by
  have e : tx.run (n + 3) 38 [.hand, .int f] = runD (tx.pgm (n + 2)) ⟨2, 7, b__law_drawn⟩ [.hand, .int f] := rfl
  rw [e]
  refine All.runD rfl ?_
  show All True _ _ (evalS (tx.pgm (n + 2)) (.seq (d_i 0) (.seq (d_i 1) (.seq (d_i 2) (d_r 3)))) none [.dat .hand, .dat (.int f), .unk, .unk, .unk, .unk, .unk])
  refine goes (di0 _ f) ?_
  rintro _ ⟨m, hm, rfl⟩
  refine goes (di1 _ f m hm) ?_
  rintro _ ⟨p, hp, rfl⟩
  refine goes (di2 _ f m p hm) ?_
  rintro _ ⟨q, hq, rfl⟩
  exact d3r n f m p q f0 f1 hp hq
end K04

set_option Elab.async false
set_option maxRecDepth 100000
set_option maxHeartbeats 4000000
set_option linter.all false
namespace K04
open PySem Ez Tr

section
variable {ε ε' ε'' α β γ : Type}
theorem bindT_bindT {t : Tr ε α} {f : α → Tr ε β} {x : Tag f} {g : β → Tr ε γ} {y : Tag g} : bindT (bindT t f x) g y = bindT t (fun a => bindT (f a) g y) ⟨⟩ := by
  show (t.bind f).bind g = _
  exact bind_bind
theorem mapX_bindT {t : Tr ε α} {f : α → Tr ε β} {x : Tag f} {h : ε → ε'} : mapX h (bindT t f x) = bindT (mapX h t) (fun a => mapX h (f a)) ⟨⟩ := by
  show mapX h (t.bind f) = (mapX h t).bind _
  induction t with
  | ret a => rfl
  | exn e => rfl
  | bad => rfl
  | draw m k ih => exact congrArg (Tr.draw m) (funext fun v => ih v)
theorem mapX_mapX {t : Tr ε α} {h : ε → ε'} {k : ε' → ε''} : mapX k (mapX h t) = mapX (fun e => k (h e)) t := by
  induction t with
  | ret a => rfl
  | exn e => rfl
  | bad => rfl
  | draw m q ih => exact congrArg (Tr.draw m) (funext fun v => ih v)
end
end K04

set_option Elab.async false
set_option maxRecDepth 100000
set_option maxHeartbeats 4000000
set_option linter.all false
namespace K04
open PySem Ez Tr
local macro_rules | `(tactic| walk_at "ax") => `(tactic| simp [↓bind_T, ↓bindT_ret, ↓bindT_exn, ↓bindT_bad, ↓bindT_draw, ↓mapX_ret, ↓mapX_exn, ↓mapX_bad, ↓mapX_draw, ↓noX_ret, ↓noX_exn, ↓noX_bad, ↓noX_draw, ↓catch_T, ↓catT_ret, ↓catT_exn, ↓catT_bad, ↓catT_draw, ↓E_var, ↓ev_var, ↓E_lit, ↓ev_lit, ↓E_con, ↓ev_con, ↓E_fnv, ↓ev_fnv, ↓E_clv, ↓ev_clv, ↓E_op, ↓ev_op, ↓E_neg, ↓ev_neg, ↓E_and, ↓ev_and, ↓E_or, ↓ev_or, ↓E_not, ↓ev_not, ↓E_notT, ↓ev_notT, ↓E_isN, ↓ev_isN, ↓E_notN, ↓ev_notN, ↓E_tru, ↓ev_tru, ↓E_chain, ↓ev_chain, ↓E_ifx, ↓ev_ifx, ↓E_nil, ↓ev_nil, ↓E_cons, ↓ev_cons, ↓E_tup, ↓ev_tup, ↓E_lst, ↓ev_lst, ↓E_slc, ↓ev_slc, ↓E_nop, ↓ev_nop, ↓E_part, ↓ev_part, ↓E_call, ↓ev_call, ↓E_callV, ↓ev_callV, ↓E_take, ↓ev_take, ↓E_bi, ↓ev_bi, ↓E_isi, ↓ev_isi, ↓E_isi2, ↓ev_isi2, ↓E_isC, ↓ev_isC, ↓E_lc, ↓ev_lc, ↓E_yes, ↓ev_yes, ↓E_eqR, ↓ev_eqR, ↓E_xf, ↓ev_xf, ↓E_fld, ↓ev_fld, ↓E_lenO, ↓ev_lenO, ↓E_tupO, ↓ev_tupO, ↓E_ixO, ↓ev_ixO, ↓S_nop, ↓es_nop, ↓S_seq, ↓es_seq, ↓S_asg, ↓es_asg, ↓S_asgO, ↓es_asgO, ↓S_par, ↓es_par, ↓S_app, ↓es_app, ↓S_setO, ↓es_setO, ↓S_ret, ↓es_ret, ↓S_retN, ↓es_retN, ↓S_ite, ↓es_ite, ↓S_for, ↓es_for, ↓S_whl, ↓es_whl, ↓S_rse, ↓es_rse, ↓S_try, ↓es_try, ↓S_hnil, ↓S_hcons, ↓es_hcons, ↓S_drop, ↓es_drop, ↓S_keep, ↓es_keep, ↓S_brk, ↓es_brk, ↓S_cnt, ↓es_cnt, ↓at_, getV, getO, isiD, D.isNon, op2, o2_add, o2_sub, o2_lt, o2_le, o2_gt, o2_ge, o2_isB, o2_isnB, biD, bi_lenD, bi_absD, bi_intD, bi_listD, bi_tupleD, bi_gcd2D, bi_gcd3D, bi_min2D, bi_max2D, Fl.res, ↓runD, startD, toB, truD, optI, slcT, noExc, Sv.isExc, Fl.clr, Fl.off, Sv.clr, evalG, Tg.len, Tg.inn, wipeV, itemsOf, rngL, lcGo, forGo, pgm_call, pgm_con, pgm_fld, pgm_xf, pgm_sub, pgm_most, pgm_ok, scaV, dOf, EE.fresh, ix_t10, ix_t20, ix_t21, ix_t30, ix_t31, ix_t32, ix_l10, ix_l20, ix_l21, ix_l30, ix_l31, ix_l32, @o2_eq_int, @o2_ne_int, *])
abbrev rt (u v : Int) : D := .tup [.int u, .int v]
def c3 (u : Int → Int) : List D := [.int (u 0), .int (u 1), .int (u 2)]
def fA (f : Int) : Int := (axL f).1
def fB (f : Int) : Int := (axL f).2
theorem fAB {f : Int} (f0 : 0 ≤ f) (f1 : f ≤ 5) : fA f = 2 ∧ fB f = 1 ∨ fA f = 1 ∧ fB f = 2 ∨ fA f = 0 ∧ fB f = 2 ∨ fA f = 2 ∧ fB f = 0 ∨ fA f = 1 ∧ fB f = 0 ∨ fA f = 0 ∧ fB f = 1 := by
  have : f = 0 ∨ f = 1 ∨ f = 2 ∨ f = 3 ∨ f = 4 ∨ f = 5 := by omega
  rcases this with rfl | rfl | rfl | rfl | rfl | rfl <;> decide
theorem ax_c3 {f : Int} (u : Int → Int) (f0 : 0 ≤ f) (f1 : f ≤ 5) : ax1 f (.int (u 0)) (.int (u 1)) (.int (u 2)) = .int (u (fA f)) ∧ ax2 f (.int (u 0)) (.int (u 1)) (.int (u 2)) = .int (u (fB f)) := by
  have : f = 0 ∨ f = 1 ∨ f = 2 ∨ f = 3 ∨ f = 4 ∨ f = 5 := by omega
  rcases this with rfl | rfl | rfl | rfl | rfl | rfl <;> exact ⟨rfl, rfl⟩
def dr (f x y : Int) : Int → Int := fun k => if k = fA f then x else if k = fB f then y else 0
theorem dir_c3 {f : Int} (x y : Int) (f0 : 0 ≤ f) (f1 : f ≤ 5) : dir f x y = .tup (c3 (dr f x y)) ∧ dr f x y (fA f) = x ∧ dr f x y (fB f) = y ∧ d3 f x y = (dr f x y 0, dr f x y 1, dr f x y 2) := by
  have : f = 0 ∨ f = 1 ∨ f = 2 ∨ f = 3 ∨ f = 4 ∨ f = 5 := by omega
  rcases this with rfl | rfl | rfl | rfl | rfl | rfl <;> refine ⟨rfl, ?_, ?_, rfl⟩ <;> rfl
theorem f_dir (n : Nat) (f : Int) (s : Int → Int) (f0 : 0 ≤ f) (f1 : f ≤ 5) : tx.run (n + 4) 4 [.int f, .tup (c3 s)] = .ret (.tup [.int (s (fA f)), .int (s (fB f))]) ∧ tx.run (n + 4) 4 [.int f, .lst (c3 s)] = .ret (.tup [.int (s (fA f)), .int (s (fB f))]) := by
  obtain ⟨a1, a2⟩ := ax_c3 s f0 f1
  have F := r_framed n f (.int (s 0)) (.int (s 1)) (.int (s 2)) f0 f1 (by rw [a1]; rfl) (by rw [a2]; rfl)
  rw [a1, a2] at F
  exact F
theorem ix_c3 {f : Int} (s : Int → Int) (f0 : 0 ≤ f) (f1 : f ≤ 5) : o2_ix (.tup (c3 s)) (.int (axL f).1) = .ret (.int (s (fA f))) ∧ o2_ix (.tup (c3 s)) (.int (axL f).2) = .ret (.int (s (fB f))) := by
  have : f = 0 ∨ f = 1 ∨ f = 2 ∨ f = 3 ∨ f = 4 ∨ f = 5 := by omega
  rcases this with rfl | rfl | rfl | rfl | rfl | rfl <;> exact ⟨rfl, rfl⟩
theorem dirIn {f x y : Int} (hx : inR x) (hy : inR y) (k : Int) : inR (dr f x y k) := by
  unfold dr
  split
  · exact hx
  · split
    · exact hy
    · exact ⟨by decide, by decide⟩
theorem c_dir (n : Nat) (f x y : Int) (f0 : 0 ≤ f) (f1 : f ≤ 5) (hx : inR x) (hy : inR y) (g : Int.gcd x y = 1) : tx.run (n + 3) 7 [.int f, .tup (c3 (dr f x y))] = .ret (.tup (c3 (dr f x y))) ∧ tx.run (n + 3) 7 [.int f, .lst (c3 (dr f x y))] = .ret (.tup (c3 (dr f x y))) := by
  obtain ⟨_, _, e3, e4⟩ := dir_facts x y f0 f1
  obtain ⟨_, _, _, ed⟩ := dir_c3 x y f0 f1
  rw [ed] at e3 e4
  rw [g] at e4
  exact r_dir n f _ _ _ f0 f1 (dirIn hx hy 0) (dirIn hx hy 1) (dirIn hx hy 2) e3 e4
theorem r_left (n : Nat) (f x y : Int) (f0 : 0 ≤ f) (f1 : f ≤ 5) (hx : inR x) (hy : inR y) (g : Int.gcd x y = 1) : tx.run (n + 5) 15 [.int f, .tup (c3 (dr f x y))] = .ret (.tup (c3 (dr f (-y) x))) := by
  have C := (c_dir (n + 1) f x y f0 f1 hx hy g).1
  have F := (f_dir n f (dr f x y) f0 f1).1
  obtain ⟨_, ea, eb, _⟩ := dir_c3 x y f0 f1
  rw [ea, eb] at F
  have U := r_unframed n f (-y) x f0 f1
  rw [(dir_c3 (-y) x f0 f1).1] at U
  generalize c3 (dr f x y) = l at *
  generalize c3 (dr f (-y) x) = l' at *
  clear f0 f1 hx hy g ea eb
  have e_left_of : tx.run (n + 5) 15 [.int f, .tup l] = runD (tx.pgm ((n + 4))) ⟨2, 4, b_left_of⟩ [.int f, .tup l] := rfl
  rw [e_left_of, b_left_of]; clear e_left_of
  walk_at "ax"
theorem tup_int (n : Nat) (a : Int) : tx.run (n + 1) 25 [.int a] = .ret (.bl true) := by
  have e__law_tuples : tx.run (n + 1) 25 [.int a] = runD (tx.pgm (n)) ⟨1, 2, b__law_tuples⟩ [.int a] := rfl
  rw [e__law_tuples, b__law_tuples]; clear e__law_tuples
  walk_at "ax"
theorem tup2 (n : Nat) (a b : Int) : tx.run (n + 2) 25 [.tup [.int a, .int b]] = .ret (.bl true) := by
  have A := tup_int n
  have e__law_tuples : tx.run (n + 2) 25 [.tup [.int a, .int b]] = runD (tx.pgm ((n + 1))) ⟨1, 2, b__law_tuples⟩ [.tup [.int a, .int b]] := rfl
  rw [e__law_tuples, b__law_tuples]; clear e__law_tuples
  walk_at "ax"
theorem inR_neg {x : Int} (h : inR x) : inR (-x) := ⟨by have := h.2; omega, by have := h.1; omega⟩
def six (f : Int) : Prop := f = 0 ∨ f = 1 ∨ f = 2 ∨ f = 3 ∨ f = 4 ∨ f = 5
theorem six_of {f : Int} (f0 : 0 ≤ f) (f1 : f ≤ 5) : six f := by unfold six; omega
def sl (x y : Int) : Int × Int := if 1 ≤ x ∧ 0 ≤ y then (x, y) else if 1 ≤ -y ∧ 0 ≤ x then (-y, x) else if 1 ≤ -x ∧ 0 ≤ -y then (-x, -y) else (y, -x)
theorem qt (n : Nat) (x y : Int) : tx.run (n + 1) 9 [.int x, .int y] = .ret (.tup [.tup [.int x, .int y], .tup [.int (-y), .int x], .tup [.int (-x), .int (-y)], .tup [.int y, .int (-x)]]) := by
  have e_quarter_turns : tx.run (n + 1) 9 [.int x, .int y] = runD (tx.pgm (n)) ⟨2, 2, b_quarter_turns⟩ [.int x, .int y] := rfl
  rw [e_quarter_turns, b_quarter_turns]; clear e_quarter_turns
  walk_at "ax"
theorem r_slope_on (n : Nat) (f x y : Int) (d : D) (h : x ≠ 0 ∨ y ≠ 0) (F : tx.run (n + 4) 4 [.int f, d] = .ret (.tup [.int x, .int y])) : tx.run (n + 5) 12 [.int f, d] = .ret (rt (sl x y).1 (sl x y).2) := by
  have Q := qt (n + 3) x y
  have e_slope_on : tx.run (n + 5) 12 [.int f, d] = runD (tx.pgm ((n + 4))) ⟨2, 6, b_slope_on⟩ [.int f, d] := rfl
  rw [e_slope_on, b_slope_on]; clear e_slope_on
  unfold sl
  have px : x < 0 ∨ x = 0 ∨ 0 < x := by omega
  have py : y < 0 ∨ y = 0 ∨ 0 < y := by omega
  have lem : ∀ z : Int, (z < 0 → ¬ 1 ≤ z ∧ ¬ 0 ≤ z ∧ z ≤ 0 ∧ 1 ≤ -z ∧ z ≤ -1 ∧ 0 ≤ -z ∧ z + 1 ≤ 0) ∧ (0 < z → 1 ≤ z ∧ 0 ≤ z ∧ ¬ z ≤ 0 ∧ ¬ 1 ≤ -z ∧ ¬ z ≤ -1 ∧ ¬ 0 ≤ -z ∧ ¬ z + 1 ≤ 0) := by intro z; omega
  rcases px with px | px | px <;> rcases py with py | py | py
  · obtain ⟨a1, a2, a3, a4, a5, a6, a7⟩ := (lem x).1 px; obtain ⟨b1, b2, b3, b4, b5, b6, b7⟩ := (lem y).1 py; clear lem px py; walk_at "ax"
  · obtain ⟨a1, a2, a3, a4, a5, a6, a7⟩ := (lem x).1 px; subst py; clear lem px h; walk_at "ax"
  · obtain ⟨a1, a2, a3, a4, a5, a6, a7⟩ := (lem x).1 px; obtain ⟨b1, b2, b3, b4, b5, b6, b7⟩ := (lem y).2 py; clear lem px py; walk_at "ax"
  · subst px; obtain ⟨b1, b2, b3, b4, b5, b6, b7⟩ := (lem y).1 py; clear lem py h; walk_at "ax"
  · exfalso; omega
  · subst px; obtain ⟨b1, b2, b3, b4, b5, b6, b7⟩ := (lem y).2 py; clear lem py h; walk_at "ax"
  · obtain ⟨a1, a2, a3, a4, a5, a6, a7⟩ := (lem x).2 px; obtain ⟨b1, b2, b3, b4, b5, b6, b7⟩ := (lem y).1 py; clear lem px py; walk_at "ax"
  · obtain ⟨a1, a2, a3, a4, a5, a6, a7⟩ := (lem x).2 px; subst py; clear lem px h; walk_at "ax"
  · obtain ⟨a1, a2, a3, a4, a5, a6, a7⟩ := (lem x).2 px; obtain ⟨b1, b2, b3, b4, b5, b6, b7⟩ := (lem y).2 py; clear lem px py; walk_at "ax"
theorem r_slope (n : Nat) (f x y : Int) (f0 : 0 ≤ f) (f1 : f ≤ 5) (hx : inR x) (hy : inR y) (g : Int.gcd x y = 1) : tx.run (n + 6) 11 [.int f, .tup (c3 (dr f x y))] = .ret (rt (sl x y).1 (sl x y).2) := by
  have C := (c_dir (n + 2) f x y f0 f1 hx hy g).1
  have F := (f_dir n f (dr f x y) f0 f1).1
  obtain ⟨_, ea, eb, _⟩ := dir_c3 x y f0 f1
  rw [ea, eb] at F
  have h : x ≠ 0 ∨ y ≠ 0 := by
    by_cases e : x = 0
    · right
      intro e'
      subst e e'
      simp at g
    · exact .inl e
  have S := r_slope_on n f x y (.tup (c3 (dr f x y))) h F
  generalize c3 (dr f x y) = l at *
  clear f0 f1 hx hy g ea eb h F
  have e_slope_of : tx.run (n + 6) 11 [.int f, .tup l] = runD (tx.pgm ((n + 5))) ⟨2, 2, b_slope_of⟩ [.int f, .tup l] := rfl
  rw [e_slope_of, b_slope_of]; clear e_slope_of
  walk_at "ax"
theorem r_rev (n : Nat) (s : Int → Int) : tx.run (n + 1) 13 [.tup (c3 s)] = .ret (.tup (c3 fun k => -s k)) := by
  have e1 : c3 s = [.int (s 0), .int (s 1), .int (s 2)] := rfl
  have e2 : (c3 fun k => -s k) = [.int (-s 0), .int (-s 1), .int (-s 2)] := rfl
  rw [e1, e2]
  have e_reversed_direction : tx.run (n + 1) 13 [.tup [.int (s 0), .int (s 1), .int (s 2)]] = runD (tx.pgm (n)) ⟨1, 2, b_reversed_direction⟩ [.tup [.int (s 0), .int (s 1), .int (s 2)]] := rfl
  rw [e_reversed_direction, b_reversed_direction]; clear e_reversed_direction
  walk_at "ax"
theorem dr_neg (f x y : Int) : (fun k => -dr f x y k) = dr f (-x) (-y) := by
  funext k
  unfold dr
  split
  · rfl
  · split
    · rfl
    · rfl
theorem r_back (n : Nat) (f x y : Int) (f0 : 0 ≤ f) (f1 : f ≤ 5) (hx : inR x) (hy : inR y) (g : Int.gcd x y = 1) : tx.run (n + 4) 14 [.int f, .tup (c3 (dr f x y))] = .ret (.tup (c3 (dr f (-x) (-y)))) := by
  have C := (c_dir n f x y f0 f1 hx hy g).1
  have R := r_rev (n + 2) (dr f x y)
  rw [dr_neg] at R
  generalize c3 (dr f x y) = l at *
  generalize c3 (dr f (-x) (-y)) = l' at *
  clear f0 f1 hx hy g
  have e_back_of : tx.run (n + 4) 14 [.int f, .tup l] = runD (tx.pgm ((n + 3))) ⟨2, 2, b_back_of⟩ [.int f, .tup l] := rfl
  rw [e_back_of, b_back_of]; clear e_back_of
  walk_at "ax"
end K04

set_option Elab.async false
set_option maxRecDepth 100000
set_option maxHeartbeats 4000000
set_option linter.all false
namespace K04
open PySem Ez Tr
local macro_rules | `(tactic| walk_at "ax") => `(tactic| simp [↓bind_T, ↓bindT_ret, ↓bindT_exn, ↓bindT_bad, ↓bindT_draw, ↓mapX_ret, ↓mapX_exn, ↓mapX_bad, ↓mapX_draw, ↓noX_ret, ↓noX_exn, ↓noX_bad, ↓noX_draw, ↓catch_T, ↓catT_ret, ↓catT_exn, ↓catT_bad, ↓catT_draw, ↓E_var, ↓ev_var, ↓E_lit, ↓ev_lit, ↓E_con, ↓ev_con, ↓E_fnv, ↓ev_fnv, ↓E_clv, ↓ev_clv, ↓E_op, ↓ev_op, ↓E_neg, ↓ev_neg, ↓E_and, ↓ev_and, ↓E_or, ↓ev_or, ↓E_not, ↓ev_not, ↓E_notT, ↓ev_notT, ↓E_isN, ↓ev_isN, ↓E_notN, ↓ev_notN, ↓E_tru, ↓ev_tru, ↓E_chain, ↓ev_chain, ↓E_ifx, ↓ev_ifx, ↓E_nil, ↓ev_nil, ↓E_cons, ↓ev_cons, ↓E_tup, ↓ev_tup, ↓E_lst, ↓ev_lst, ↓E_slc, ↓ev_slc, ↓E_nop, ↓ev_nop, ↓E_part, ↓ev_part, ↓E_call, ↓ev_call, ↓E_callV, ↓ev_callV, ↓E_take, ↓ev_take, ↓E_bi, ↓ev_bi, ↓E_isi, ↓ev_isi, ↓E_isi2, ↓ev_isi2, ↓E_isC, ↓ev_isC, ↓E_lc, ↓ev_lc, ↓E_yes, ↓ev_yes, ↓E_eqR, ↓ev_eqR, ↓E_xf, ↓ev_xf, ↓E_fld, ↓ev_fld, ↓E_lenO, ↓ev_lenO, ↓E_tupO, ↓ev_tupO, ↓E_ixO, ↓ev_ixO, ↓S_nop, ↓es_nop, ↓S_seq, ↓es_seq, ↓S_asg, ↓es_asg, ↓S_asgO, ↓es_asgO, ↓S_par, ↓es_par, ↓S_app, ↓es_app, ↓S_setO, ↓es_setO, ↓S_ret, ↓es_ret, ↓S_retN, ↓es_retN, ↓S_ite, ↓es_ite, ↓S_for, ↓es_for, ↓S_whl, ↓es_whl, ↓S_rse, ↓es_rse, ↓S_try, ↓es_try, ↓S_hnil, ↓S_hcons, ↓es_hcons, ↓S_drop, ↓es_drop, ↓S_keep, ↓es_keep, ↓S_brk, ↓es_brk, ↓S_cnt, ↓es_cnt, ↓at_, getV, getO, isiD, D.isNon, op2, o2_add, o2_sub, o2_lt, o2_le, o2_gt, o2_ge, o2_isB, o2_isnB, biD, bi_lenD, bi_absD, bi_intD, bi_listD, bi_tupleD, bi_gcd2D, bi_gcd3D, bi_min2D, bi_max2D, Fl.res, ↓runD, startD, toB, truD, optI, slcT, noExc, Sv.isExc, Fl.clr, Fl.off, Sv.clr, evalG, Tg.len, Tg.inn, wipeV, itemsOf, rngL, lcGo, forGo, pgm_call, pgm_con, pgm_fld, pgm_xf, pgm_sub, pgm_most, pgm_ok, scaV, dOf, EE.fresh, ix_t10, ix_t20, ix_t21, ix_t30, ix_t31, ix_t32, ix_l10, ix_l20, ix_l21, ix_l30, ix_l31, ix_l32, @o2_eq_int, @o2_ne_int, *])
local macro_rules | `(tactic| walk_at "ev") => `(tactic| simp [↓bind_T, ↓bindT_ret, ↓bindT_exn, ↓bindT_bad, ↓bindT_draw, ↓mapX_ret, ↓mapX_exn, ↓mapX_bad, ↓mapX_draw, ↓noX_ret, ↓noX_exn, ↓noX_bad, ↓noX_draw, ↓catch_T, ↓catT_ret, ↓catT_exn, ↓catT_bad, ↓catT_draw, ↓E_var, ↓ev_var, ↓E_lit, ↓ev_lit, ↓E_con, ↓ev_con, ↓E_fnv, ↓ev_fnv, ↓E_clv, ↓ev_clv, ↓E_op, ↓ev_op, ↓E_neg, ↓ev_neg, ↓E_and, ↓ev_and, ↓E_or, ↓ev_or, ↓E_not, ↓ev_not, ↓E_notT, ↓ev_notT, ↓E_isN, ↓ev_isN, ↓E_notN, ↓ev_notN, ↓E_tru, ↓ev_tru, ↓E_chain, ↓ev_chain, ↓E_ifx, ↓ev_ifx, ↓E_nil, ↓ev_nil, ↓E_cons, ↓ev_cons, ↓E_tup, ↓ev_tup, ↓E_lst, ↓ev_lst, ↓E_slc, ↓ev_slc, ↓E_nop, ↓ev_nop, ↓E_part, ↓ev_part, ↓E_call, ↓ev_call, ↓E_callV, ↓ev_callV, ↓E_take, ↓ev_take, ↓E_bi, ↓ev_bi, ↓E_isi, ↓ev_isi, ↓E_isi2, ↓ev_isi2, ↓E_isC, ↓ev_isC, ↓E_lc, ↓ev_lc, ↓E_yes, ↓ev_yes, ↓E_eqR, ↓ev_eqR, ↓E_xf, ↓ev_xf, ↓E_fld, ↓ev_fld, ↓E_lenO, ↓ev_lenO, ↓E_tupO, ↓ev_tupO, ↓E_ixO, ↓ev_ixO, ↓S_nop, ↓es_nop, ↓S_seq, ↓es_seq, ↓S_asg, ↓es_asg, ↓S_asgO, ↓es_asgO, ↓S_par, ↓es_par, ↓S_app, ↓es_app, ↓S_setO, ↓es_setO, ↓S_ret, ↓es_ret, ↓S_retN, ↓es_retN, ↓S_ite, ↓es_ite, ↓S_for, ↓es_for, ↓S_whl, ↓es_whl, ↓S_rse, ↓es_rse, ↓S_try, ↓es_try, ↓S_hnil, ↓S_hcons, ↓es_hcons, ↓S_drop, ↓es_drop, ↓S_keep, ↓es_keep, ↓S_brk, ↓es_brk, ↓S_cnt, ↓es_cnt, ↓at_, getV, getO, isiD, D.isNon, op2, o2_add, o2_sub, o2_lt, o2_le, o2_gt, o2_ge, o2_isB, o2_isnB, biD, bi_lenD, bi_absD, bi_intD, bi_listD, bi_tupleD, bi_gcd2D, bi_gcd3D, bi_min2D, bi_max2D, Fl.res, ↓runD, startD, toB, truD, optI, slcT, noExc, Sv.isExc, Fl.clr, Fl.off, Sv.clr, evalG, Tg.len, Tg.inn, wipeV, itemsOf, rngL, lcGo, forGo, pgm_call, pgm_con, pgm_fld, pgm_xf, pgm_sub, pgm_most, pgm_ok, scaV, dOf, ix_t10, ix_t20, ix_t21, ix_t30, ix_t31, ix_t32, ix_l10, ix_l20, ix_l21, ix_l30, ix_l31, ix_l32, @o2_eq_int, @o2_ne_int, o2_div, o2_mod, o2_mul, o2_ix, *])
/-! things that are no directions -/
def wh : D → Bool
  | .int x => decide (-10000 ≤ x) && decide (x ≤ 10000)
  | _ => false
structure Ent (d : D) : Prop where
  w : ∀ n, tx.run (n + 1) 0 [d, .int (-10000), .int 10000] = .ret (.bl (wh d))
  l : ∀ n, tx.run (n + 1) 28 [d, .int (-10000), .int 10000] = .ret (.bl (wh d))
theorem ent_int (x : Int) : Ent (.int x) := ⟨fun n => r_whole n x _ _, fun n => by
  show _ = Tr.ret (D.bl (decide (-10000 ≤ x) && decide (x ≤ 10000)))
  have e__law_whole : tx.run (n + 1) 28 [.int x, .int (-10000), .int 10000] = runD (tx.pgm (n)) ⟨3, 3, b__law_whole⟩ [.int x, .int (-10000), .int 10000] := rfl
  rw [e__law_whole, b__law_whole]; clear e__law_whole
  by_cases h : -10000 ≤ x
  · by_cases h' : x ≤ 10000 <;> walk_at "ev"
  · walk_at "ev"⟩
theorem ent_bl (b : Bool) : Ent (.bl b) := ⟨fun n => by
  have e_is_whole : tx.run (n + 1) 0 [.bl b, .int (-10000), .int 10000] = runD (tx.pgm (n)) ⟨3, 3, b_is_whole⟩ [.bl b, .int (-10000), .int 10000] := rfl
  rw [e_is_whole, b_is_whole]; clear e_is_whole
  walk_at "ev"
  try rfl, fun n => by
  have e__law_whole : tx.run (n + 1) 28 [.bl b, .int (-10000), .int 10000] = runD (tx.pgm (n)) ⟨3, 3, b__law_whole⟩ [.bl b, .int (-10000), .int 10000] := rfl
  rw [e__law_whole, b__law_whole]; clear e__law_whole
  walk_at "ev"
  try rfl⟩
theorem ent_non : Ent .non := ⟨fun n => by
  have e_is_whole : tx.run (n + 1) 0 [.non, .int (-10000), .int 10000] = runD (tx.pgm (n)) ⟨3, 3, b_is_whole⟩ [.non, .int (-10000), .int 10000] := rfl
  rw [e_is_whole, b_is_whole]; clear e_is_whole
  walk_at "ev"
  try rfl, fun n => by
  have e__law_whole : tx.run (n + 1) 28 [.non, .int (-10000), .int 10000] = runD (tx.pgm (n)) ⟨3, 3, b__law_whole⟩ [.non, .int (-10000), .int 10000] := rfl
  rw [e__law_whole, b__law_whole]; clear e__law_whole
  walk_at "ev"
  try rfl⟩
theorem ent_str (s : Str) : Ent (.str s) := ⟨fun n => by
  have e_is_whole : tx.run (n + 1) 0 [.str s, .int (-10000), .int 10000] = runD (tx.pgm (n)) ⟨3, 3, b_is_whole⟩ [.str s, .int (-10000), .int 10000] := rfl
  rw [e_is_whole, b_is_whole]; clear e_is_whole
  walk_at "ev"
  try rfl, fun n => by
  have e__law_whole : tx.run (n + 1) 28 [.str s, .int (-10000), .int 10000] = runD (tx.pgm (n)) ⟨3, 3, b__law_whole⟩ [.str s, .int (-10000), .int 10000] := rfl
  rw [e__law_whole, b__law_whole]; clear e__law_whole
  walk_at "ev"
  try rfl⟩
theorem ent_tup (l : List D) : Ent (.tup l) := ⟨fun n => by
  have e_is_whole : tx.run (n + 1) 0 [.tup l, .int (-10000), .int 10000] = runD (tx.pgm (n)) ⟨3, 3, b_is_whole⟩ [.tup l, .int (-10000), .int 10000] := rfl
  rw [e_is_whole, b_is_whole]; clear e_is_whole
  walk_at "ev"
  try rfl, fun n => by
  have e__law_whole : tx.run (n + 1) 28 [.tup l, .int (-10000), .int 10000] = runD (tx.pgm (n)) ⟨3, 3, b__law_whole⟩ [.tup l, .int (-10000), .int 10000] := rfl
  rw [e__law_whole, b__law_whole]; clear e__law_whole
  walk_at "ev"
  try rfl⟩
theorem r_seqD (n : Nat) (a b c : D) : tx.run (n + 1) 1 [.tup [a, b, c], .int 3, .int 3] = .ret (.bl true) ∧ tx.run (n + 1) 1 [.lst [a, b, c], .int 3, .int 3] = .ret (.bl true) := by
  constructor
  · have e_is_sequence : tx.run (n + 1) 1 [.tup [a, b, c], .int 3, .int 3] = runD (tx.pgm (n)) ⟨3, 3, b_is_sequence⟩ [.tup [a, b, c], .int 3, .int 3] := rfl
    rw [e_is_sequence, b_is_sequence]; clear e_is_sequence
    walk_at "ev"
  · have e_is_sequence : tx.run (n + 1) 1 [.lst [a, b, c], .int 3, .int 3] = runD (tx.pgm (n)) ⟨3, 3, b_is_sequence⟩ [.lst [a, b, c], .int 3, .int 3] := rfl
    rw [e_is_sequence, b_is_sequence]; clear e_is_sequence
    walk_at "ev"
abbrev kind : D := .str (Str.ofString "kind")
theorem r_kind (n : Nat) (f : Int) (a b c : D) (f0 : 0 ≤ f) (f1 : f ≤ 5) (Ea : Ent a) (Eb : Ent b) (Ec : Ent c) (h : (wh a && wh b && wh c) = false) : tx.run (n + 3) 7 [.int f, .tup [a, b, c]] = .exn ⟨3, [kind]⟩ ∧ tx.run (n + 3) 7 [.int f, .lst [a, b, c]] = .exn ⟨3, [kind]⟩ := by
  have F := r_face n f f0 f1
  have X : tx.xf 3 = [Str.ofString "what"] := rfl
  obtain ⟨S1, S2⟩ := r_seqD (n + 1) a b c
  have W1 := Ea.w (n + 1)
  have W2 := Eb.w (n + 1)
  have W3 := Ec.w (n + 1)
  clear Ea Eb Ec f0 f1
  generalize wh a = p at *
  generalize wh b = q at *
  generalize wh c = r at *
  constructor
  · have e_check_direction : tx.run (n + 3) 7 [.int f, .tup [a, b, c]] = runD (tx.pgm ((n + 2))) ⟨2, 4, b_check_direction⟩ [.int f, .tup [a, b, c]] := rfl
    rw [e_check_direction, b_check_direction]; clear e_check_direction
    cases p <;> cases q <;> cases r <;> first | exact Bool.noConfusion h | (clear h; walk_at "ax")
  · have e_check_direction : tx.run (n + 3) 7 [.int f, .lst [a, b, c]] = runD (tx.pgm ((n + 2))) ⟨2, 4, b_check_direction⟩ [.int f, .lst [a, b, c]] := rfl
    rw [e_check_direction, b_check_direction]; clear e_check_direction
    cases p <;> cases q <;> cases r <;> first | exact Bool.noConfusion h | (clear h; walk_at "ax")
theorem l_kind (n : Nat) (f : Int) (a b c : D) (Ea : Ent a) (Eb : Ent b) (Ec : Ent c) (h : (wh a && wh b && wh c) = false) : tx.run (n + 2) 37 [.int f, .tup [a, b, c]] = .ret kind ∧ tx.run (n + 2) 37 [.int f, .lst [a, b, c]] = .ret kind := by
  have W1 := Ea.l n
  have W2 := Eb.l n
  have W3 := Ec.l n
  clear Ea Eb Ec
  generalize wh a = p at *
  generalize wh b = q at *
  generalize wh c = r at *
  constructor
  · have e__law_word : tx.run (n + 2) 37 [.int f, .tup [a, b, c]] = runD (tx.pgm ((n + 1))) ⟨2, 4, b__law_word⟩ [.int f, .tup [a, b, c]] := rfl
    rw [e__law_word, b__law_word]; clear e__law_word
    cases p <;> cases q <;> cases r <;> first | exact Bool.noConfusion h | (clear h; walk_at "ax")
  · have e__law_word : tx.run (n + 2) 37 [.int f, .lst [a, b, c]] = runD (tx.pgm ((n + 1))) ⟨2, 4, b__law_word⟩ [.int f, .lst [a, b, c]] := rfl
    rw [e__law_word, b__law_word]; clear e__law_word
    cases p <;> cases q <;> cases r <;> first | exact Bool.noConfusion h | (clear h; walk_at "ax")
end K04

set_option Elab.async false
set_option maxRecDepth 100000
set_option maxHeartbeats 4000000
set_option linter.all false
namespace K04
open PySem Ez Tr
local macro_rules | `(tactic| walk_at "ax") => `(tactic| simp [↓bind_T, ↓bindT_ret, ↓bindT_exn, ↓bindT_bad, ↓bindT_draw, ↓mapX_ret, ↓mapX_exn, ↓mapX_bad, ↓mapX_draw, ↓noX_ret, ↓noX_exn, ↓noX_bad, ↓noX_draw, ↓catch_T, ↓catT_ret, ↓catT_exn, ↓catT_bad, ↓catT_draw, ↓E_var, ↓ev_var, ↓E_lit, ↓ev_lit, ↓E_con, ↓ev_con, ↓E_fnv, ↓ev_fnv, ↓E_clv, ↓ev_clv, ↓E_op, ↓ev_op, ↓E_neg, ↓ev_neg, ↓E_and, ↓ev_and, ↓E_or, ↓ev_or, ↓E_not, ↓ev_not, ↓E_notT, ↓ev_notT, ↓E_isN, ↓ev_isN, ↓E_notN, ↓ev_notN, ↓E_tru, ↓ev_tru, ↓E_chain, ↓ev_chain, ↓E_ifx, ↓ev_ifx, ↓E_nil, ↓ev_nil, ↓E_cons, ↓ev_cons, ↓E_tup, ↓ev_tup, ↓E_lst, ↓ev_lst, ↓E_slc, ↓ev_slc, ↓E_nop, ↓ev_nop, ↓E_part, ↓ev_part, ↓E_call, ↓ev_call, ↓E_callV, ↓ev_callV, ↓E_take, ↓ev_take, ↓E_bi, ↓ev_bi, ↓E_isi, ↓ev_isi, ↓E_isi2, ↓ev_isi2, ↓E_isC, ↓ev_isC, ↓E_lc, ↓ev_lc, ↓E_yes, ↓ev_yes, ↓E_eqR, ↓ev_eqR, ↓E_xf, ↓ev_xf, ↓E_fld, ↓ev_fld, ↓E_lenO, ↓ev_lenO, ↓E_tupO, ↓ev_tupO, ↓E_ixO, ↓ev_ixO, ↓S_nop, ↓es_nop, ↓S_seq, ↓es_seq, ↓S_asg, ↓es_asg, ↓S_asgO, ↓es_asgO, ↓S_par, ↓es_par, ↓S_app, ↓es_app, ↓S_setO, ↓es_setO, ↓S_ret, ↓es_ret, ↓S_retN, ↓es_retN, ↓S_ite, ↓es_ite, ↓S_for, ↓es_for, ↓S_whl, ↓es_whl, ↓S_rse, ↓es_rse, ↓S_try, ↓es_try, ↓S_hnil, ↓S_hcons, ↓es_hcons, ↓S_drop, ↓es_drop, ↓S_keep, ↓es_keep, ↓S_brk, ↓es_brk, ↓S_cnt, ↓es_cnt, ↓at_, getV, getO, isiD, D.isNon, op2, o2_add, o2_sub, o2_lt, o2_le, o2_gt, o2_ge, o2_isB, o2_isnB, biD, bi_lenD, bi_absD, bi_intD, bi_listD, bi_tupleD, bi_gcd2D, bi_gcd3D, bi_min2D, bi_max2D, Fl.res, ↓runD, startD, toB, truD, optI, slcT, noExc, Sv.isExc, Fl.clr, Fl.off, Sv.clr, evalG, Tg.len, Tg.inn, wipeV, itemsOf, rngL, lcGo, forGo, pgm_call, pgm_con, pgm_fld, pgm_xf, pgm_sub, pgm_most, pgm_ok, scaV, dOf, EE.fresh, ix_t10, ix_t20, ix_t21, ix_t30, ix_t31, ix_t32, ix_l10, ix_l20, ix_l21, ix_l30, ix_l31, ix_l32, @o2_eq_int, @o2_ne_int, *])
local macro_rules | `(tactic| walk_at "gd") => `(tactic| simp [↓bind_T, ↓bindT_ret, ↓bindT_exn, ↓bindT_bad, ↓bindT_draw, ↓mapX_ret, ↓mapX_exn, ↓mapX_bad, ↓mapX_draw, ↓noX_ret, ↓noX_exn, ↓noX_bad, ↓noX_draw, ↓catch_T, ↓catT_ret, ↓catT_exn, ↓catT_bad, ↓catT_draw, ↓E_var, ↓ev_var, ↓E_lit, ↓ev_lit, ↓E_con, ↓ev_con, ↓E_fnv, ↓ev_fnv, ↓E_clv, ↓ev_clv, ↓E_op, ↓ev_op, ↓E_neg, ↓ev_neg, ↓E_and, ↓ev_and, ↓E_or, ↓ev_or, ↓E_not, ↓ev_not, ↓E_notT, ↓ev_notT, ↓E_isN, ↓ev_isN, ↓E_notN, ↓ev_notN, ↓E_tru, ↓ev_tru, ↓E_chain, ↓ev_chain, ↓E_ifx, ↓ev_ifx, ↓E_nil, ↓ev_nil, ↓E_cons, ↓ev_cons, ↓E_tup, ↓ev_tup, ↓E_lst, ↓ev_lst, ↓E_slc, ↓ev_slc, ↓E_nop, ↓ev_nop, ↓E_part, ↓ev_part, ↓E_call, ↓ev_call, ↓E_callV, ↓ev_callV, ↓E_take, ↓ev_take, ↓E_bi, ↓ev_bi, ↓E_isi, ↓ev_isi, ↓E_isi2, ↓ev_isi2, ↓E_isC, ↓ev_isC, ↓E_lc, ↓ev_lc, ↓E_yes, ↓ev_yes, ↓E_eqR, ↓ev_eqR, ↓E_xf, ↓ev_xf, ↓E_fld, ↓ev_fld, ↓E_lenO, ↓ev_lenO, ↓E_tupO, ↓ev_tupO, ↓E_ixO, ↓ev_ixO, ↓S_nop, ↓es_nop, ↓S_seq, ↓es_seq, ↓S_asg, ↓es_asg, ↓S_asgO, ↓es_asgO, ↓S_par, ↓es_par, ↓S_app, ↓es_app, ↓S_setO, ↓es_setO, ↓S_ret, ↓es_ret, ↓S_retN, ↓es_retN, ↓S_ite, ↓es_ite, ↓S_for, ↓es_for, ↓S_whl, ↓es_whl, ↓S_rse, ↓es_rse, ↓S_try, ↓es_try, ↓S_hnil, ↓S_hcons, ↓es_hcons, ↓S_drop, ↓es_drop, ↓S_keep, ↓es_keep, ↓S_brk, ↓es_brk, ↓S_cnt, ↓es_cnt, ↓at_, getV, getO, isiD, D.isNon, op2, o2_add, o2_sub, o2_lt, o2_le, o2_gt, o2_ge, o2_isB, o2_isnB, biD, bi_lenD, bi_absD, bi_intD, bi_tupleD, bi_min2D, bi_max2D, Fl.res, ↓runD, startD, toB, truD, optI, slcT, noExc, Sv.isExc, Fl.clr, Fl.off, Sv.clr, evalG, Tg.len, Tg.inn, wipeV, itemsOf, rngL, lcGo, forGo, pgm_call, pgm_con, pgm_fld, pgm_xf, pgm_sub, pgm_most, pgm_ok, scaV, dOf, EE.fresh, ix_t10, ix_t20, ix_t21, ix_t30, ix_t31, ix_t32, ix_l10, ix_l20, ix_l21, ix_l30, ix_l31, ix_l32, @o2_eq_int, @o2_ne_int, *])
/-! three whole numbers -/
def i1 (f a b c : Int) : Int := if (axL f).1 = 0 then a else if (axL f).1 = 1 then b else c
def i2 (f a b c : Int) : Int := if (axL f).2 = 0 then a else if (axL f).2 = 1 then b else c
theorem i_ax {f : Int} (a b c : Int) (f0 : 0 ≤ f) (f1 : f ≤ 5) : o2_ix (.tup [.int a, .int b, .int c]) (.int (axL f).1) = .ret (.int (i1 f a b c)) ∧ o2_ix (.tup [.int a, .int b, .int c]) (.int (axL f).2) = .ret (.int (i2 f a b c)) ∧ o2_ix (.lst [.int a, .int b, .int c]) (.int (axL f).1) = .ret (.int (i1 f a b c)) ∧ o2_ix (.lst [.int a, .int b, .int c]) (.int (axL f).2) = .ret (.int (i2 f a b c)) := by
  have : f = 0 ∨ f = 1 ∨ f = 2 ∨ f = 3 ∨ f = 4 ∨ f = 5 := by omega
  rcases this with rfl | rfl | rfl | rfl | rfl | rfl <;> exact ⟨rfl, rfl, rfl, rfl⟩
theorem g_ax {f : Int} (a b c : Int) (f0 : 0 ≤ f) (f1 : f ≤ 5) (h : onAx f a b c = 0) : g3 a b c = Int.gcd (i1 f a b c) (i2 f a b c) := by
  have : f = 0 ∨ f = 1 ∨ f = 2 ∨ f = 3 ∨ f = 4 ∨ f = 5 := by omega
  rcases this with rfl | rfl | rfl | rfl | rfl | rfl <;> (simp only [onAx] at h; simp at h; subst h; simp [g3, i1, i2, axL, Int.gcd, Nat.gcd_comm])
theorem i_in {f a b c : Int} (ha : inR a) (hb : inR b) (hc : inR c) : inR (i1 f a b c) ∧ inR (i2 f a b c) := by
  unfold i1 i2
  constructor
  · split
    · exact ha
    · split <;> assumption
  · split
    · exact ha
    · split <;> assumption
def axis : D := .str (Str.ofString "axis")
def both : D := .str (Str.ofString "both")
def commn : D := .str (Str.ofString "common")
theorem r_ints (n : Nat) (f a b c : Int) (f0 : 0 ≤ f) (f1 : f ≤ 5) (ha : inR a) (hb : inR b) (hc : inR c) (d : D) (hd : d = .tup [.int a, .int b, .int c] ∨ d = .lst [.int a, .int b, .int c]) :
    tx.run (n + 3) 7 [.int f, d] = if onAx f a b c = 0 then if (g3 a b c : Int) = 0 then .exn ⟨3, [both]⟩ else if (g3 a b c : Int) = 1 then .ret (.tup [.int a, .int b, .int c]) else .exn ⟨3, [commn]⟩ else .exn ⟨3, [axis]⟩ := by
  have X : tx.xf 3 = [Str.ofString "what"] := rfl
  have F := r_face n f f0 f1
  obtain ⟨S1, S2⟩ := r_seq (n + 1) a b c
  have W1 := r_whole (n + 1) a (-10000) 10000
  have W2 := r_whole (n + 1) b (-10000) 10000
  have W3 := r_whole (n + 1) c (-10000) 10000
  rw [decide_eq_true ha.1, decide_eq_true ha.2] at W1
  rw [decide_eq_true hb.1, decide_eq_true hb.2] at W2
  rw [decide_eq_true hc.1, decide_eq_true hc.2] at W3
  obtain ⟨I1, I2⟩ := ix3 (a := a) (b := b) (c := c) f0 f1
  have V := div2 f
  have G : bi_gcd3D [.int a, .int b, .int c] = .ret (.int ((g3 a b c : Nat) : Int)) := rfl
  have NE := @o2_ne_int
  generalize ((g3 a b c : Nat) : Int) = z at *
  generalize onAx f a b c = o at *
  clear ha hb hc f0 f1
  unfold both commn axis
  rcases hd with rfl | rfl
  · have e_check_direction : tx.run (n + 3) 7 [.int f, .tup [.int a, .int b, .int c]] = runD (tx.pgm ((n + 2))) ⟨2, 4, b_check_direction⟩ [.int f, .tup [.int a, .int b, .int c]] := rfl
    rw [e_check_direction, b_check_direction]; clear e_check_direction
    by_cases h : o = 0
    · by_cases h0 : z = 0
      · subst h0; walk_at "gd"
      · by_cases h1 : z = 1 <;> walk_at "gd"
    · walk_at "gd"
  · have e_check_direction : tx.run (n + 3) 7 [.int f, .lst [.int a, .int b, .int c]] = runD (tx.pgm ((n + 2))) ⟨2, 4, b_check_direction⟩ [.int f, .lst [.int a, .int b, .int c]] := rfl
    rw [e_check_direction, b_check_direction]; clear e_check_direction
    by_cases h : o = 0
    · by_cases h0 : z = 0
      · subst h0; walk_at "gd"
      · by_cases h1 : z = 1 <;> walk_at "gd"
    · walk_at "gd"
theorem l_ints (n : Nat) (f a b c : Int) (f0 : 0 ≤ f) (f1 : f ≤ 5) (ha : inR a) (hb : inR b) (hc : inR c) (d : D) (hd : d = .tup [.int a, .int b, .int c] ∨ d = .lst [.int a, .int b, .int c]) :
    tx.run (n + 2) 37 [.int f, d] = .ret (if onAx f a b c = 0 then if (g3 a b c : Int) = 0 then both else if (g3 a b c : Int) = 1 then .non else commn else axis) := by
  have W1 := (ent_int a).l n
  have W2 := (ent_int b).l n
  have W3 := (ent_int c).l n
  have wa : wh (.int a) = true := by rw [wh, decide_eq_true ha.1, decide_eq_true ha.2]; rfl
  have wb : wh (.int b) = true := by rw [wh, decide_eq_true hb.1, decide_eq_true hb.2]; rfl
  have wc : wh (.int c) = true := by rw [wh, decide_eq_true hc.1, decide_eq_true hc.2]; rfl
  rw [wa] at W1
  rw [wb] at W2
  rw [wc] at W3
  obtain ⟨I1, I2⟩ := ix3 (a := a) (b := b) (c := c) f0 f1
  obtain ⟨J1, J2, J3, J4⟩ := i_ax a b c f0 f1
  obtain ⟨k1, k2⟩ := i_in (f := f) ha hb hc
  have X := r_laxes n f f0 f1
  have C := r_common n (i1 f a b c) (i2 f a b c) (Nat.lt_of_le_of_lt (show _ ≤ 10000 by have := k2.1; have := k2.2; omega) (by decide))
  have V := div2 f
  have NE := @o2_ne_int
  have gx := g_ax a b c f0 f1
  have zz : Int.gcd (i1 f a b c) (i2 f a b c) = 0 ↔ i1 f a b c = 0 ∧ i2 f a b c = 0 := Int.gcd_eq_zero_iff
  have Z : onAx f a b c = 0 → ((g3 a b c : Int) = 0 ↔ i1 f a b c = 0 ∧ i2 f a b c = 0) := fun h => by
    rw [gx h, ← zz]; exact Int.natCast_eq_zero
  have Y : onAx f a b c = 0 → (Int.gcd (i1 f a b c) (i2 f a b c) : Int) = (g3 a b c : Int) := fun h => by rw [gx h]
  clear gx zz k1 k2 wa wb wc ha hb hc
  generalize ((Int.gcd (i1 f a b c) (i2 f a b c) : Nat) : Int) = y at *
  generalize ((g3 a b c : Nat) : Int) = z at *
  generalize onAx f a b c = o at *
  generalize i1 f a b c = u at *
  generalize i2 f a b c = v at *
  generalize (axL f).1 = s at *
  generalize (axL f).2 = t at *
  clear f0 f1
  unfold both commn axis
  rcases hd with rfl | rfl
  · have e__law_word : tx.run (n + 2) 37 [.int f, .tup [.int a, .int b, .int c]] = runD (tx.pgm ((n + 1))) ⟨2, 4, b__law_word⟩ [.int f, .tup [.int a, .int b, .int c]] := rfl
    rw [e__law_word, b__law_word]; clear e__law_word
    by_cases h : o = 0
    · replace Z := Z h
      replace Y := Y h
      subst h
      subst Y
      by_cases h0 : y = 0
      · obtain ⟨rfl, rfl⟩ := Z.mp h0
        clear Z
        walk_at "ax"
      · have Z : ¬ (u = 0 ∧ v = 0) := fun e => h0 (Z.mpr e)
        by_cases h2 : u = 0
        · have h3 : ¬ v = 0 := fun e => Z ⟨h2, e⟩
          clear Z
          subst h2
          by_cases h1 : y = 1 <;> walk_at "ax"
        · clear Z
          by_cases h1 : y = 1 <;> walk_at "ax"
    · clear Z Y
      walk_at "ax"
  · have e__law_word : tx.run (n + 2) 37 [.int f, .lst [.int a, .int b, .int c]] = runD (tx.pgm ((n + 1))) ⟨2, 4, b__law_word⟩ [.int f, .lst [.int a, .int b, .int c]] := rfl
    rw [e__law_word, b__law_word]; clear e__law_word
    by_cases h : o = 0
    · replace Z := Z h
      replace Y := Y h
      subst h
      subst Y
      by_cases h0 : y = 0
      · obtain ⟨rfl, rfl⟩ := Z.mp h0
        clear Z
        walk_at "ax"
      · have Z : ¬ (u = 0 ∧ v = 0) := fun e => h0 (Z.mpr e)
        by_cases h2 : u = 0
        · have h3 : ¬ v = 0 := fun e => Z ⟨h2, e⟩
          clear Z
          subst h2
          by_cases h1 : y = 1 <;> walk_at "ax"
        · clear Z
          by_cases h1 : y = 1 <;> walk_at "ax"
    · clear Z Y
      walk_at "ax"
end K04

set_option Elab.async false
set_option maxRecDepth 100000
set_option maxHeartbeats 4000000
set_option linter.all false
namespace K04
open PySem Ez Tr
local macro_rules | `(tactic| walk_at "ax") => `(tactic| simp [↓bind_T, ↓bindT_ret, ↓bindT_exn, ↓bindT_bad, ↓bindT_draw, ↓mapX_ret, ↓mapX_exn, ↓mapX_bad, ↓mapX_draw, ↓noX_ret, ↓noX_exn, ↓noX_bad, ↓noX_draw, ↓catch_T, ↓catT_ret, ↓catT_exn, ↓catT_bad, ↓catT_draw, ↓E_var, ↓ev_var, ↓E_lit, ↓ev_lit, ↓E_con, ↓ev_con, ↓E_fnv, ↓ev_fnv, ↓E_clv, ↓ev_clv, ↓E_op, ↓ev_op, ↓E_neg, ↓ev_neg, ↓E_and, ↓ev_and, ↓E_or, ↓ev_or, ↓E_not, ↓ev_not, ↓E_notT, ↓ev_notT, ↓E_isN, ↓ev_isN, ↓E_notN, ↓ev_notN, ↓E_tru, ↓ev_tru, ↓E_chain, ↓ev_chain, ↓E_ifx, ↓ev_ifx, ↓E_nil, ↓ev_nil, ↓E_cons, ↓ev_cons, ↓E_tup, ↓ev_tup, ↓E_lst, ↓ev_lst, ↓E_slc, ↓ev_slc, ↓E_nop, ↓ev_nop, ↓E_part, ↓ev_part, ↓E_call, ↓ev_call, ↓E_callV, ↓ev_callV, ↓E_take, ↓ev_take, ↓E_bi, ↓ev_bi, ↓E_isi, ↓ev_isi, ↓E_isi2, ↓ev_isi2, ↓E_isC, ↓ev_isC, ↓E_lc, ↓ev_lc, ↓E_yes, ↓ev_yes, ↓E_eqR, ↓ev_eqR, ↓E_xf, ↓ev_xf, ↓E_fld, ↓ev_fld, ↓E_lenO, ↓ev_lenO, ↓E_tupO, ↓ev_tupO, ↓E_ixO, ↓ev_ixO, ↓S_nop, ↓es_nop, ↓S_seq, ↓es_seq, ↓S_asg, ↓es_asg, ↓S_asgO, ↓es_asgO, ↓S_par, ↓es_par, ↓S_app, ↓es_app, ↓S_setO, ↓es_setO, ↓S_ret, ↓es_ret, ↓S_retN, ↓es_retN, ↓S_ite, ↓es_ite, ↓S_for, ↓es_for, ↓S_whl, ↓es_whl, ↓S_rse, ↓es_rse, ↓S_try, ↓es_try, ↓S_hnil, ↓S_hcons, ↓es_hcons, ↓S_drop, ↓es_drop, ↓S_keep, ↓es_keep, ↓S_brk, ↓es_brk, ↓S_cnt, ↓es_cnt, ↓at_, getV, getO, isiD, D.isNon, op2, o2_add, o2_sub, o2_lt, o2_le, o2_gt, o2_ge, o2_isB, o2_isnB, biD, bi_lenD, bi_absD, bi_intD, bi_listD, bi_tupleD, bi_gcd2D, bi_gcd3D, bi_min2D, bi_max2D, Fl.res, ↓runD, startD, toB, truD, optI, slcT, noExc, Sv.isExc, Fl.clr, Fl.off, Sv.clr, evalG, Tg.len, Tg.inn, wipeV, itemsOf, rngL, lcGo, forGo, pgm_call, pgm_con, pgm_fld, pgm_xf, pgm_sub, pgm_most, pgm_ok, scaV, dOf, EE.fresh, ix_t10, ix_t20, ix_t21, ix_t30, ix_t31, ix_t32, ix_l10, ix_l20, ix_l21, ix_l30, ix_l31, ix_l32, @o2_eq_int, @o2_ne_int, *])
local macro_rules | `(tactic| walk_at "ev") => `(tactic| simp [↓bind_T, ↓bindT_ret, ↓bindT_exn, ↓bindT_bad, ↓bindT_draw, ↓mapX_ret, ↓mapX_exn, ↓mapX_bad, ↓mapX_draw, ↓noX_ret, ↓noX_exn, ↓noX_bad, ↓noX_draw, ↓catch_T, ↓catT_ret, ↓catT_exn, ↓catT_bad, ↓catT_draw, ↓E_var, ↓ev_var, ↓E_lit, ↓ev_lit, ↓E_con, ↓ev_con, ↓E_fnv, ↓ev_fnv, ↓E_clv, ↓ev_clv, ↓E_op, ↓ev_op, ↓E_neg, ↓ev_neg, ↓E_and, ↓ev_and, ↓E_or, ↓ev_or, ↓E_not, ↓ev_not, ↓E_notT, ↓ev_notT, ↓E_isN, ↓ev_isN, ↓E_notN, ↓ev_notN, ↓E_tru, ↓ev_tru, ↓E_chain, ↓ev_chain, ↓E_ifx, ↓ev_ifx, ↓E_nil, ↓ev_nil, ↓E_cons, ↓ev_cons, ↓E_tup, ↓ev_tup, ↓E_lst, ↓ev_lst, ↓E_slc, ↓ev_slc, ↓E_nop, ↓ev_nop, ↓E_part, ↓ev_part, ↓E_call, ↓ev_call, ↓E_callV, ↓ev_callV, ↓E_take, ↓ev_take, ↓E_bi, ↓ev_bi, ↓E_isi, ↓ev_isi, ↓E_isi2, ↓ev_isi2, ↓E_isC, ↓ev_isC, ↓E_lc, ↓ev_lc, ↓E_yes, ↓ev_yes, ↓E_eqR, ↓ev_eqR, ↓E_xf, ↓ev_xf, ↓E_fld, ↓ev_fld, ↓E_lenO, ↓ev_lenO, ↓E_tupO, ↓ev_tupO, ↓E_ixO, ↓ev_ixO, ↓S_nop, ↓es_nop, ↓S_seq, ↓es_seq, ↓S_asg, ↓es_asg, ↓S_asgO, ↓es_asgO, ↓S_par, ↓es_par, ↓S_app, ↓es_app, ↓S_setO, ↓es_setO, ↓S_ret, ↓es_ret, ↓S_retN, ↓es_retN, ↓S_ite, ↓es_ite, ↓S_for, ↓es_for, ↓S_whl, ↓es_whl, ↓S_rse, ↓es_rse, ↓S_try, ↓es_try, ↓S_hnil, ↓S_hcons, ↓es_hcons, ↓S_drop, ↓es_drop, ↓S_keep, ↓es_keep, ↓S_brk, ↓es_brk, ↓S_cnt, ↓es_cnt, ↓at_, getV, getO, isiD, D.isNon, op2, o2_add, o2_sub, o2_lt, o2_le, o2_gt, o2_ge, o2_isB, o2_isnB, biD, bi_lenD, bi_absD, bi_intD, bi_listD, bi_tupleD, bi_gcd2D, bi_gcd3D, bi_min2D, bi_max2D, Fl.res, ↓runD, startD, toB, truD, optI, slcT, noExc, Sv.isExc, Fl.clr, Fl.off, Sv.clr, evalG, Tg.len, Tg.inn, wipeV, itemsOf, rngL, lcGo, forGo, pgm_call, pgm_con, pgm_fld, pgm_xf, pgm_sub, pgm_most, pgm_ok, scaV, dOf, ix_t10, ix_t20, ix_t21, ix_t30, ix_t31, ix_t32, ix_l10, ix_l20, ix_l21, ix_l30, ix_l31, ix_l32, @o2_eq_int, @o2_ne_int, o2_div, o2_mod, o2_mul, o2_ix, *])
/-! spoilt directions -/
structure Bad (f : Int) (d : D) (w : Str) : Prop where
  c : ∀ n, tx.run (n + 3) 7 [.int f, d] = .exn ⟨3, [.str w]⟩
  l : ∀ n, tx.run (n + 2) 37 [.int f, d] = .ret (.str w)
  k : D.cmp (.lst [.str (Str.ofString "BadDirection"), .str w]) = true
theorem bad3 {f : Int} {a b c : D} (f0 : 0 ≤ f) (f1 : f ≤ 5) (Ea : Ent a) (Eb : Ent b) (Ec : Ent c) (h : (wh a && wh b && wh c) = false) {d : D} (hd : d = .tup [a, b, c] ∨ d = .lst [a, b, c]) : ∃ w, Bad f d w := by
  refine ⟨Str.ofString "kind", ?_, ?_, by decide +kernel⟩
  · intro n
    rcases hd with rfl | rfl
    · exact (r_kind n f a b c f0 f1 Ea Eb Ec h).1
    · exact (r_kind n f a b c f0 f1 Ea Eb Ec h).2
  · intro n
    rcases hd with rfl | rfl
    · exact (l_kind n f a b c Ea Eb Ec h).1
    · exact (l_kind n f a b c Ea Eb Ec h).2
theorem bad_i {f a b c : Int} (f0 : 0 ≤ f) (f1 : f ≤ 5) (h : ¬ (inR a ∧ inR b ∧ inR c ∧ onAx f a b c = 0 ∧ g3 a b c = 1)) {d : D} (hd : d = .tup [.int a, .int b, .int c] ∨ d = .lst [.int a, .int b, .int c]) : ∃ w, Bad f d w := by
  by_cases k : inR a ∧ inR b ∧ inR c
  · obtain ⟨ha, hb, hc⟩ := k
    have R := fun n => r_ints n f a b c f0 f1 ha hb hc d hd
    have L := fun n => l_ints n f a b c f0 f1 ha hb hc d hd
    by_cases o : onAx f a b c = 0
    · by_cases z : (g3 a b c : Int) = 0
      · simp only [if_pos o, if_pos z] at R L
        exact ⟨_, R, L, by decide +kernel⟩
      · by_cases y : (g3 a b c : Int) = 1
        · exact absurd ⟨ha, hb, hc, o, by omega⟩ h
        · simp only [if_pos o, if_neg z, if_neg y] at R L
          exact ⟨_, R, L, by decide +kernel⟩
    · simp only [if_neg o] at R L
      exact ⟨_, R, L, by decide +kernel⟩
  · refine bad3 f0 f1 (ent_int a) (ent_int b) (ent_int c) ?_ hd
    have e : (wh (.int a) && wh (.int b) && wh (.int c)) = true ↔ inR a ∧ inR b ∧ inR c := by simp [wh, inR, and_assoc]
    exact Bool.eq_false_iff.mpr fun z => k (e.mp z)
theorem bad_s {f : Int} {d : D} (f0 : 0 ≤ f) (f1 : f ≤ 5) (S : ∀ n, tx.run (n + 1) 1 [d, .int 3, .int 3] = .ret (.bl false)) (L : ∀ n, tx.run (n + 2) 37 [.int f, d] = .ret kind) : ∃ w, Bad f d w := by
  refine ⟨Str.ofString "kind", fun n => ?_, L, by decide +kernel⟩
  have X : tx.xf 3 = [Str.ofString "what"] := rfl
  have F := r_face n f f0 f1
  have S := S (n + 1)
  clear L f0 f1
  have e_check_direction : tx.run (n + 3) 7 [.int f, d] = runD (tx.pgm ((n + 2))) ⟨2, 4, b_check_direction⟩ [.int f, d] := rfl
  rw [e_check_direction, b_check_direction]; clear e_check_direction
  walk_at "ax"
def noseq : List D := [.non, .int 7, .str (Str.ofString "012"), .bl true, .tup []]
theorem bad_n {f : Int} {d : D} (f0 : 0 ≤ f) (f1 : f ≤ 5) (h : d ∈ noseq) : ∃ w, Bad f d w := by
  simp only [noseq, List.mem_cons, List.not_mem_nil, or_false] at h
  rcases h with rfl | rfl | rfl | rfl | rfl
  · refine bad_s f0 f1 (fun n => ?_) (fun n => ?_)
    · have e_is_sequence : tx.run (n + 1) 1 [.non, .int 3, .int 3] = runD (tx.pgm (n)) ⟨3, 3, b_is_sequence⟩ [.non, .int 3, .int 3] := rfl
      rw [e_is_sequence, b_is_sequence]; clear e_is_sequence
      walk_at "ev"
    · have e__law_word : tx.run (n + 2) 37 [.int f, .non] = runD (tx.pgm ((n + 1))) ⟨2, 4, b__law_word⟩ [.int f, .non] := rfl
      rw [e__law_word, b__law_word]; clear e__law_word
      walk_at "ev"
  · refine bad_s f0 f1 (fun n => ?_) (fun n => ?_)
    · have e_is_sequence : tx.run (n + 1) 1 [.int 7, .int 3, .int 3] = runD (tx.pgm (n)) ⟨3, 3, b_is_sequence⟩ [.int 7, .int 3, .int 3] := rfl
      rw [e_is_sequence, b_is_sequence]; clear e_is_sequence
      walk_at "ev"
    · have e__law_word : tx.run (n + 2) 37 [.int f, .int 7] = runD (tx.pgm ((n + 1))) ⟨2, 4, b__law_word⟩ [.int f, .int 7] := rfl
      rw [e__law_word, b__law_word]; clear e__law_word
      walk_at "ev"
  · refine bad_s f0 f1 (fun n => ?_) (fun n => ?_)
    · have e_is_sequence : tx.run (n + 1) 1 [.str (Str.ofString "012"), .int 3, .int 3] = runD (tx.pgm (n)) ⟨3, 3, b_is_sequence⟩ [.str (Str.ofString "012"), .int 3, .int 3] := rfl
      rw [e_is_sequence, b_is_sequence]; clear e_is_sequence
      walk_at "ev"
    · have e__law_word : tx.run (n + 2) 37 [.int f, .str (Str.ofString "012")] = runD (tx.pgm ((n + 1))) ⟨2, 4, b__law_word⟩ [.int f, .str (Str.ofString "012")] := rfl
      rw [e__law_word, b__law_word]; clear e__law_word
      walk_at "ev"
  · refine bad_s f0 f1 (fun n => ?_) (fun n => ?_)
    · have e_is_sequence : tx.run (n + 1) 1 [.bl true, .int 3, .int 3] = runD (tx.pgm (n)) ⟨3, 3, b_is_sequence⟩ [.bl true, .int 3, .int 3] := rfl
      rw [e_is_sequence, b_is_sequence]; clear e_is_sequence
      walk_at "ev"
    · have e__law_word : tx.run (n + 2) 37 [.int f, .bl true] = runD (tx.pgm ((n + 1))) ⟨2, 4, b__law_word⟩ [.int f, .bl true] := rfl
      rw [e__law_word, b__law_word]; clear e__law_word
      walk_at "ev"
  · refine bad_s f0 f1 (fun n => ?_) (fun n => ?_)
    · have e_is_sequence : tx.run (n + 1) 1 [.tup [], .int 3, .int 3] = runD (tx.pgm (n)) ⟨3, 3, b_is_sequence⟩ [.tup [], .int 3, .int 3] := rfl
      rw [e_is_sequence, b_is_sequence]; clear e_is_sequence
      walk_at "ev"
    · have e__law_word : tx.run (n + 2) 37 [.int f, .tup []] = runD (tx.pgm ((n + 1))) ⟨2, 4, b__law_word⟩ [.int f, .tup []] := rfl
      rw [e__law_word, b__law_word]; clear e__law_word
      walk_at "ev"
theorem bad_2 {f : Int} {a b : D} (f0 : 0 ≤ f) (f1 : f ≤ 5) : ∃ w, Bad f (.lst [a, b]) w := by
  refine bad_s f0 f1 (fun n => ?_) (fun n => ?_)
  · have e_is_sequence : tx.run (n + 1) 1 [.lst [a, b], .int 3, .int 3] = runD (tx.pgm (n)) ⟨3, 3, b_is_sequence⟩ [.lst [a, b], .int 3, .int 3] := rfl
    rw [e_is_sequence, b_is_sequence]; clear e_is_sequence
    walk_at "ev"
  · have e__law_word : tx.run (n + 2) 37 [.int f, .lst [a, b]] = runD (tx.pgm ((n + 1))) ⟨2, 4, b__law_word⟩ [.int f, .lst [a, b]] := rfl
    rw [e__law_word, b__law_word]; clear e__law_word
    walk_at "ev"
theorem bad_4 {f : Int} {a b c e : D} (f0 : 0 ≤ f) (f1 : f ≤ 5) : ∃ w, Bad f (.lst [a, b, c, e]) w := by
  refine bad_s f0 f1 (fun n => ?_) (fun n => ?_)
  · have e_is_sequence : tx.run (n + 1) 1 [.lst [a, b, c, e], .int 3, .int 3] = runD (tx.pgm (n)) ⟨3, 3, b_is_sequence⟩ [.lst [a, b, c, e], .int 3, .int 3] := rfl
    rw [e_is_sequence, b_is_sequence]; clear e_is_sequence
    walk_at "ev"
  · have e__law_word : tx.run (n + 2) 37 [.int f, .lst [a, b, c, e]] = runD (tx.pgm ((n + 1))) ⟨2, 4, b__law_word⟩ [.int f, .lst [a, b, c, e]] := rfl
    rw [e__law_word, b__law_word]; clear e__law_word
    walk_at "ev"
end K04

set_option Elab.async false
set_option maxRecDepth 100000
set_option maxHeartbeats 4000000
set_option linter.all false
namespace K04
open PySem Ez Tr
local macro_rules | `(tactic| walk_at "ax") => `(tactic| simp [↓bind_T, ↓bindT_ret, ↓bindT_exn, ↓bindT_bad, ↓bindT_draw, ↓mapX_ret, ↓mapX_exn, ↓mapX_bad, ↓mapX_draw, ↓noX_ret, ↓noX_exn, ↓noX_bad, ↓noX_draw, ↓catch_T, ↓catT_ret, ↓catT_exn, ↓catT_bad, ↓catT_draw, ↓E_var, ↓ev_var, ↓E_lit, ↓ev_lit, ↓E_con, ↓ev_con, ↓E_fnv, ↓ev_fnv, ↓E_clv, ↓ev_clv, ↓E_op, ↓ev_op, ↓E_neg, ↓ev_neg, ↓E_and, ↓ev_and, ↓E_or, ↓ev_or, ↓E_not, ↓ev_not, ↓E_notT, ↓ev_notT, ↓E_isN, ↓ev_isN, ↓E_notN, ↓ev_notN, ↓E_tru, ↓ev_tru, ↓E_chain, ↓ev_chain, ↓E_ifx, ↓ev_ifx, ↓E_nil, ↓ev_nil, ↓E_cons, ↓ev_cons, ↓E_tup, ↓ev_tup, ↓E_lst, ↓ev_lst, ↓E_slc, ↓ev_slc, ↓E_nop, ↓ev_nop, ↓E_part, ↓ev_part, ↓E_call, ↓ev_call, ↓E_callV, ↓ev_callV, ↓E_take, ↓ev_take, ↓E_bi, ↓ev_bi, ↓E_isi, ↓ev_isi, ↓E_isi2, ↓ev_isi2, ↓E_isC, ↓ev_isC, ↓E_lc, ↓ev_lc, ↓E_yes, ↓ev_yes, ↓E_eqR, ↓ev_eqR, ↓E_xf, ↓ev_xf, ↓E_fld, ↓ev_fld, ↓E_lenO, ↓ev_lenO, ↓E_tupO, ↓ev_tupO, ↓E_ixO, ↓ev_ixO, ↓S_nop, ↓es_nop, ↓S_seq, ↓es_seq, ↓S_asg, ↓es_asg, ↓S_asgO, ↓es_asgO, ↓S_par, ↓es_par, ↓S_app, ↓es_app, ↓S_setO, ↓es_setO, ↓S_ret, ↓es_ret, ↓S_retN, ↓es_retN, ↓S_ite, ↓es_ite, ↓S_for, ↓es_for, ↓S_whl, ↓es_whl, ↓S_rse, ↓es_rse, ↓S_try, ↓es_try, ↓S_hnil, ↓S_hcons, ↓es_hcons, ↓S_drop, ↓es_drop, ↓S_keep, ↓es_keep, ↓S_brk, ↓es_brk, ↓S_cnt, ↓es_cnt, ↓at_, getV, getO, isiD, D.isNon, op2, o2_add, o2_sub, o2_lt, o2_le, o2_gt, o2_ge, o2_isB, o2_isnB, biD, bi_lenD, bi_absD, bi_intD, bi_listD, bi_tupleD, bi_gcd2D, bi_gcd3D, bi_min2D, bi_max2D, Fl.res, ↓runD, startD, toB, truD, optI, slcT, noExc, Sv.isExc, Fl.clr, Fl.off, Sv.clr, evalG, Tg.len, Tg.inn, wipeV, itemsOf, rngL, lcGo, forGo, pgm_call, pgm_con, pgm_fld, pgm_xf, pgm_sub, pgm_most, pgm_ok, scaV, dOf, EE.fresh, ix_t10, ix_t20, ix_t21, ix_t30, ix_t31, ix_t32, ix_l10, ix_l20, ix_l21, ix_l30, ix_l31, ix_l32, @o2_eq_int, @o2_ne_int, *])
/-! four deeds -/
theorem sub31 : tx.sub 3 1 = some false := by decide +kernel
theorem sub33 : tx.sub 3 3 = some true := by decide +kernel
theorem sub11 : tx.sub 1 1 = some true := by decide +kernel
theorem xf3 : tx.xf 3 = [Str.ofString "what"] := rfl
theorem xf1 : tx.xf 1 = [Str.ofString "face"] := rfl
abbrev bdir (w : Str) : D := .lst [.str (Str.ofString "BadDirection"), .str w]
abbrev bfac (b : Int) : D := .lst [.str (Str.ofString "BadFace"), .int b]
theorem deed_bad {k : Nat} {f : Int} {d : D} {w : Str} (K : tx.ok k = true) (R : tx.run 11 k [.int f, d] = .exn ⟨3, [.str w]⟩) : tx.run 12 34 [.fn k, .int f, d] = .ret (bdir w) := by
  have A := sub31
  have B := sub33
  have C := xf3
  have e__law_deed : tx.run (12) 34 [.fn k, .int f, d] = runD (tx.pgm (11)) ⟨3, 5, b__law_deed⟩ [.fn k, .int f, d] := rfl
  rw [e__law_deed, b__law_deed]; clear e__law_deed
  walk_at "ax"
theorem deed_ret {k : Nat} {f : Int} {d t : D} (K : tx.ok k = true) (R : tx.run 11 k [.int f, d] = .ret t) : tx.run 12 34 [.fn k, .int f, d] = .ret t := by
  have e__law_deed : tx.run (12) 34 [.fn k, .int f, d] = runD (tx.pgm (11)) ⟨3, 5, b__law_deed⟩ [.fn k, .int f, d] := rfl
  rw [e__law_deed, b__law_deed]; clear e__law_deed
  walk_at "ax"
theorem deed_face {k : Nat} {b : Int} {d : D} (K : tx.ok k = true) (R : tx.run 11 k [.int b, d] = .exn ⟨1, [.int b]⟩) : tx.run 12 34 [.fn k, .int b, d] = .ret (bfac b) := by
  have A := sub11
  have C := xf1
  have e__law_deed : tx.run (12) 34 [.fn k, .int b, d] = runD (tx.pgm (11)) ⟨3, 5, b__law_deed⟩ [.fn k, .int b, d] := rfl
  rw [e__law_deed, b__law_deed]; clear e__law_deed
  walk_at "ax"
/-- what first checks the direction -/
theorem fst_exn (n : Nat) {f : Int} {d : D} {x : Xn} (C : ∀ n, tx.run (n + 3) 7 [.int f, d] = .exn x) : tx.run (n + 4) 7 [.int f, d] = .exn x ∧ tx.run (n + 4) 11 [.int f, d] = .exn x ∧ tx.run (n + 4) 15 [.int f, d] = .exn x ∧ tx.run (n + 4) 14 [.int f, d] = .exn x := by
  refine ⟨C (n + 1), ?_, ?_, ?_⟩
  · have C := C n
    have e_slope_of : tx.run (n + 4) 11 [.int f, d] = runD (tx.pgm ((n + 3))) ⟨2, 2, b_slope_of⟩ [.int f, d] := rfl
    rw [e_slope_of, b_slope_of]; clear e_slope_of
    walk_at "ax"
  · have C := C n
    have e_left_of : tx.run (n + 4) 15 [.int f, d] = runD (tx.pgm ((n + 3))) ⟨2, 4, b_left_of⟩ [.int f, d] := rfl
    rw [e_left_of, b_left_of]; clear e_left_of
    walk_at "ax"
  · have C := C n
    have e_back_of : tx.run (n + 4) 14 [.int f, d] = runD (tx.pgm ((n + 3))) ⟨2, 2, b_back_of⟩ [.int f, d] := rfl
    rw [e_back_of, b_back_of]; clear e_back_of
    walk_at "ax"
theorem chk_face {b : Int} (h : 6 ≤ b) (d : D) (n : Nat) : tx.run (n + 3) 7 [.int b, d] = .exn ⟨1, [.int b]⟩ := by
  have F := r_face_no n (.int b) (by rw [r_whole, decide_eq_false (by omega : ¬ b ≤ 5), Bool.and_false])
  clear h
  have e_check_direction : tx.run (n + 3) 7 [.int b, d] = runD (tx.pgm ((n + 2))) ⟨2, 4, b_check_direction⟩ [.int b, d] := rfl
  rw [e_check_direction, b_check_direction]; clear e_check_direction
  walk_at "ax"
theorem good_ret {f x y : Int} (f0 : 0 ≤ f) (f1 : f ≤ 5) (hx : inR x) (hy : inR y) (g : Int.gcd x y = 1) {d : D} (hd : d = .tup (c3 (dr f x y)) ∨ d = .lst (c3 (dr f x y))) :
    (∃ t, tx.run 11 7 [.int f, d] = .ret (.tup t)) ∧ (∃ t, tx.run 11 11 [.int f, d] = .ret (.tup t)) ∧ (∃ t, tx.run 11 15 [.int f, d] = .ret (.tup t)) ∧ (∃ t, tx.run 11 14 [.int f, d] = .ret (.tup t)) := by
  have C : ∀ n, tx.run (n + 3) 7 [.int f, d] = .ret (.tup (c3 (dr f x y))) := fun n => by
    rcases hd with rfl | rfl
    · exact (c_dir n f x y f0 f1 hx hy g).1
    · exact (c_dir n f x y f0 f1 hx hy g).2
  have F := fun n => (f_dir n f (dr f x y) f0 f1).1
  obtain ⟨_, ea, eb, _⟩ := dir_c3 x y f0 f1
  rw [ea, eb] at F
  have h : x ≠ 0 ∨ y ≠ 0 := by
    by_cases e : x = 0
    · right
      intro e'
      subst e e'
      simp at g
    · exact .inl e
  have S := r_slope_on 5 f x y (.tup (c3 (dr f x y))) h (F 5)
  have U := r_unframed 6 f (-y) x f0 f1
  rw [(dir_c3 (-y) x f0 f1).1] at U
  have V := r_rev 9 (dr f x y)
  have F := F 6
  have C1 := C 7
  refine ⟨⟨_, C 8⟩, ⟨[.int (sl x y).1, .int (sl x y).2], ?_⟩, ⟨c3 (dr f (-y) x), ?_⟩, ⟨c3 fun k => -dr f x y k, ?_⟩⟩
  · show _ = Tr.ret (rt (sl x y).1 (sl x y).2)
    clear F U V hd f0 f1 hx hy g h ea eb
    generalize c3 (dr f x y) = l at *
    have e_slope_of : tx.run (11) 11 [.int f, d] = runD (tx.pgm (10)) ⟨2, 2, b_slope_of⟩ [.int f, d] := rfl
    rw [e_slope_of, b_slope_of]; clear e_slope_of
    walk_at "ax"
  · clear S V hd f0 f1 hx hy g h ea eb
    generalize c3 (dr f x y) = l at *
    generalize c3 (dr f (-y) x) = l' at *
    have e_left_of : tx.run (11) 15 [.int f, d] = runD (tx.pgm (10)) ⟨2, 4, b_left_of⟩ [.int f, d] := rfl
    rw [e_left_of, b_left_of]; clear e_left_of
    walk_at "ax"
  · clear S U F hd f0 f1 hx hy g h ea eb
    generalize (c3 fun k => -dr f x y k) = l' at *
    generalize c3 (dr f x y) = l at *
    have e_back_of : tx.run (11) 14 [.int f, d] = runD (tx.pgm (10)) ⟨2, 2, b_back_of⟩ [.int f, d] := rfl
    rw [e_back_of, b_back_of]; clear e_back_of
    walk_at "ax"
theorem fac_ok {b : Int} (h0 : 6 ≤ b) (h1 : b ≤ 11) : D.cmp (bfac b) = true ∧ D.repOk (bfac b) = true ∧ D.same (bfac b) (bfac b) = true := by
  have : b = 6 ∨ b = 7 ∨ b = 8 ∨ b = 9 ∨ b = 10 ∨ b = 11 := by omega
  rcases this with rfl | rfl | rfl | rfl | rfl | rfl <;> decide +kernel
theorem like_same {b : Int} (h0 : 6 ≤ b) (h1 : b ≤ 11) : tx.run 12 31 [bfac b, bfac b] = .ret (.bl true) := by
  obtain ⟨c, r, s⟩ := fac_ok h0 h1
  have N := o2_eq_self c
  clear c h0 h1
  have e__law_like : tx.run (12) 31 [bfac b, bfac b] = runD (tx.pgm (11)) ⟨2, 2, b__law_like⟩ [bfac b, bfac b] := rfl
  rw [e__law_like, b__law_like]; clear e__law_like
  generalize bfac b = t at *
  walk_at "ax"
end K04

set_option Elab.async false
set_option maxRecDepth 100000
set_option maxHeartbeats 4000000
set_option linter.all false
namespace K04
open PySem Ez Tr

/-! the slopes -/
noncomputable abbrev s_i (n : Nat) : SS := firstS (rests b__law_slopes n)
noncomputable abbrev s_r (n : Nat) : SS := rests b__law_slopes n
noncomputable abbrev s_b : SS := bodyF (s_i 4)
def vB : Vars := .dat .hand :: List.replicate 10 .unk
def vD (d : D) : Vars := [.dat .hand, .unk, .unk, .unk, .unk, .dat d, .unk, .unk, .unk, .unk, .unk]
def okV : Vars → Bool
  | .dat .hand :: r => decide (r.length = 10) && r.all fun v => !v.isExc
  | _ => false
theorem unk_le : ∀ {r : Vars} {n : Nat}, r.length = n → (r.all fun v => !v.isExc) = true → vle (List.replicate n .unk) r
  | [], _, rfl, _ => trivial
  | v :: r, _, rfl, h => by
    simp only [List.all_cons, Bool.and_eq_true, Bool.not_eq_true'] at h
    exact ⟨Or.inr ⟨rfl, h.1⟩, unk_le rfl h.2⟩
theorem okV_le : ∀ {ρ : Vars}, okV ρ = true → vle vB ρ
  | [], h => by cases h
  | v :: r, h => by
    unfold okV at h
    split at h
    · rename_i r' e
      cases e
      simp only [Bool.and_eq_true, decide_eq_true_eq] at h
      exact ⟨Or.inl rfl, unk_le h.1 h.2⟩
    · cases h
theorem Sv.le_trans {a b c : Sv} (h : Sv.le a b) (k : Sv.le b c) : Sv.le a c := by
  rcases h with rfl | ⟨rfl, e⟩
  · exact k
  · rcases k with rfl | ⟨rfl, e'⟩
    · exact Or.inr ⟨rfl, e⟩
    · exact Or.inr ⟨rfl, e'⟩
theorem vle_trans : ∀ {a b c : Vars}, vle a b → vle b c → vle a c
  | [], [], [], _, _ => trivial
  | _ :: _, _ :: _, _ :: _, h, k => ⟨Sv.le_trans h.1 k.1, vle_trans h.2 k.2⟩
noncomputable def okS (d : D) : Bool := (evalS (tx.pgm 11) s_b none (vD d)).chk (fun fl => match fl with | .nx ρ => okV ρ | _ => false) (fun _ => false)
theorem body_ok {d : D} (h : okS d = true) {ρ : Vars} (v : vle vB ρ) : All True (Fl.goes (vle vB)) (fun _ => False) (match evalG false (.name 5) d ρ with | some ρ' => evalS (tx.pgm 11) s_b none ρ' | none => bad) := by
  have l : 5 < ρ.length := by rw [← vle_len v]; decide
  have g : evalG false (.name 5) d ρ = some (ρ.set 5 (.dat d)) := by simp [evalG, l]
  rw [g]
  have w : vle (vD d) (ρ.set 5 (.dat d)) := vle_set (i := 5) v Sv.le_refl
  refine All.up ?_ ?_ (leS s_b w) (of_chk h fun _ => rfl)
  · intro a b r k
    cases a <;> cases b <;> first | exact r.elim | (exact vle_trans (okV_le k) r) | cases k
  · intro a b _ k; exact k.elim
def ten : List Int := (List.range 12).map fun (i : Nat) => (i : Int) - 1
theorem mem_ten {a : Int} (h0 : 0 ≤ a) (h1 : a < 12) : a - 1 ∈ ten := List.mem_map.mpr ⟨a.toNat, List.mem_range.mpr (by omega), by omega⟩
def oddS : List D := [.bl true, .non, .str (Str.ofString "1"), .int (-1), .int 10, .tup [.int 0], .bl false, .int 100000000000000000009]
noncomputable def rowP (a : Int) : Bool := ten.all fun b => okS (.tup [.int a, .int b]) && okS (.lst [.int a, .int b])
noncomputable def rowO (a : Int) : Bool := oddS.all fun o => okS (.tup [.int a, o]) && okS (.lst [o, .int a])
theorem s_p0 : rowP (-1) = true := by decide +kernel
theorem s_o0 : rowO (-1) = true := by decide +kernel
theorem s_p1 : rowP (0) = true := by decide +kernel
theorem s_o1 : rowO (0) = true := by decide +kernel
theorem s_p2 : rowP (1) = true := by decide +kernel
theorem s_o2 : rowO (1) = true := by decide +kernel
theorem s_p3 : rowP (2) = true := by decide +kernel
theorem s_o3 : rowO (2) = true := by decide +kernel
theorem s_p4 : rowP (3) = true := by decide +kernel
theorem s_o4 : rowO (3) = true := by decide +kernel
theorem s_p5 : rowP (4) = true := by decide +kernel
theorem s_o5 : rowO (4) = true := by decide +kernel
theorem s_p6 : rowP (5) = true := by decide +kernel
theorem s_o6 : rowO (5) = true := by decide +kernel
theorem s_p7 : rowP (6) = true := by decide +kernel
theorem s_o7 : rowO (6) = true := by decide +kernel
theorem s_p8 : rowP (7) = true := by decide +kernel
theorem s_o8 : rowO (7) = true := by decide +kernel
theorem s_p9 : rowP (8) = true := by decide +kernel
theorem s_o9 : rowO (8) = true := by decide +kernel
theorem s_p10 : rowP (9) = true := by decide +kernel
theorem s_o10 : rowO (9) = true := by decide +kernel
theorem s_p11 : rowP (10) = true := by decide +kernel
theorem s_o11 : rowO (10) = true := by decide +kernel
theorem ten_eq : ten = [-1, 0, 1, 2, 3, 4, 5, 6, 7, 8, 9, 10] := by decide +kernel
theorem all_ten {p : Int → Bool} (h : p (-1) = true ∧ p 0 = true ∧ p 1 = true ∧ p 2 = true ∧ p 3 = true ∧ p 4 = true ∧ p 5 = true ∧ p 6 = true ∧ p 7 = true ∧ p 8 = true ∧ p 9 = true ∧ p 10 = true) : ten.all p = true := by
  obtain ⟨h0, h1, h2, h3, h4, h5, h6, h7, h8, h9, h10, h11⟩ := h
  rw [ten_eq]; simp only [List.all_cons, List.all_nil, h0, h1, h2, h3, h4, h5, h6, h7, h8, h9, h10, h11, Bool.and_true]
theorem s_pairs : (ten.all fun a => ten.all fun b => okS (.tup [.int a, .int b]) && okS (.lst [.int a, .int b])) = true := all_ten (p := rowP) ⟨s_p0, s_p1, s_p2, s_p3, s_p4, s_p5, s_p6, s_p7, s_p8, s_p9, s_p10, s_p11⟩
theorem s_odds : (ten.all fun a => oddS.all fun o => okS (.tup [.int a, o]) && okS (.lst [o, .int a])) = true := all_ten (p := rowO) ⟨s_o0, s_o1, s_o2, s_o3, s_o4, s_o5, s_o6, s_o7, s_o8, s_o9, s_o10, s_o11⟩
theorem s_ones : (ten.all fun a => okS (.tup [.int a])) = true := by decide +kernel
theorem s_rest : ((oddS ++ [D.tup [.int 1, .int 2, .int 3], D.tup [.int 1, .int 0], D.lst [.int 1, .int 0], D.tup [.int 0, .int 1]]).all okS) = true := by decide +kernel
theorem s_odd : (tx.run 11 26 [.hand, .int 9]).chk (fun d => oddS.any fun o => deq d o) (fun _ => false) = true := by decide +kernel
theorem r_oddS : All True (fun o => o ∈ oddS) (fun _ => False) (tx.run 11 26 [.hand, .int 9]) := All.mono (fun d h => by
  obtain ⟨o, m, e⟩ := List.any_eq_true.mp h
  exact deq_eq e ▸ m) (fun _ z => z) (of_chk s_odd (fun _ => rfl))
theorem s_end : (evalS (tx.pgm 11) (s_r 5) none vB).chk (fun fl => match fl with | .rt d _ => deq d (.bl true) | _ => false) (fun _ => false) = true := by decide +kernel
theorem end_ok {ρ : Vars} (v : vle vB ρ) : All True (fun fl => ∃ ρ', fl = .rt (.bl true) ρ') (fun _ => False) (evalS (tx.pgm 11) (s_r 5) none ρ) := by
  refine All.up ?_ ?_ (leS (s_r 5) v) (of_chk s_end fun _ => rfl)
  · intro a b r k
    cases a <;> cases b <;> first | exact r.elim | cases k | skip
    rename_i d ρ1 e ρ2
    exact ⟨ρ2, by rw [← r.1, deq_eq k]⟩
  · intro a b _ k; exact k.elim
end K04

set_option Elab.async false
set_option maxRecDepth 100000
set_option maxHeartbeats 4000000
set_option linter.all false
namespace K04
open PySem Ez Tr
local macro_rules | `(tactic| walk_at "ax") => `(tactic| simp [↓bind_T, ↓bindT_ret, ↓bindT_exn, ↓bindT_bad, ↓bindT_draw, ↓mapX_ret, ↓mapX_exn, ↓mapX_bad, ↓mapX_draw, ↓noX_ret, ↓noX_exn, ↓noX_bad, ↓noX_draw, ↓catch_T, ↓catT_ret, ↓catT_exn, ↓catT_bad, ↓catT_draw, ↓E_var, ↓ev_var, ↓E_lit, ↓ev_lit, ↓E_con, ↓ev_con, ↓E_fnv, ↓ev_fnv, ↓E_clv, ↓ev_clv, ↓E_op, ↓ev_op, ↓E_neg, ↓ev_neg, ↓E_and, ↓ev_and, ↓E_or, ↓ev_or, ↓E_not, ↓ev_not, ↓E_notT, ↓ev_notT, ↓E_isN, ↓ev_isN, ↓E_notN, ↓ev_notN, ↓E_tru, ↓ev_tru, ↓E_chain, ↓ev_chain, ↓E_ifx, ↓ev_ifx, ↓E_nil, ↓ev_nil, ↓E_cons, ↓ev_cons, ↓E_tup, ↓ev_tup, ↓E_lst, ↓ev_lst, ↓E_slc, ↓ev_slc, ↓E_nop, ↓ev_nop, ↓E_part, ↓ev_part, ↓E_call, ↓ev_call, ↓E_callV, ↓ev_callV, ↓E_take, ↓ev_take, ↓E_bi, ↓ev_bi, ↓E_isi, ↓ev_isi, ↓E_isi2, ↓ev_isi2, ↓E_isC, ↓ev_isC, ↓E_lc, ↓ev_lc, ↓E_yes, ↓ev_yes, ↓E_eqR, ↓ev_eqR, ↓E_xf, ↓ev_xf, ↓E_fld, ↓ev_fld, ↓E_lenO, ↓ev_lenO, ↓E_tupO, ↓ev_tupO, ↓E_ixO, ↓ev_ixO, ↓S_nop, ↓es_nop, ↓S_seq, ↓es_seq, ↓S_asg, ↓es_asg, ↓S_asgO, ↓es_asgO, ↓S_par, ↓es_par, ↓S_app, ↓es_app, ↓S_setO, ↓es_setO, ↓S_ret, ↓es_ret, ↓S_retN, ↓es_retN, ↓S_ite, ↓es_ite, ↓S_for, ↓es_for, ↓S_whl, ↓es_whl, ↓S_rse, ↓es_rse, ↓S_try, ↓es_try, ↓S_hnil, ↓S_hcons, ↓es_hcons, ↓S_drop, ↓es_drop, ↓S_keep, ↓es_keep, ↓S_brk, ↓es_brk, ↓S_cnt, ↓es_cnt, ↓at_, getV, getO, isiD, D.isNon, op2, o2_add, o2_sub, o2_lt, o2_le, o2_gt, o2_ge, o2_isB, o2_isnB, biD, bi_lenD, bi_absD, bi_intD, bi_listD, bi_tupleD, bi_gcd2D, bi_gcd3D, bi_min2D, bi_max2D, Fl.res, ↓runD, startD, toB, truD, optI, slcT, noExc, Sv.isExc, Fl.clr, Fl.off, Sv.clr, evalG, Tg.len, Tg.inn, wipeV, itemsOf, rngL, lcGo, forGo, pgm_call, pgm_con, pgm_fld, pgm_xf, pgm_sub, pgm_most, pgm_ok, scaV, dOf, EE.fresh, ix_t10, ix_t20, ix_t21, ix_t30, ix_t31, ix_t32, ix_l10, ix_l20, ix_l21, ix_l30, ix_l31, ix_l32, @o2_eq_int, @o2_ne_int, *])
theorem shaped (n : Nat) (d : D) (l : List D) (h : d = .tup l) (hl : l.length ≤ 4) : All True (fun s => s = .tup l ∨ s = .lst l) (fun _ => False) (tx.run (n + 2) 29 [.hand, d]) := by
  subst h
  have e__law_shaped : tx.run (n + 2) 29 [.hand, .tup l] = runD (tx.pgm ((n + 1))) ⟨2, 2, b__law_shaped⟩ [.hand, .tup l] := rfl
  rw [e__law_shaped, b__law_shaped]; clear e__law_shaped
  walk_at "ax"
  refine All.drawI (by decide) (by decide) fun v v0 v1 => ?_
  have : v = 0 ∨ v = 1 := by omega
  rcases this with rfl | rfl
  · walk_at "ax"
    exact Or.inr rfl
  · walk_at "ax"
    exact Or.inl rfl
theorem for_seq {Γ : Pgm} {it : EE} {i : Nat} {b : SS} {ρ : Vars} {l : List D} (h : evalE Γ it ρ = .ret (.lst l)) (hl : l.length ≤ 10000) : evalS Γ (.for .seq it (.name i) b) none ρ = forGo (fun x ρ => match evalG false (.name i) x ρ with | some ρ' => evalS Γ b none ρ' | none => bad) l ρ := by
  have g : itemsOf .seq (.lst l) = some l := by first | rfl | exact if_pos hl | simp [itemsOf, hl]
  rw [S_for, es_for, h]
  show (match itemsOf .seq (.lst l) with | some l => forGo _ l ρ | none => bad) = _
  rw [g]
  try rfl
def St4 (ρ : Vars) : Prop := ∃ a b : Int, ∃ o s : D, a ∈ ten ∧ b ∈ ten ∧ o ∈ oddS ∧ (s = .tup [.int a, .int b] ∨ s = .lst [.int a, .int b]) ∧ ρ = [.dat .hand, .dat (.int a), .dat (.int b), .dat o, .dat s, .unk, .unk, .unk, .unk, .unk, .unk]
theorem s0123 : Goes (tx.pgm 11) (.seq (.seq (.seq (s_i 0) (s_i 1)) (s_i 2)) (s_i 3)) St4 (.dat .hand :: List.replicate 10 .unk) := by
  have O := r_oddS
  have S := fun a b : Int => shaped 9 (.tup [.int a, .int b]) _ rfl (by show 2 ≤ 4; decide)
  simp only [Goes, s_i, firstS, rests, b__law_slopes, List.replicate]
  walk_at "ax"
  refine All.drawI (by decide) (by decide) fun v v0 v1 => ?_
  try simp only [bindT_bindT, mapX_bindT, mapX_mapX]
  try walk_at "ax"
  refine All.drawI (by decide) (by decide) fun w w0 w1 => ?_
  try simp only [bindT_bindT, mapX_bindT, mapX_mapX]
  try walk_at "ax"
  refine All.bt0 (All.mx0 O) ?_
  intro o ho
  try simp only [bindT_bindT, mapX_bindT, mapX_mapX]
  try walk_at "ax"
  refine All.bt0 (All.mx0 (S (v - 1) (w - 1))) ?_
  intro s hs
  try simp only [bindT_bindT, mapX_bindT, mapX_mapX]
  try walk_at "ax"
  exact ⟨_, rfl, _, _, _, _, mem_ten v0 v1, mem_ten w0 w1, ho, hs, rfl⟩
def items (a b : Int) (o s : D) : List D := [s, .tup [.int a, o], .lst [o, .int b], .tup [.int a], .tup [.int 1, .int 2, .int 3], .tup [.int 1, .int 0], .lst [.int 1, .int 0], .tup [.int 0, .int 1], o]
theorem okL {a b : Int} {o s : D} (ha : a ∈ ten) (hb : b ∈ ten) (ho : o ∈ oddS) (hs : s = .tup [.int a, .int b] ∨ s = .lst [.int a, .int b]) : ∀ z, z ∈ items a b o s → okS z = true := by
  have P := List.all_eq_true.mp (List.all_eq_true.mp s_pairs a ha) b hb
  have Q := List.all_eq_true.mp (List.all_eq_true.mp s_odds a ha) o ho
  have Q' := List.all_eq_true.mp (List.all_eq_true.mp s_odds b hb) o ho
  have N := List.all_eq_true.mp s_ones a ha
  have R := List.all_eq_true.mp s_rest
  have R1 := R _ (List.mem_append_left _ ho)
  have R2 : ∀ z, z ∈ [D.tup [.int 1, .int 2, .int 3], D.tup [.int 1, .int 0], D.lst [.int 1, .int 0], D.tup [.int 0, .int 1]] → okS z = true := fun z h => R z (List.mem_append_right _ h)
  clear R
  rw [Bool.and_eq_true] at P Q Q'
  intro z hz
  simp only [items, List.mem_cons, List.not_mem_nil, or_false] at hz
  rcases hz with rfl | rfl | rfl | rfl | rfl | rfl | rfl | rfl | rfl
  · rcases hs with rfl | rfl
    · exact P.1
    · exact P.2
  · exact Q.1
  · exact Q'.2
  · exact N
  · exact R2 _ (by simp)
  · exact R2 _ (by simp)
  · exact R2 _ (by simp)
  · exact R2 _ (by simp)
  · exact R1
theorem s4 {ρ : Vars} (h : St4 ρ) : Goes (tx.pgm 11) (s_i 4) (vle vB) ρ := by
  obtain ⟨a, b, o, s, ha, hb, ho, hs, rfl⟩ := h
  have K := okL ha hb ho hs
  clear ha hb ho hs
  refine gone_nx ?_
  have e0 : s_i 4 = .for .seq (.lst (.cons (.var 4) (.cons (.tup (.cons (.var 1) (.cons (.var 3) .nil))) (.cons (.lst (.cons (.var 3) (.cons (.var 2) .nil))) (.cons (.tup (.cons (.var 1) .nil)) (.cons (.tup (.cons (.lit (.int 1)) (.cons (.lit (.int 2)) (.cons (.lit (.int 3)) .nil)))) (.cons (.tup (.cons (.lit (.int 1)) (.cons (.lit (.int 0)) .nil))) (.cons (.lst (.cons (.lit (.int 1)) (.cons (.lit (.int 0)) .nil))) (.cons (.tup (.cons (.lit (.int 0)) (.cons (.lit (.int 1)) .nil))) (.cons (.var 3) .nil)))))))))) (.name 5) s_b := rfl
  have h : ∀ x5 x6 x7 x8 x9 x10 : Sv, evalE (tx.pgm 11) (.lst (.cons (.var 4) (.cons (.tup (.cons (.var 1) (.cons (.var 3) .nil))) (.cons (.lst (.cons (.var 3) (.cons (.var 2) .nil))) (.cons (.tup (.cons (.var 1) .nil)) (.cons (.tup (.cons (.lit (.int 1)) (.cons (.lit (.int 2)) (.cons (.lit (.int 3)) .nil)))) (.cons (.tup (.cons (.lit (.int 1)) (.cons (.lit (.int 0)) .nil))) (.cons (.lst (.cons (.lit (.int 1)) (.cons (.lit (.int 0)) .nil))) (.cons (.tup (.cons (.lit (.int 0)) (.cons (.lit (.int 1)) .nil))) (.cons (.var 3) .nil)))))))))) [.dat .hand, .dat (.int a), .dat (.int b), .dat o, .dat s, x5, x6, x7, x8, x9, x10] = .ret (.lst (items a b o s)) := by
    intro x5 x6 x7 x8 x9 x10
    clear K e0
    unfold items
    walk_at "ax"
  rw [e0, for_seq (h _ _ _ _ _ _) (by show 9 ≤ 10000; decide)]
  refine forGo_inv ?_ ?_
  · intro x ρ m v
    exact body_ok (K x m) v
  · have u : ∀ d : D, Sv.le .unk (.dat d) := fun _ => Or.inr ⟨rfl, rfl⟩
    have r : Sv.le .unk .unk := Or.inl rfl
    exact ⟨Or.inl rfl, u _, u _, u _, u _, r, r, r, r, r, r, trivial⟩
theorem r_slopes : All True (fun d => d = .bl true) (fun _ => False) (tx.run 12 36 [.hand]) := by
  refine All.run (d := ⟨1, 11, b__law_slopes⟩) (ρ := .dat .hand :: List.replicate 10 .unk) rfl rfl rfl ?_
  show All True _ _ (evalS (tx.pgm 11) (.seq (s_i 0) (.seq (s_i 1) (.seq (s_i 2) (.seq (s_i 3) (.seq (s_i 4) (s_r 5)))))) none (.dat .hand :: List.replicate 10 .unk))
  refine assoc_seq (assoc_seq (assoc_seq ?_))
  refine goes s0123 ?_
  intro ρ h
  refine goes (s4 h) ?_
  intro ρ' v
  refine All.mono ?_ (fun _ z => z) (end_ok v)
  rintro fl ⟨ρ'', rfl⟩
  exact ⟨_, _, rfl, rfl⟩
end K04

set_option Elab.async false
set_option maxRecDepth 100000
set_option maxHeartbeats 4000000
set_option linter.all false
namespace K04
open PySem Ez Tr

/-! no faces -/
theorem less_chk : (tx.run 12 40 [.hand]).chk (fun d => deq d (.bl true)) (fun _ => false) = true := by decide +kernel
theorem r_less : All True (fun d => d = .bl true) (fun _ => False) (tx.run 12 40 [.hand]) := All.mono (fun _ h => deq_eq h) (fun _ z => z) (of_chk less_chk (fun _ => rfl))
end K04

set_option Elab.async false
set_option maxRecDepth 100000
set_option maxHeartbeats 4000000
set_option linter.all false
namespace K04
open PySem Ez Tr
local macro_rules | `(tactic| walk_at "ax") => `(tactic| simp [↓bind_T, ↓bindT_ret, ↓bindT_exn, ↓bindT_bad, ↓bindT_draw, ↓mapX_ret, ↓mapX_exn, ↓mapX_bad, ↓mapX_draw, ↓noX_ret, ↓noX_exn, ↓noX_bad, ↓noX_draw, ↓catch_T, ↓catT_ret, ↓catT_exn, ↓catT_bad, ↓catT_draw, ↓E_var, ↓ev_var, ↓E_lit, ↓ev_lit, ↓E_con, ↓ev_con, ↓E_fnv, ↓ev_fnv, ↓E_clv, ↓ev_clv, ↓E_op, ↓ev_op, ↓E_neg, ↓ev_neg, ↓E_and, ↓ev_and, ↓E_or, ↓ev_or, ↓E_not, ↓ev_not, ↓E_notT, ↓ev_notT, ↓E_isN, ↓ev_isN, ↓E_notN, ↓ev_notN, ↓E_tru, ↓ev_tru, ↓E_chain, ↓ev_chain, ↓E_ifx, ↓ev_ifx, ↓E_nil, ↓ev_nil, ↓E_cons, ↓ev_cons, ↓E_tup, ↓ev_tup, ↓E_lst, ↓ev_lst, ↓E_slc, ↓ev_slc, ↓E_nop, ↓ev_nop, ↓E_part, ↓ev_part, ↓E_call, ↓ev_call, ↓E_callV, ↓ev_callV, ↓E_take, ↓ev_take, ↓E_bi, ↓ev_bi, ↓E_isi, ↓ev_isi, ↓E_isi2, ↓ev_isi2, ↓E_isC, ↓ev_isC, ↓E_lc, ↓ev_lc, ↓E_yes, ↓ev_yes, ↓E_eqR, ↓ev_eqR, ↓E_xf, ↓ev_xf, ↓E_fld, ↓ev_fld, ↓E_lenO, ↓ev_lenO, ↓E_tupO, ↓ev_tupO, ↓E_ixO, ↓ev_ixO, ↓S_nop, ↓es_nop, ↓S_seq, ↓es_seq, ↓S_asg, ↓es_asg, ↓S_asgO, ↓es_asgO, ↓S_par, ↓es_par, ↓S_app, ↓es_app, ↓S_setO, ↓es_setO, ↓S_ret, ↓es_ret, ↓S_retN, ↓es_retN, ↓S_ite, ↓es_ite, ↓S_for, ↓es_for, ↓S_whl, ↓es_whl, ↓S_rse, ↓es_rse, ↓S_try, ↓es_try, ↓S_hnil, ↓S_hcons, ↓es_hcons, ↓S_drop, ↓es_drop, ↓S_keep, ↓es_keep, ↓S_brk, ↓es_brk, ↓S_cnt, ↓es_cnt, ↓at_, getV, getO, isiD, D.isNon, op2, o2_add, o2_sub, o2_lt, o2_le, o2_gt, o2_ge, o2_isB, o2_isnB, biD, bi_lenD, bi_absD, bi_intD, bi_listD, bi_tupleD, bi_gcd2D, bi_gcd3D, bi_min2D, bi_max2D, Fl.res, ↓runD, startD, toB, truD, optI, slcT, noExc, Sv.isExc, Fl.clr, Fl.off, Sv.clr, evalG, Tg.len, Tg.inn, wipeV, itemsOf, rngL, lcGo, forGo, pgm_call, pgm_con, pgm_fld, pgm_xf, pgm_sub, pgm_most, pgm_ok, scaV, dOf, EE.fresh, ix_t10, ix_t20, ix_t21, ix_t30, ix_t31, ix_t32, ix_l10, ix_l20, ix_l21, ix_l30, ix_l31, ix_l32, @o2_eq_int, @o2_ne_int, *])
local macro_rules | `(tactic| walk_at "gd") => `(tactic| simp [↓bind_T, ↓bindT_ret, ↓bindT_exn, ↓bindT_bad, ↓bindT_draw, ↓mapX_ret, ↓mapX_exn, ↓mapX_bad, ↓mapX_draw, ↓noX_ret, ↓noX_exn, ↓noX_bad, ↓noX_draw, ↓catch_T, ↓catT_ret, ↓catT_exn, ↓catT_bad, ↓catT_draw, ↓E_var, ↓ev_var, ↓E_lit, ↓ev_lit, ↓E_con, ↓ev_con, ↓E_fnv, ↓ev_fnv, ↓E_clv, ↓ev_clv, ↓E_op, ↓ev_op, ↓E_neg, ↓ev_neg, ↓E_and, ↓ev_and, ↓E_or, ↓ev_or, ↓E_not, ↓ev_not, ↓E_notT, ↓ev_notT, ↓E_isN, ↓ev_isN, ↓E_notN, ↓ev_notN, ↓E_tru, ↓ev_tru, ↓E_chain, ↓ev_chain, ↓E_ifx, ↓ev_ifx, ↓E_nil, ↓ev_nil, ↓E_cons, ↓ev_cons, ↓E_tup, ↓ev_tup, ↓E_lst, ↓ev_lst, ↓E_slc, ↓ev_slc, ↓E_nop, ↓ev_nop, ↓E_part, ↓ev_part, ↓E_call, ↓ev_call, ↓E_callV, ↓ev_callV, ↓E_take, ↓ev_take, ↓E_bi, ↓ev_bi, ↓E_isi, ↓ev_isi, ↓E_isi2, ↓ev_isi2, ↓E_isC, ↓ev_isC, ↓E_lc, ↓ev_lc, ↓E_yes, ↓ev_yes, ↓E_eqR, ↓ev_eqR, ↓E_xf, ↓ev_xf, ↓E_fld, ↓ev_fld, ↓E_lenO, ↓ev_lenO, ↓E_tupO, ↓ev_tupO, ↓E_ixO, ↓ev_ixO, ↓S_nop, ↓es_nop, ↓S_seq, ↓es_seq, ↓S_asg, ↓es_asg, ↓S_asgO, ↓es_asgO, ↓S_par, ↓es_par, ↓S_app, ↓es_app, ↓S_setO, ↓es_setO, ↓S_ret, ↓es_ret, ↓S_retN, ↓es_retN, ↓S_ite, ↓es_ite, ↓S_for, ↓es_for, ↓S_whl, ↓es_whl, ↓S_rse, ↓es_rse, ↓S_try, ↓es_try, ↓S_hnil, ↓S_hcons, ↓es_hcons, ↓S_drop, ↓es_drop, ↓S_keep, ↓es_keep, ↓S_brk, ↓es_brk, ↓S_cnt, ↓es_cnt, ↓at_, getV, getO, isiD, D.isNon, op2, o2_add, o2_sub, o2_lt, o2_le, o2_gt, o2_ge, o2_isB, o2_isnB, biD, bi_lenD, bi_absD, bi_intD, bi_tupleD, bi_min2D, bi_max2D, Fl.res, ↓runD, startD, toB, truD, optI, slcT, noExc, Sv.isExc, Fl.clr, Fl.off, Sv.clr, evalG, Tg.len, Tg.inn, wipeV, itemsOf, rngL, lcGo, forGo, pgm_call, pgm_con, pgm_fld, pgm_xf, pgm_sub, pgm_most, pgm_ok, scaV, dOf, EE.fresh, ix_t10, ix_t20, ix_t21, ix_t30, ix_t31, ix_t32, ix_l10, ix_l20, ix_l21, ix_l30, ix_l31, ix_l32, @o2_eq_int, @o2_ne_int, *])
/-! the law, first half -/
noncomputable abbrev l_i (n : Nat) : SS := firstS (rests b_law n)
noncomputable abbrev l_r (n : Nat) : SS := rests b_law n
section
variable (f x y : Int) (x2 x3 x4 x5 x6 x7 x8 x9 x10 x11 x12 x13 x14 x15 : Sv)
theorem l0g : Goes (tx.pgm 12) (l_i 0) (fun ρ => ρ = [.unk, .dat .hand, x2, x3, x4, x5, x6, x7, x8, x9, x10, x11, x12, x13, x14, x15]) [.unk, .dat .hand, x2, x3, x4, x5, x6, x7, x8, x9, x10, x11, x12, x13, x14, x15] := by
  have A := r_slopes
  have B := r_less
  simp only [Goes, l_i, firstS, rests, b_law]
  walk_at "ax"
  try simp only [bindT_bindT, mapX_bindT, mapX_mapX]
  refine All.bt0 (All.mx0 A) ?_
  rintro _ rfl
  try walk_at "ax"
  try simp only [bindT_bindT, mapX_bindT, mapX_mapX]
  refine All.bt0 (All.mx0 B) ?_
  rintro _ rfl
  try walk_at "ax"
  exact rfl
theorem l1 : Goes (tx.pgm 12) (l_i 1) (fun ρ => ∃ f : Int, 0 ≤ f ∧ f ≤ 5 ∧ ρ = [.unk, .dat .hand, .dat (.int f), x3, x4, x5, x6, x7, x8, x9, x10, x11, x12, x13, x14, x15]) [.unk, .dat .hand, x2, x3, x4, x5, x6, x7, x8, x9, x10, x11, x12, x13, x14, x15] := by
  simp only [Goes, l_i, firstS, rests, b_law]
  walk_at "ax"
  exact All.drawI (by decide) (by decide) fun v v0 v1 => ⟨_, rfl, v, v0, by omega, rfl⟩
theorem l2 (f0 : 0 ≤ f) (f1 : f ≤ 5) : Goes (tx.pgm 12) (l_i 2) (fun ρ => ∃ x y : Int, inR x ∧ inR y ∧ Int.gcd x y = 1 ∧ ρ = [.unk, .dat .hand, .dat (.int f), .dat (.tup (c3 (dr f x y))), x4, x5, x6, x7, x8, x9, x10, x11, x12, x13, x14, x15]) [.unk, .dat .hand, .dat (.int f), x3, x4, x5, x6, x7, x8, x9, x10, x11, x12, x13, x14, x15] := by
  have R := r_drawn 9 f f0 f1
  simp only [Goes, l_i, firstS, rests, b_law]
  walk_at "ax"
  refine All.bt0 (All.mx0 R) ?_
  rintro _ ⟨x, y, hx, hy, gc, rfl⟩
  rw [(dir_c3 x y f0 f1).1]
  first | exact ⟨_, rfl, x, y, hx, hy, gc, rfl⟩ | exact ⟨_, rfl, x, hx, y, hy, gc, rfl⟩
theorem l345 (f0 : 0 ≤ f) (f1 : f ≤ 5) : evalS (tx.pgm 12) (.seq (.seq (l_i 3) (l_i 4)) (l_i 5)) none [.unk, .dat .hand, .dat (.int f), .dat (.tup (c3 (dr f x y))), x4, x5, x6, x7, x8, x9, x10, x11, x12, x13, x14, x15] = .ret (.nx [.unk, .dat .hand, .dat (.int f), .dat (.tup (c3 (dr f x y))), .dat (.tup [.int (axL f).1, .int (axL f).2]), .dat (.int x), .dat (.int y), x7, x8, x9, x10, x11, x12, x13, x14, x15]) := by
  have X := r_laxes 11 f f0 f1
  obtain ⟨I, J⟩ := ix_c3 (dr f x y) f0 f1
  obtain ⟨_, ea, eb, _⟩ := dir_c3 x y f0 f1
  rw [ea] at I
  rw [eb] at J
  clear ea eb f0 f1
  generalize c3 (dr f x y) = l at *
  generalize (axL f).1 = s at *
  generalize (axL f).2 = t at *
  simp only [l_i, firstS, rests, b_law]
  walk_at "ax"
theorem l6 (f0 : 0 ≤ f) (f1 : f ≤ 5) (hx : inR x) (hy : inR y) (g : Int.gcd x y = 1) (a : D) : evalS (tx.pgm 12) (l_i 6) none [.unk, .dat .hand, .dat (.int f), .dat (.tup (c3 (dr f x y))), .dat a, .dat (.int x), .dat (.int y), x7, x8, x9, x10, x11, x12, x13, x14, x15] = .ret (.nx [.unk, .dat .hand, .dat (.int f), .dat (.tup (c3 (dr f x y))), .dat a, .dat (.int x), .dat (.int y), x7, x8, x9, x10, x11, x12, x13, x14, x15]) := by
  have C := (c_dir 9 f x y f0 f1 hx hy g).2
  have U := r_unframed 8 f x y f0 f1
  rw [(dir_c3 x y f0 f1).1] at U
  have L : bi_listD [.tup (c3 (dr f x y))] = .ret (.lst (c3 (dr f x y))) := by rfl
  have N := o2_ne_self (show D.cmp (.tup (c3 (dr f x y))) = true from by rfl)
  clear f0 f1 hx hy g
  generalize c3 (dr f x y) = l at *
  simp only [l_i, firstS, rests, b_law]
  walk_at "gd"
theorem l7 (f0 : 0 ≤ f) (f1 : f ≤ 5) (hx : inR x) (hy : inR y) (g : Int.gcd x y = 1) (a : D) : evalS (tx.pgm 12) (l_i 7) none [.unk, .dat .hand, .dat (.int f), .dat (.tup (c3 (dr f x y))), .dat a, .dat (.int x), .dat (.int y), .unk, x8, x9, x10, x11, x12, x13, x14, x15] = .ret (.nx [.unk, .dat .hand, .dat (.int f), .dat (.tup (c3 (dr f x y))), .dat a, .dat (.int x), .dat (.int y), .unk, x8, x9, x10, x11, x12, x13, x14, x15]) := by
  have B := r_back 8 f x y f0 f1 hx hy g
  rw [← dr_neg] at B
  have Lf : tx.run 12 15 [.int f, .lst (c3 (dr f x y))] = .ret (.tup (c3 (dr f (-y) x))) := by
    have C := (c_dir 8 f x y f0 f1 hx hy g).2
    have F := (f_dir 7 f (dr f x y) f0 f1).1
    obtain ⟨_, ea, eb, _⟩ := dir_c3 x y f0 f1
    rw [ea, eb] at F
    have U := r_unframed 7 f (-y) x f0 f1
    rw [(dir_c3 (-y) x f0 f1).1] at U
    clear f0 f1 hx hy g ea eb B
    generalize c3 (dr f x y) = l at *
    generalize c3 (dr f (-y) x) = l' at *
    have e_left_of : tx.run (12) 15 [.int f, .lst l] = runD (tx.pgm (11)) ⟨2, 4, b_left_of⟩ [.int f, .lst l] := rfl
    rw [e_left_of, b_left_of]; clear e_left_of
    walk_at "ax"
  have S := r_steps 10 f (-y) x f0 f1
  rw [(dir_c3 (-y) x f0 f1).1] at S
  have L : bi_listD [.tup (c3 (dr f x y))] = .ret (.lst (c3 (dr f x y))) := by rfl
  have N := o2_ne_self (show D.cmp (.tup (c3 (dr f (-y) x))) = true from by rfl)
  have M := o2_ne_self (show D.cmp (.tup (c3 fun k => -dr f x y k)) = true from by rfl)
  clear f0 f1 hx hy g
  generalize c3 (dr f (-y) x) = m at *
  have e1 : c3 (dr f x y) = [.int (dr f x y 0), .int (dr f x y 1), .int (dr f x y 2)] := rfl
  have e2 : (c3 fun k => -dr f x y k) = [.int (-dr f x y 0), .int (-dr f x y 1), .int (-dr f x y 2)] := rfl
  rw [e1, e2] at B
  rw [e1] at L Lf
  rw [e2] at M
  rw [e1]
  clear e1 e2
  generalize dr f x y 0 = u at *
  generalize dr f x y 1 = v at *
  generalize dr f x y 2 = w at *
  simp only [l_i, firstS, rests, b_law]
  walk_at "gd"
end
end K04

set_option Elab.async false
set_option maxRecDepth 100000
set_option maxHeartbeats 4000000
set_option linter.all false
namespace K04
open PySem Ez Tr
local macro_rules | `(tactic| walk_at "ax") => `(tactic| simp [↓bind_T, ↓bindT_ret, ↓bindT_exn, ↓bindT_bad, ↓bindT_draw, ↓mapX_ret, ↓mapX_exn, ↓mapX_bad, ↓mapX_draw, ↓noX_ret, ↓noX_exn, ↓noX_bad, ↓noX_draw, ↓catch_T, ↓catT_ret, ↓catT_exn, ↓catT_bad, ↓catT_draw, ↓E_var, ↓ev_var, ↓E_lit, ↓ev_lit, ↓E_con, ↓ev_con, ↓E_fnv, ↓ev_fnv, ↓E_clv, ↓ev_clv, ↓E_op, ↓ev_op, ↓E_neg, ↓ev_neg, ↓E_and, ↓ev_and, ↓E_or, ↓ev_or, ↓E_not, ↓ev_not, ↓E_notT, ↓ev_notT, ↓E_isN, ↓ev_isN, ↓E_notN, ↓ev_notN, ↓E_tru, ↓ev_tru, ↓E_chain, ↓ev_chain, ↓E_ifx, ↓ev_ifx, ↓E_nil, ↓ev_nil, ↓E_cons, ↓ev_cons, ↓E_tup, ↓ev_tup, ↓E_lst, ↓ev_lst, ↓E_slc, ↓ev_slc, ↓E_nop, ↓ev_nop, ↓E_part, ↓ev_part, ↓E_call, ↓ev_call, ↓E_callV, ↓ev_callV, ↓E_take, ↓ev_take, ↓E_bi, ↓ev_bi, ↓E_isi, ↓ev_isi, ↓E_isi2, ↓ev_isi2, ↓E_isC, ↓ev_isC, ↓E_lc, ↓ev_lc, ↓E_yes, ↓ev_yes, ↓E_eqR, ↓ev_eqR, ↓E_xf, ↓ev_xf, ↓E_fld, ↓ev_fld, ↓E_lenO, ↓ev_lenO, ↓E_tupO, ↓ev_tupO, ↓E_ixO, ↓ev_ixO, ↓S_nop, ↓es_nop, ↓S_seq, ↓es_seq, ↓S_asg, ↓es_asg, ↓S_asgO, ↓es_asgO, ↓S_par, ↓es_par, ↓S_app, ↓es_app, ↓S_setO, ↓es_setO, ↓S_ret, ↓es_ret, ↓S_retN, ↓es_retN, ↓S_ite, ↓es_ite, ↓S_for, ↓es_for, ↓S_whl, ↓es_whl, ↓S_rse, ↓es_rse, ↓S_try, ↓es_try, ↓S_hnil, ↓S_hcons, ↓es_hcons, ↓S_drop, ↓es_drop, ↓S_keep, ↓es_keep, ↓S_brk, ↓es_brk, ↓S_cnt, ↓es_cnt, ↓at_, getV, getO, isiD, D.isNon, op2, o2_add, o2_sub, o2_lt, o2_le, o2_gt, o2_ge, o2_isB, o2_isnB, biD, bi_lenD, bi_absD, bi_intD, bi_listD, bi_tupleD, bi_gcd2D, bi_gcd3D, bi_min2D, bi_max2D, Fl.res, ↓runD, startD, toB, truD, optI, slcT, noExc, Sv.isExc, Fl.clr, Fl.off, Sv.clr, evalG, Tg.len, Tg.inn, wipeV, itemsOf, rngL, lcGo, forGo, pgm_call, pgm_con, pgm_fld, pgm_xf, pgm_sub, pgm_most, pgm_ok, scaV, dOf, EE.fresh, ix_t10, ix_t20, ix_t21, ix_t30, ix_t31, ix_t32, ix_l10, ix_l20, ix_l21, ix_l30, ix_l31, ix_l32, @o2_eq_int, @o2_ne_int, *])
/-! the law, second half -/
section
variable (f x y : Int) (x2 x3 x4 x5 x6 x7 x8 x9 x10 x11 x12 x13 x14 x15 : Sv)
theorem l89 (h : x ≠ 0 ∨ y ≠ 0) (d a : D) : evalS (tx.pgm 12) (.seq (l_i 8) (l_i 9)) none [.unk, .dat .hand, .dat (.int f), .dat d, .dat a, .dat (.int x), .dat (.int y), .unk, x8, x9, .unk, x11, x12, x13, x14, x15] = .ret (.nx [.unk, .dat .hand, .dat (.int f), .dat d, .dat a, .dat (.int x), .dat (.int y), .unk, .dat (.lst [rt x y, rt (-y) x, rt (-x) (-y), rt y (-x)]), .dat (.lst [rt (sl x y).1 (sl x y).2]), .unk, x11, x12, x13, x14, x15]) := by
  simp only [l_i, firstS, rests, b_law]
  unfold sl
  have px : x < 0 ∨ x = 0 ∨ 0 < x := by omega
  have py : y < 0 ∨ y = 0 ∨ 0 < y := by omega
  have lem : ∀ z : Int, (z < 0 → ¬ 1 ≤ z ∧ ¬ 0 ≤ z ∧ z ≤ 0 ∧ 1 ≤ -z ∧ z ≤ -1 ∧ 0 ≤ -z ∧ z + 1 ≤ 0) ∧ (0 < z → 1 ≤ z ∧ 0 ≤ z ∧ ¬ z ≤ 0 ∧ ¬ 1 ≤ -z ∧ ¬ z ≤ -1 ∧ ¬ 0 ≤ -z ∧ ¬ z + 1 ≤ 0) := by intro z; omega
  rcases px with px | px | px <;> rcases py with py | py | py
  · obtain ⟨a1, a2, a3, a4, a5, a6, a7⟩ := (lem x).1 px; obtain ⟨b1, b2, b3, b4, b5, b6, b7⟩ := (lem y).1 py; clear lem px py; walk_at "ax"
  · obtain ⟨a1, a2, a3, a4, a5, a6, a7⟩ := (lem x).1 px; subst py; clear lem px h; walk_at "ax"
  · obtain ⟨a1, a2, a3, a4, a5, a6, a7⟩ := (lem x).1 px; obtain ⟨b1, b2, b3, b4, b5, b6, b7⟩ := (lem y).2 py; clear lem px py; walk_at "ax"
  · subst px; obtain ⟨b1, b2, b3, b4, b5, b6, b7⟩ := (lem y).1 py; clear lem py h; walk_at "ax"
  · exfalso; omega
  · subst px; obtain ⟨b1, b2, b3, b4, b5, b6, b7⟩ := (lem y).2 py; clear lem py h; walk_at "ax"
  · obtain ⟨a1, a2, a3, a4, a5, a6, a7⟩ := (lem x).2 px; obtain ⟨b1, b2, b3, b4, b5, b6, b7⟩ := (lem y).1 py; clear lem px py; walk_at "ax"
  · obtain ⟨a1, a2, a3, a4, a5, a6, a7⟩ := (lem x).2 px; subst py; clear lem px h; walk_at "ax"
  · obtain ⟨a1, a2, a3, a4, a5, a6, a7⟩ := (lem x).2 px; obtain ⟨b1, b2, b3, b4, b5, b6, b7⟩ := (lem y).2 py; clear lem px py; walk_at "ax"
theorem l10 (f0 : 0 ≤ f) (f1 : f ≤ 5) (hx : inR x) (hy : inR y) (g : Int.gcd x y = 1) (a t : D) : evalS (tx.pgm 12) (l_i 10) none [.unk, .dat .hand, .dat (.int f), .dat (.tup (c3 (dr f x y))), .dat a, x5, x6, x7, .dat t, .dat (.lst [rt (sl x y).1 (sl x y).2]), x10, x11, x12, x13, x14, x15] = .ret (.nx [.unk, .dat .hand, .dat (.int f), .dat (.tup (c3 (dr f x y))), .dat a, x5, x6, x7, .dat t, .dat (.lst [rt (sl x y).1 (sl x y).2]), x10, x11, x12, x13, x14, x15]) := by
  have S := r_slope 6 f x y f0 f1 hx hy g
  have T := tup2 10 (sl x y).1 (sl x y).2
  have N := o2_ne_self (show D.cmp (rt (sl x y).1 (sl x y).2) = true from by rfl)
  have I : o2_ix (.lst [rt (sl x y).1 (sl x y).2]) (.int 0) = .ret (rt (sl x y).1 (sl x y).2) := rfl
  have LN : bi_lenD [.lst [rt (sl x y).1 (sl x y).2]] = .ret (.int 1) := rfl
  clear f0 f1 hx hy g
  generalize c3 (dr f x y) = l at *
  generalize (sl x y).1 = u at *
  generalize (sl x y).2 = v at *
  simp only [l_i, firstS, rests, b_law]
  walk_at "ax"
theorem l11g (d a t u : D) : Goes (tx.pgm 12) (l_i 11) (fun ρ => ∃ e : Int, 0 ≤ e ∧ e ≤ 5 ∧ ρ = [.unk, .dat .hand, .dat (.int f), .dat d, .dat a, x5, x6, x7, .dat t, .dat u, x10, .dat (.int e), x12, x13, x14, x15]) [.unk, .dat .hand, .dat (.int f), .dat d, .dat a, x5, x6, x7, .dat t, .dat u, x10, x11, x12, x13, x14, x15] := by
  simp only [Goes, l_i, firstS, rests, b_law]
  walk_at "ax"
  exact All.drawI (by decide) (by decide) fun v v0 v1 => ⟨_, rfl, v, v0, by omega, rfl⟩
theorem l12 (e : Int) (e0 : 0 ≤ e) (e1 : e ≤ 5) (s : Int → Int) (a t u : D) : evalS (tx.pgm 12) (l_i 12) none [.unk, .dat .hand, .dat (.int f), .dat (.tup (c3 s)), .dat a, x5, x6, x7, .dat t, .dat u, x10, .dat (.int e), x12, x13, x14, x15] = .ret (.nx [.unk, .dat .hand, .dat (.int f), .dat (.tup (c3 s)), .dat a, x5, x6, x7, .dat t, .dat u, x10, .dat (.int e), x12, x13, x14, x15]) := by
  have A : tx.run 12 16 [.int e, .tup (c3 s)] = .ret (.int (outw e (s 0) (s 1) (s 2))) := r_out 11 e _ _ _ e0 e1
  have B : tx.run 12 24 [.int e, .tup (c3 s)] = .ret (.int (outw e (s 0) (s 1) (s 2))) := r_lout 11 e _ _ _ e0 e1
  have NE := @o2_ne_int
  clear e0 e1
  generalize outw e (s 0) (s 1) (s 2) = w at *
  generalize c3 s = l at *
  simp only [l_i, firstS, rests, b_law]
  walk_at "ax"
end
/-- what the spoilt thing is -/
def SpD (f x y : Int) (d : D) : Prop := (∃ w, Bad f d w) ∨ d = .tup (c3 (dr f x y)) ∨ d = .lst (c3 (dr f x y))
/-- what is asked of the loop -/
structure Ask (f e : Int) (d w : D) : Prop where
  go : ∀ (k : Nat), k = 7 ∨ k = 11 ∨ k = 15 ∨ k = 14 → ∀ (x3 x4 x5 x6 x7 x8 x9 x10 x15 : Sv), ∃ u : D, evalS (tx.pgm 12) (bodyF (l_i 15)) none [.unk, .dat .hand, .dat (.int f), x3, x4, x5, x6, x7, x8, x9, x10, .dat (.int e), .dat d, .dat w, .dat (.fn k), x15] = .ret (.nx [.unk, .dat .hand, .dat (.int f), x3, x4, x5, x6, x7, x8, x9, x10, .dat (.int e), .dat d, .dat w, .dat (.fn k), .dat u])
theorem okk {k : Nat} (h : k = 7 ∨ k = 11 ∨ k = 15 ∨ k = 14) : tx.ok k = true := by
  rcases h with rfl | rfl | rfl | rfl <;> rfl
theorem of4 {P : Nat → Prop} {k : Nat} (h : k = 7 ∨ k = 11 ∨ k = 15 ∨ k = 14) (a : P 7 ∧ P 11 ∧ P 15 ∧ P 14) : P k := by
  rcases h with rfl | rfl | rfl | rfl
  · exact a.1
  · exact a.2.1
  · exact a.2.2.1
  · exact a.2.2.2
theorem ask_bad {f e : Int} {d : D} {w : Str} (e0 : 0 ≤ e) (e1 : e ≤ 5) (B : Bad f d w) : Ask f e d (.str w) := ⟨fun k hk x3 x4 x5 x6 x7 x8 x9 x10 x15 => by
  have K := okk hk
  have D1 := deed_bad (f := f) (d := d) (w := w) K (of4 (P := fun k => tx.run 11 k [.int f, d] = .exn ⟨3, [.str w]⟩) hk (fst_exn 7 B.c))
  have D2 := deed_face (b := e + 6) (d := d) K (of4 (P := fun k => tx.run 11 k [.int (e + 6), d] = .exn ⟨1, [.int (e + 6)]⟩) hk (fst_exn 7 (chk_face (by omega) d)))
  have L := like_same (b := e + 6) (by omega) (by omega)
  have N := o2_ne_self (show D.cmp (bdir w) = true from B.k)
  refine ⟨bdir w, ?_⟩
  clear hk B e0 e1
  simp only [l_i, firstS, rests, b_law, bodyF]
  walk_at "ax"⟩
theorem ask_good {f e : Int} {d : D} (e0 : 0 ≤ e) (e1 : e ≤ 5) (G : (∃ t, tx.run 11 7 [.int f, d] = .ret (.tup t)) ∧ (∃ t, tx.run 11 11 [.int f, d] = .ret (.tup t)) ∧ (∃ t, tx.run 11 15 [.int f, d] = .ret (.tup t)) ∧ (∃ t, tx.run 11 14 [.int f, d] = .ret (.tup t))) : Ask f e d .non := ⟨fun k hk x3 x4 x5 x6 x7 x8 x9 x10 x15 => by
  have K := okk hk
  obtain ⟨t, ht⟩ := of4 (P := fun k => ∃ t, tx.run 11 k [.int f, d] = .ret (.tup t)) hk G
  have D1 := deed_ret K ht
  have D2 := deed_face (b := e + 6) (d := d) K (of4 (P := fun k => tx.run 11 k [.int (e + 6), d] = .exn ⟨1, [.int (e + 6)]⟩) hk (fst_exn 7 (chk_face (by omega) d)))
  have L := like_same (b := e + 6) (by omega) (by omega)
  refine ⟨.tup t, ?_⟩
  clear hk G e0 e1 ht
  simp only [l_i, firstS, rests, b_law, bodyF]
  walk_at "ax"⟩
end K04

set_option Elab.async false
set_option maxRecDepth 100000
set_option maxHeartbeats 4000000
set_option linter.all false
namespace K04
open PySem Ez Tr
local macro_rules | `(tactic| walk_at "ax") => `(tactic| simp [↓bind_T, ↓bindT_ret, ↓bindT_exn, ↓bindT_bad, ↓bindT_draw, ↓mapX_ret, ↓mapX_exn, ↓mapX_bad, ↓mapX_draw, ↓noX_ret, ↓noX_exn, ↓noX_bad, ↓noX_draw, ↓catch_T, ↓catT_ret, ↓catT_exn, ↓catT_bad, ↓catT_draw, ↓E_var, ↓ev_var, ↓E_lit, ↓ev_lit, ↓E_con, ↓ev_con, ↓E_fnv, ↓ev_fnv, ↓E_clv, ↓ev_clv, ↓E_op, ↓ev_op, ↓E_neg, ↓ev_neg, ↓E_and, ↓ev_and, ↓E_or, ↓ev_or, ↓E_not, ↓ev_not, ↓E_notT, ↓ev_notT, ↓E_isN, ↓ev_isN, ↓E_notN, ↓ev_notN, ↓E_tru, ↓ev_tru, ↓E_chain, ↓ev_chain, ↓E_ifx, ↓ev_ifx, ↓E_nil, ↓ev_nil, ↓E_cons, ↓ev_cons, ↓E_tup, ↓ev_tup, ↓E_lst, ↓ev_lst, ↓E_slc, ↓ev_slc, ↓E_nop, ↓ev_nop, ↓E_part, ↓ev_part, ↓E_call, ↓ev_call, ↓E_callV, ↓ev_callV, ↓E_take, ↓ev_take, ↓E_bi, ↓ev_bi, ↓E_isi, ↓ev_isi, ↓E_isi2, ↓ev_isi2, ↓E_isC, ↓ev_isC, ↓E_lc, ↓ev_lc, ↓E_yes, ↓ev_yes, ↓E_eqR, ↓ev_eqR, ↓E_xf, ↓ev_xf, ↓E_fld, ↓ev_fld, ↓E_lenO, ↓ev_lenO, ↓E_tupO, ↓ev_tupO, ↓E_ixO, ↓ev_ixO, ↓S_nop, ↓es_nop, ↓S_seq, ↓es_seq, ↓S_asg, ↓es_asg, ↓S_asgO, ↓es_asgO, ↓S_par, ↓es_par, ↓S_app, ↓es_app, ↓S_setO, ↓es_setO, ↓S_ret, ↓es_ret, ↓S_retN, ↓es_retN, ↓S_ite, ↓es_ite, ↓S_for, ↓es_for, ↓S_whl, ↓es_whl, ↓S_rse, ↓es_rse, ↓S_try, ↓es_try, ↓S_hnil, ↓S_hcons, ↓es_hcons, ↓S_drop, ↓es_drop, ↓S_keep, ↓es_keep, ↓S_brk, ↓es_brk, ↓S_cnt, ↓es_cnt, ↓at_, getV, getO, isiD, D.isNon, op2, o2_add, o2_sub, o2_lt, o2_le, o2_gt, o2_ge, o2_isB, o2_isnB, biD, bi_lenD, bi_absD, bi_intD, bi_listD, bi_tupleD, bi_gcd2D, bi_gcd3D, bi_min2D, bi_max2D, Fl.res, ↓runD, startD, toB, truD, optI, slcT, noExc, Sv.isExc, Fl.clr, Fl.off, Sv.clr, evalG, Tg.len, Tg.inn, wipeV, itemsOf, rngL, lcGo, forGo, pgm_call, pgm_con, pgm_fld, pgm_xf, pgm_sub, pgm_most, pgm_ok, scaV, dOf, EE.fresh, ix_t10, ix_t20, ix_t21, ix_t30, ix_t31, ix_t32, ix_l10, ix_l20, ix_l21, ix_l30, ix_l31, ix_l32, @o2_eq_int, @o2_ne_int, *])
/-! a drawn spoiling -/
theorem shaped3 (n : Nat) (a b c : D) : All True (fun s => s = .tup [a, b, c] ∨ s = .lst [a, b, c]) (fun _ => False) (tx.run (n + 2) 29 [.hand, .lst [a, b, c]]) := by
  have e__law_shaped : tx.run (n + 2) 29 [.hand, .lst [a, b, c]] = runD (tx.pgm ((n + 1))) ⟨2, 2, b__law_shaped⟩ [.hand, .lst [a, b, c]] := rfl
  rw [e__law_shaped, b__law_shaped]; clear e__law_shaped
  walk_at "ax"
  refine All.drawI (by decide) (by decide) fun v v0 v1 => ?_
  have : v = 0 ∨ v = 1 := by omega
  rcases this with rfl | rfl
  · walk_at "ax"
    exact Or.inr rfl
  · walk_at "ax"
    exact Or.inl rfl
theorem rid_chk : (tx.run 11 27 [.hand]).chk (fun d => noseq.any fun o => deq d o) (fun _ => false) = true := by decide +kernel
theorem r_rid : All True (fun o => o ∈ noseq) (fun _ => False) (tx.run 11 27 [.hand]) := All.mono (fun d h => by
  obtain ⟨o, m, e⟩ := List.any_eq_true.mp h
  exact deq_eq e ▸ m) (fun _ z => z) (of_chk rid_chk (fun _ => rfl))
noncomputable abbrev p_r (n : Nat) : SS := rests b__law_spoilt n
def Sp (f : Int) (a b c : Int) (d : D) : Prop := (∃ w, Bad f d w) ∨ d = .tup [.int a, .int b, .int c] ∨ d = .lst [.int a, .int b, .int c]
abbrev Out (f a b c : Int) (fl : Fl) : Prop := ∃ d ρ', fl = .rt d ρ' ∧ Sp f a b c d
theorem g3_two (a b c : Int) : g3 (2 * a) (2 * b) (2 * c) ≠ 1 := by
  intro h
  have k : ∀ z : Int, 2 ∣ (2 * z).natAbs := fun z => ⟨z.natAbs, by rw [Int.natAbs_mul]; rfl⟩
  have d : 2 ∣ g3 (2 * a) (2 * b) (2 * c) := Nat.dvd_gcd (Nat.dvd_gcd (k a) (k b)) (k c)
  rw [h] at d
  omega
section
variable (f a b c : Int) (d : D)
abbrev st (k : Int) : Vars := [.dat .hand, .dat (.int f), .dat d, .own [.int a, .int b, .int c], .dat (.int k), .unk]
end
end K04

set_option Elab.async false
set_option maxRecDepth 100000
set_option maxHeartbeats 4000000
set_option linter.all false
namespace K04
open PySem Ez Tr
local macro_rules | `(tactic| walk_at "eg") => `(tactic| simp [↓bind_T, ↓bindT_ret, ↓bindT_exn, ↓bindT_bad, ↓bindT_draw, ↓mapX_ret, ↓mapX_exn, ↓mapX_bad, ↓mapX_draw, ↓noX_ret, ↓noX_exn, ↓noX_bad, ↓noX_draw, ↓catch_T, ↓catT_ret, ↓catT_exn, ↓catT_bad, ↓catT_draw, ↓E_var, ↓ev_var, ↓E_lit, ↓ev_lit, ↓E_con, ↓ev_con, ↓E_fnv, ↓ev_fnv, ↓E_clv, ↓ev_clv, ↓E_op, ↓ev_op, ↓E_neg, ↓ev_neg, ↓E_and, ↓ev_and, ↓E_or, ↓ev_or, ↓E_not, ↓ev_not, ↓E_notT, ↓ev_notT, ↓E_isN, ↓ev_isN, ↓E_notN, ↓ev_notN, ↓E_tru, ↓ev_tru, ↓E_chain, ↓ev_chain, ↓E_ifx, ↓ev_ifx, ↓E_nil, ↓ev_nil, ↓E_cons, ↓ev_cons, ↓E_tup, ↓ev_tup, ↓E_lst, ↓ev_lst, ↓E_slc, ↓ev_slc, ↓E_nop, ↓ev_nop, ↓E_part, ↓ev_part, ↓E_call, ↓ev_call, ↓E_callV, ↓ev_callV, ↓E_take, ↓ev_take, ↓E_bi, ↓ev_bi, ↓E_isi, ↓ev_isi, ↓E_isi2, ↓ev_isi2, ↓E_isC, ↓ev_isC, ↓E_lc, ↓ev_lc, ↓E_yes, ↓ev_yes, ↓E_eqR, ↓ev_eqR, ↓E_xf, ↓ev_xf, ↓E_fld, ↓ev_fld, ↓E_lenO, ↓ev_lenO, ↓E_tupO, ↓ev_tupO, ↓E_ixO, ↓ev_ixO, ↓S_nop, ↓es_nop, ↓S_seq, ↓es_seq, ↓S_asg, ↓es_asg, ↓S_asgO, ↓es_asgO, ↓S_par, ↓es_par, ↓S_app, ↓es_app, ↓S_setO, ↓es_setO, ↓S_ret, ↓es_ret, ↓S_retN, ↓es_retN, ↓S_ite, ↓es_ite, ↓S_for, ↓es_for, ↓S_whl, ↓es_whl, ↓S_rse, ↓es_rse, ↓S_try, ↓es_try, ↓S_hnil, ↓S_hcons, ↓es_hcons, ↓S_drop, ↓es_drop, ↓S_keep, ↓es_keep, ↓S_brk, ↓es_brk, ↓S_cnt, ↓es_cnt, ↓at_, getV, getO, isiD, D.isNon, op2, o2_add, o2_sub, o2_lt, o2_le, o2_gt, o2_ge, o2_isB, o2_isnB, biD, bi_lenD, bi_absD, bi_intD, bi_listD, bi_tupleD, bi_gcd2D, bi_gcd3D, bi_min2D, bi_max2D, Fl.res, ↓runD, startD, toB, truD, optI, slcT, noExc, Sv.isExc, Fl.clr, Fl.off, Sv.clr, evalG, Tg.len, Tg.inn, wipeV, itemsOf, rngL, lcGo, forGo, pgm_call, pgm_con, pgm_fld, pgm_xf, pgm_sub, pgm_most, pgm_ok, scaV, dOf, ix_t10, ix_t20, ix_t21, ix_t30, ix_t31, ix_t32, ix_l10, ix_l20, ix_l21, ix_l30, ix_l31, ix_l32, @o2_eq_int, @o2_ne_int, o2_div, o2_mod, o2_mul, o2_ix, L2.ixN, List.set, bindT_bindT, mapX_bindT, mapX_mapX, *])
noncomputable abbrev p_i (n : Nat) : SS := firstS (rests b__law_spoilt n)
abbrev stx (f k : Int) (d x y z : D) : Vars := [.dat .hand, .dat (.int f), .dat d, .own [x, y, z], .dat (.int k), .unk]
section
variable (f k : Int) (d x y z : D)
theorem skip2 (h : ¬ k = 0) : evalS (tx.pgm 11) (p_i 2) none (stx f k d x y z) = .ret (.nx (stx f k d x y z)) := by
  simp only [p_i, firstS, rests, b__law_spoilt, stx]
  walk_at "eg"
theorem skip3 (h : ¬ k = 1) : evalS (tx.pgm 11) (p_i 3) none (stx f k d x y z) = .ret (.nx (stx f k d x y z)) := by
  simp only [p_i, firstS, rests, b__law_spoilt, stx]
  walk_at "eg"
theorem skip4 (h : ¬ k = 2) : evalS (tx.pgm 11) (p_i 4) none (stx f k d x y z) = .ret (.nx (stx f k d x y z)) := by
  simp only [p_i, firstS, rests, b__law_spoilt, stx]
  walk_at "eg"
theorem skip5 (h : ¬ k = 3) : evalS (tx.pgm 11) (p_i 5) none (stx f k d x y z) = .ret (.nx (stx f k d x y z)) := by
  simp only [p_i, firstS, rests, b__law_spoilt, stx]
  walk_at "eg"
theorem skip6 (h : ¬ k = 4) : evalS (tx.pgm 11) (p_i 6) none (stx f k d x y z) = .ret (.nx (stx f k d x y z)) := by
  simp only [p_i, firstS, rests, b__law_spoilt, stx]
  walk_at "eg"
theorem skip7 (h : ¬ k = 5) : evalS (tx.pgm 11) (p_i 7) none (stx f k d x y z) = .ret (.nx (stx f k d x y z)) := by
  simp only [p_i, firstS, rests, b__law_spoilt, stx]
  walk_at "eg"
theorem skip8 (h : ¬ k = 6) : evalS (tx.pgm 11) (p_i 8) none (stx f k d x y z) = .ret (.nx (stx f k d x y z)) := by
  simp only [p_i, firstS, rests, b__law_spoilt, stx]
  walk_at "eg"
def Fin3 (x y z : D) (fl : Fl) : Prop := ∃ s ρ', fl = .rt s ρ' ∧ (s = .tup [x, y, z] ∨ s = .lst [x, y, z])
theorem fin : All True (Fin3 x y z) (fun _ => False) (evalS (tx.pgm 11) (p_r 9) none (stx f k d x y z)) := by
  have S := shaped3 9 x y z
  simp only [p_r, rests, b__law_spoilt, stx]
  walk_at "eg"
  refine All.bt0 (All.mx0 S) ?_
  intro s hs
  exact ⟨_, _, rfl, hs⟩
end
def Sh (f : Int) (k : Int) (d : D) (ρ : Vars) : Prop := ∃ x y z : D, (∀ s, (s = .tup [x, y, z] ∨ s = .lst [x, y, z]) → ∃ w, Bad f s w) ∧ ρ = stx f k d x y z
end K04

set_option Elab.async false
set_option maxRecDepth 100000
set_option maxHeartbeats 4000000
set_option linter.all false
namespace K04
open PySem Ez Tr
local macro_rules | `(tactic| walk_at "eg") => `(tactic| simp [↓bind_T, ↓bindT_ret, ↓bindT_exn, ↓bindT_bad, ↓bindT_draw, ↓mapX_ret, ↓mapX_exn, ↓mapX_bad, ↓mapX_draw, ↓noX_ret, ↓noX_exn, ↓noX_bad, ↓noX_draw, ↓catch_T, ↓catT_ret, ↓catT_exn, ↓catT_bad, ↓catT_draw, ↓E_var, ↓ev_var, ↓E_lit, ↓ev_lit, ↓E_con, ↓ev_con, ↓E_fnv, ↓ev_fnv, ↓E_clv, ↓ev_clv, ↓E_op, ↓ev_op, ↓E_neg, ↓ev_neg, ↓E_and, ↓ev_and, ↓E_or, ↓ev_or, ↓E_not, ↓ev_not, ↓E_notT, ↓ev_notT, ↓E_isN, ↓ev_isN, ↓E_notN, ↓ev_notN, ↓E_tru, ↓ev_tru, ↓E_chain, ↓ev_chain, ↓E_ifx, ↓ev_ifx, ↓E_nil, ↓ev_nil, ↓E_cons, ↓ev_cons, ↓E_tup, ↓ev_tup, ↓E_lst, ↓ev_lst, ↓E_slc, ↓ev_slc, ↓E_nop, ↓ev_nop, ↓E_part, ↓ev_part, ↓E_call, ↓ev_call, ↓E_callV, ↓ev_callV, ↓E_take, ↓ev_take, ↓E_bi, ↓ev_bi, ↓E_isi, ↓ev_isi, ↓E_isi2, ↓ev_isi2, ↓E_isC, ↓ev_isC, ↓E_lc, ↓ev_lc, ↓E_yes, ↓ev_yes, ↓E_eqR, ↓ev_eqR, ↓E_xf, ↓ev_xf, ↓E_fld, ↓ev_fld, ↓E_lenO, ↓ev_lenO, ↓E_tupO, ↓ev_tupO, ↓E_ixO, ↓ev_ixO, ↓S_nop, ↓es_nop, ↓S_seq, ↓es_seq, ↓S_asg, ↓es_asg, ↓S_asgO, ↓es_asgO, ↓S_par, ↓es_par, ↓S_app, ↓es_app, ↓S_setO, ↓es_setO, ↓S_ret, ↓es_ret, ↓S_retN, ↓es_retN, ↓S_ite, ↓es_ite, ↓S_for, ↓es_for, ↓S_whl, ↓es_whl, ↓S_rse, ↓es_rse, ↓S_try, ↓es_try, ↓S_hnil, ↓S_hcons, ↓es_hcons, ↓S_drop, ↓es_drop, ↓S_keep, ↓es_keep, ↓S_brk, ↓es_brk, ↓S_cnt, ↓es_cnt, ↓at_, getV, getO, isiD, D.isNon, op2, o2_add, o2_sub, o2_lt, o2_le, o2_gt, o2_ge, o2_isB, o2_isnB, biD, bi_lenD, bi_absD, bi_intD, bi_listD, bi_tupleD, bi_gcd2D, bi_gcd3D, bi_min2D, bi_max2D, Fl.res, ↓runD, startD, toB, truD, optI, slcT, noExc, Sv.isExc, Fl.clr, Fl.off, Sv.clr, evalG, Tg.len, Tg.inn, wipeV, itemsOf, rngL, lcGo, forGo, pgm_call, pgm_con, pgm_fld, pgm_xf, pgm_sub, pgm_most, pgm_ok, scaV, dOf, ix_t10, ix_t20, ix_t21, ix_t30, ix_t31, ix_t32, ix_l10, ix_l20, ix_l21, ix_l30, ix_l31, ix_l32, @o2_eq_int, @o2_ne_int, o2_div, o2_mod, o2_mul, o2_ix, L2.ixN, List.set, bindT_bindT, mapX_bindT, mapX_mapX, *])
section
variable (f a b c : Int) (d : D)
theorem e0 (f0 : 0 ≤ f) (f1 : f ≤ 5) : Goes (tx.pgm 11) (p_i 2) (Sh f 0 d) (st f a b c d 0) := by
  have lg : Nat.log2 2 = 1 := by decide
  have : f = 0 ∨ f = 1 ∨ f = 2 ∨ f = 3 ∨ f = 4 ∨ f = 5 := by omega
  clear f0 f1
  rcases this with rfl | rfl | rfl | rfl | rfl | rfl
  all_goals
    simp only [Goes, p_i, firstS, rests, b__law_spoilt, st]
    walk_at "eg"
    refine All.drawI (by decide) (by decide) fun v v0 v1 => ⟨_, rfl, _, _, _, ?_, rfl⟩
    intro s hs
    exact bad_i (by decide) (by decide) (fun z => by have := z.2.2.2.1; simp [onAx] at this; omega) hs
theorem pk0 (f0 : 0 ≤ f) (f1 : f ≤ 5) : All True (Out f a b c) (fun _ => False) (evalS (tx.pgm 11) (p_r 2) none (st f a b c d 0)) := by
  show All True _ _ (evalS (tx.pgm 11) (.seq (p_i 2) (.seq (p_i 3) (.seq (p_i 4) (.seq (p_i 5) (.seq (p_i 6) (.seq (p_i 7) (.seq (p_i 8) (p_r 9)))))))) none (st f a b c d 0))
  refine goes (e0 f a b c d f0 f1) ?_
  rintro _ ⟨x, y, z, B, rfl⟩
  refine goes1 (skip3 _ _ _ _ _ _ (by decide)) ?_
  refine goes1 (skip4 _ _ _ _ _ _ (by decide)) ?_
  refine goes1 (skip5 _ _ _ _ _ _ (by decide)) ?_
  refine goes1 (skip6 _ _ _ _ _ _ (by decide)) ?_
  refine goes1 (skip7 _ _ _ _ _ _ (by decide)) ?_
  refine goes1 (skip8 _ _ _ _ _ _ (by decide)) ?_
  refine All.mono ?_ (fun _ z => z) (fin _ _ _ _ _ _)
  rintro fl ⟨s, ρ', rfl, hs⟩
  exact ⟨_, _, rfl, Or.inl (B s hs)⟩
end
end K04

set_option Elab.async false
set_option maxRecDepth 100000
set_option maxHeartbeats 4000000
set_option linter.all false
namespace K04
open PySem Ez Tr
local macro_rules | `(tactic| walk_at "ef") => `(tactic| simp [↓bind_T, ↓bindT_ret, ↓bindT_exn, ↓bindT_bad, ↓bindT_draw, ↓mapX_ret, ↓mapX_exn, ↓mapX_bad, ↓mapX_draw, ↓noX_ret, ↓noX_exn, ↓noX_bad, ↓noX_draw, ↓catch_T, ↓catT_ret, ↓catT_exn, ↓catT_bad, ↓catT_draw, ↓E_var, ↓ev_var, ↓E_lit, ↓ev_lit, ↓E_con, ↓ev_con, ↓E_fnv, ↓ev_fnv, ↓E_clv, ↓ev_clv, ↓E_op, ↓ev_op, ↓E_neg, ↓ev_neg, ↓E_and, ↓ev_and, ↓E_or, ↓ev_or, ↓E_not, ↓ev_not, ↓E_notT, ↓ev_notT, ↓E_isN, ↓ev_isN, ↓E_notN, ↓ev_notN, ↓E_tru, ↓ev_tru, ↓E_chain, ↓ev_chain, ↓E_ifx, ↓ev_ifx, ↓E_nil, ↓ev_nil, ↓E_cons, ↓ev_cons, ↓E_tup, ↓ev_tup, ↓E_lst, ↓ev_lst, ↓E_slc, ↓ev_slc, ↓E_nop, ↓ev_nop, ↓E_part, ↓ev_part, ↓E_call, ↓ev_call, ↓E_callV, ↓ev_callV, ↓E_take, ↓ev_take, ↓E_bi, ↓ev_bi, ↓E_isi, ↓ev_isi, ↓E_isi2, ↓ev_isi2, ↓E_isC, ↓ev_isC, ↓E_lc, ↓ev_lc, ↓E_yes, ↓ev_yes, ↓E_eqR, ↓ev_eqR, ↓E_xf, ↓ev_xf, ↓E_fld, ↓ev_fld, ↓E_lenO, ↓ev_lenO, ↓E_tupO, ↓ev_tupO, ↓E_ixO, ↓ev_ixO, ↓S_nop, ↓es_nop, ↓S_seq, ↓es_seq, ↓S_asg, ↓es_asg, ↓S_asgO, ↓es_asgO, ↓S_par, ↓es_par, ↓S_app, ↓es_app, ↓S_setO, ↓es_setO, ↓S_ret, ↓es_ret, ↓S_retN, ↓es_retN, ↓S_ite, ↓es_ite, ↓S_for, ↓es_for, ↓S_whl, ↓es_whl, ↓S_rse, ↓es_rse, ↓S_try, ↓es_try, ↓S_hnil, ↓S_hcons, ↓es_hcons, ↓S_drop, ↓es_drop, ↓S_keep, ↓es_keep, ↓S_brk, ↓es_brk, ↓S_cnt, ↓es_cnt, ↓at_, getV, getO, isiD, D.isNon, op2, o2_add, o2_sub, o2_lt, o2_le, o2_gt, o2_ge, o2_isB, o2_isnB, biD, bi_lenD, bi_absD, bi_intD, bi_listD, bi_tupleD, bi_gcd2D, bi_gcd3D, bi_min2D, bi_max2D, Fl.res, ↓runD, startD, toB, truD, optI, slcT, noExc, Sv.isExc, Fl.clr, Fl.off, Sv.clr, evalG, Tg.len, Tg.inn, wipeV, itemsOf, rngL, lcGo, forGo, pgm_call, pgm_con, pgm_fld, pgm_xf, pgm_sub, pgm_most, pgm_ok, scaV, dOf, ix_t10, ix_t20, ix_t21, ix_t30, ix_t31, ix_t32, ix_l10, ix_l20, ix_l21, ix_l30, ix_l31, ix_l32, @o2_eq_int, @o2_ne_int, o2_div, o2_mod, o2_mul, o2_ix, EE.fresh, L2.ixN, List.set, bindT_bindT, mapX_bindT, mapX_mapX, *])
section
variable (f a b c : Int) (d : D)
theorem pk1 (f0 : 0 ≤ f) (f1 : f ≤ 5) (ha : inR a) (hb : inR b) (hc : inR c) : All True (Out f a b c) (fun _ => False) (evalS (tx.pgm 11) (p_r 2) none (st f a b c d 1)) := by
  have S := shaped3 9
  have lg : ∀ z : Int, inR z → Nat.log2 2 + z.natAbs.log2 + 130 < 1000000 := fun z h => by
    have e : Nat.log2 2 = 1 := by decide
    have h1 := Nat.log2_le_self z.natAbs
    have h2 := h.1
    have h3 := h.2
    omega
  have la := lg a ha
  have lb := lg b hb
  have lc := lg c hc
  clear lg ha hb hc
  simp only [p_r, rests, b__law_spoilt, st]
  try walk_at "ef"
  try walk_at "ef"
  refine All.bt0 (All.mx0 (S _ _ _)) ?_
  intro s hs
  exact ⟨_, _, rfl, Or.inl (bad_i f0 f1 (fun z => g3_two a b c z.2.2.2.2) hs)⟩
end
end K04

set_option Elab.async false
set_option maxRecDepth 100000
set_option maxHeartbeats 4000000
set_option linter.all false
namespace K04
open PySem Ez Tr
local macro_rules | `(tactic| walk_at "ef") => `(tactic| simp [↓bind_T, ↓bindT_ret, ↓bindT_exn, ↓bindT_bad, ↓bindT_draw, ↓mapX_ret, ↓mapX_exn, ↓mapX_bad, ↓mapX_draw, ↓noX_ret, ↓noX_exn, ↓noX_bad, ↓noX_draw, ↓catch_T, ↓catT_ret, ↓catT_exn, ↓catT_bad, ↓catT_draw, ↓E_var, ↓ev_var, ↓E_lit, ↓ev_lit, ↓E_con, ↓ev_con, ↓E_fnv, ↓ev_fnv, ↓E_clv, ↓ev_clv, ↓E_op, ↓ev_op, ↓E_neg, ↓ev_neg, ↓E_and, ↓ev_and, ↓E_or, ↓ev_or, ↓E_not, ↓ev_not, ↓E_notT, ↓ev_notT, ↓E_isN, ↓ev_isN, ↓E_notN, ↓ev_notN, ↓E_tru, ↓ev_tru, ↓E_chain, ↓ev_chain, ↓E_ifx, ↓ev_ifx, ↓E_nil, ↓ev_nil, ↓E_cons, ↓ev_cons, ↓E_tup, ↓ev_tup, ↓E_lst, ↓ev_lst, ↓E_slc, ↓ev_slc, ↓E_nop, ↓ev_nop, ↓E_part, ↓ev_part, ↓E_call, ↓ev_call, ↓E_callV, ↓ev_callV, ↓E_take, ↓ev_take, ↓E_bi, ↓ev_bi, ↓E_isi, ↓ev_isi, ↓E_isi2, ↓ev_isi2, ↓E_isC, ↓ev_isC, ↓E_lc, ↓ev_lc, ↓E_yes, ↓ev_yes, ↓E_eqR, ↓ev_eqR, ↓E_xf, ↓ev_xf, ↓E_fld, ↓ev_fld, ↓E_lenO, ↓ev_lenO, ↓E_tupO, ↓ev_tupO, ↓E_ixO, ↓ev_ixO, ↓S_nop, ↓es_nop, ↓S_seq, ↓es_seq, ↓S_asg, ↓es_asg, ↓S_asgO, ↓es_asgO, ↓S_par, ↓es_par, ↓S_app, ↓es_app, ↓S_setO, ↓es_setO, ↓S_ret, ↓es_ret, ↓S_retN, ↓es_retN, ↓S_ite, ↓es_ite, ↓S_for, ↓es_for, ↓S_whl, ↓es_whl, ↓S_rse, ↓es_rse, ↓S_try, ↓es_try, ↓S_hnil, ↓S_hcons, ↓es_hcons, ↓S_drop, ↓es_drop, ↓S_keep, ↓es_keep, ↓S_brk, ↓es_brk, ↓S_cnt, ↓es_cnt, ↓at_, getV, getO, isiD, D.isNon, op2, o2_add, o2_sub, o2_lt, o2_le, o2_gt, o2_ge, o2_isB, o2_isnB, biD, bi_lenD, bi_absD, bi_intD, bi_listD, bi_tupleD, bi_gcd2D, bi_gcd3D, bi_min2D, bi_max2D, Fl.res, ↓runD, startD, toB, truD, optI, slcT, noExc, Sv.isExc, Fl.clr, Fl.off, Sv.clr, evalG, Tg.len, Tg.inn, wipeV, itemsOf, rngL, lcGo, forGo, pgm_call, pgm_con, pgm_fld, pgm_xf, pgm_sub, pgm_most, pgm_ok, scaV, dOf, ix_t10, ix_t20, ix_t21, ix_t30, ix_t31, ix_t32, ix_l10, ix_l20, ix_l21, ix_l30, ix_l31, ix_l32, @o2_eq_int, @o2_ne_int, o2_div, o2_mod, o2_mul, o2_ix, EE.fresh, L2.ixN, List.set, bindT_bindT, mapX_bindT, mapX_mapX, *])
section
variable (f a b c : Int) (d : D)
theorem pk2 (f0 : 0 ≤ f) (f1 : f ≤ 5) : All True (Out f a b c) (fun _ => False) (evalS (tx.pgm 11) (p_r 2) none (st f a b c d 2)) := by
  have S := shaped3 9
  simp only [p_r, rests, b__law_spoilt, st]
  try walk_at "ef"
  try walk_at "ef"
  refine All.bt0 (All.mx0 (S _ _ _)) ?_
  intro s hs
  exact ⟨_, _, rfl, Or.inl (bad_i f0 f1 (fun z => absurd z.2.2.2.2 (by decide)) hs)⟩
end
end K04

set_option Elab.async false
set_option maxRecDepth 100000
set_option maxHeartbeats 4000000
set_option linter.all false
namespace K04
open PySem Ez Tr
local macro_rules | `(tactic| walk_at "ef") => `(tactic| simp [↓bind_T, ↓bindT_ret, ↓bindT_exn, ↓bindT_bad, ↓bindT_draw, ↓mapX_ret, ↓mapX_exn, ↓mapX_bad, ↓mapX_draw, ↓noX_ret, ↓noX_exn, ↓noX_bad, ↓noX_draw, ↓catch_T, ↓catT_ret, ↓catT_exn, ↓catT_bad, ↓catT_draw, ↓E_var, ↓ev_var, ↓E_lit, ↓ev_lit, ↓E_con, ↓ev_con, ↓E_fnv, ↓ev_fnv, ↓E_clv, ↓ev_clv, ↓E_op, ↓ev_op, ↓E_neg, ↓ev_neg, ↓E_and, ↓ev_and, ↓E_or, ↓ev_or, ↓E_not, ↓ev_not, ↓E_notT, ↓ev_notT, ↓E_isN, ↓ev_isN, ↓E_notN, ↓ev_notN, ↓E_tru, ↓ev_tru, ↓E_chain, ↓ev_chain, ↓E_ifx, ↓ev_ifx, ↓E_nil, ↓ev_nil, ↓E_cons, ↓ev_cons, ↓E_tup, ↓ev_tup, ↓E_lst, ↓ev_lst, ↓E_slc, ↓ev_slc, ↓E_nop, ↓ev_nop, ↓E_part, ↓ev_part, ↓E_call, ↓ev_call, ↓E_callV, ↓ev_callV, ↓E_take, ↓ev_take, ↓E_bi, ↓ev_bi, ↓E_isi, ↓ev_isi, ↓E_isi2, ↓ev_isi2, ↓E_isC, ↓ev_isC, ↓E_lc, ↓ev_lc, ↓E_yes, ↓ev_yes, ↓E_eqR, ↓ev_eqR, ↓E_xf, ↓ev_xf, ↓E_fld, ↓ev_fld, ↓E_lenO, ↓ev_lenO, ↓E_tupO, ↓ev_tupO, ↓E_ixO, ↓ev_ixO, ↓S_nop, ↓es_nop, ↓S_seq, ↓es_seq, ↓S_asg, ↓es_asg, ↓S_asgO, ↓es_asgO, ↓S_par, ↓es_par, ↓S_app, ↓es_app, ↓S_setO, ↓es_setO, ↓S_ret, ↓es_ret, ↓S_retN, ↓es_retN, ↓S_ite, ↓es_ite, ↓S_for, ↓es_for, ↓S_whl, ↓es_whl, ↓S_rse, ↓es_rse, ↓S_try, ↓es_try, ↓S_hnil, ↓S_hcons, ↓es_hcons, ↓S_drop, ↓es_drop, ↓S_keep, ↓es_keep, ↓S_brk, ↓es_brk, ↓S_cnt, ↓es_cnt, ↓at_, getV, getO, isiD, D.isNon, op2, o2_add, o2_sub, o2_lt, o2_le, o2_gt, o2_ge, o2_isB, o2_isnB, biD, bi_lenD, bi_absD, bi_intD, bi_listD, bi_tupleD, bi_gcd2D, bi_gcd3D, bi_min2D, bi_max2D, Fl.res, ↓runD, startD, toB, truD, optI, slcT, noExc, Sv.isExc, Fl.clr, Fl.off, Sv.clr, evalG, Tg.len, Tg.inn, wipeV, itemsOf, rngL, lcGo, forGo, pgm_call, pgm_con, pgm_fld, pgm_xf, pgm_sub, pgm_most, pgm_ok, scaV, dOf, ix_t10, ix_t20, ix_t21, ix_t30, ix_t31, ix_t32, ix_l10, ix_l20, ix_l21, ix_l30, ix_l31, ix_l32, @o2_eq_int, @o2_ne_int, o2_div, o2_mod, o2_mul, o2_ix, EE.fresh, L2.ixN, List.set, bindT_bindT, mapX_bindT, mapX_mapX, *])
section
variable (f a b c : Int) (d : D)
theorem pk3 (f0 : 0 ≤ f) (f1 : f ≤ 5) : All True (Out f a b c) (fun _ => False) (evalS (tx.pgm 11) (p_r 2) none (st f a b c d 3)) := by
  have S := shaped3 9
  simp only [p_r, rests, b__law_spoilt, st]
  try walk_at "ef"
  try walk_at "ef"
  refine All.drawI (by decide) (by decide) fun v v0 v1 => ?_
  have hv : v = 0 ∨ v = 1 ∨ v = 2 ∨ v = 3 ∨ v = 4 ∨ v = 5 := by omega
  clear v0 v1
  rcases hv with rfl | rfl | rfl | rfl | rfl | rfl
  all_goals
    try walk_at "ef"
    try walk_at "ef"
    refine All.drawI (by decide) (by decide) fun u u0 u1 => ?_
    have hu : u = 0 ∨ u = 1 ∨ u = 2 := by omega
    clear u0 u1
    rcases hu with rfl | rfl | rfl
    all_goals
      try walk_at "ef"
      try walk_at "ef"
      refine All.bt0 (All.mx0 (S _ _ _)) ?_
      intro s hs
      exact ⟨_, _, rfl, Or.inl (bad3 f0 f1 (by first | exact ent_int _ | exact ent_bl _ | exact ent_non | exact ent_str _ | exact ent_tup _) (by first | exact ent_int _ | exact ent_bl _ | exact ent_non | exact ent_str _ | exact ent_tup _) (by first | exact ent_int _ | exact ent_bl _ | exact ent_non | exact ent_str _ | exact ent_tup _) (by simp [wh]) hs)⟩
end
end K04

set_option Elab.async false
set_option maxRecDepth 100000
set_option maxHeartbeats 4000000
set_option linter.all false
namespace K04
open PySem Ez Tr
local macro_rules | `(tactic| walk_at "ef") => `(tactic| simp [↓bind_T, ↓bindT_ret, ↓bindT_exn, ↓bindT_bad, ↓bindT_draw, ↓mapX_ret, ↓mapX_exn, ↓mapX_bad, ↓mapX_draw, ↓noX_ret, ↓noX_exn, ↓noX_bad, ↓noX_draw, ↓catch_T, ↓catT_ret, ↓catT_exn, ↓catT_bad, ↓catT_draw, ↓E_var, ↓ev_var, ↓E_lit, ↓ev_lit, ↓E_con, ↓ev_con, ↓E_fnv, ↓ev_fnv, ↓E_clv, ↓ev_clv, ↓E_op, ↓ev_op, ↓E_neg, ↓ev_neg, ↓E_and, ↓ev_and, ↓E_or, ↓ev_or, ↓E_not, ↓ev_not, ↓E_notT, ↓ev_notT, ↓E_isN, ↓ev_isN, ↓E_notN, ↓ev_notN, ↓E_tru, ↓ev_tru, ↓E_chain, ↓ev_chain, ↓E_ifx, ↓ev_ifx, ↓E_nil, ↓ev_nil, ↓E_cons, ↓ev_cons, ↓E_tup, ↓ev_tup, ↓E_lst, ↓ev_lst, ↓E_slc, ↓ev_slc, ↓E_nop, ↓ev_nop, ↓E_part, ↓ev_part, ↓E_call, ↓ev_call, ↓E_callV, ↓ev_callV, ↓E_take, ↓ev_take, ↓E_bi, ↓ev_bi, ↓E_isi, ↓ev_isi, ↓E_isi2, ↓ev_isi2, ↓E_isC, ↓ev_isC, ↓E_lc, ↓ev_lc, ↓E_yes, ↓ev_yes, ↓E_eqR, ↓ev_eqR, ↓E_xf, ↓ev_xf, ↓E_fld, ↓ev_fld, ↓E_lenO, ↓ev_lenO, ↓E_tupO, ↓ev_tupO, ↓E_ixO, ↓ev_ixO, ↓S_nop, ↓es_nop, ↓S_seq, ↓es_seq, ↓S_asg, ↓es_asg, ↓S_asgO, ↓es_asgO, ↓S_par, ↓es_par, ↓S_app, ↓es_app, ↓S_setO, ↓es_setO, ↓S_ret, ↓es_ret, ↓S_retN, ↓es_retN, ↓S_ite, ↓es_ite, ↓S_for, ↓es_for, ↓S_whl, ↓es_whl, ↓S_rse, ↓es_rse, ↓S_try, ↓es_try, ↓S_hnil, ↓S_hcons, ↓es_hcons, ↓S_drop, ↓es_drop, ↓S_keep, ↓es_keep, ↓S_brk, ↓es_brk, ↓S_cnt, ↓es_cnt, ↓at_, getV, getO, isiD, D.isNon, op2, o2_add, o2_sub, o2_lt, o2_le, o2_gt, o2_ge, o2_isB, o2_isnB, biD, bi_lenD, bi_absD, bi_intD, bi_listD, bi_tupleD, bi_gcd2D, bi_gcd3D, bi_min2D, bi_max2D, Fl.res, ↓runD, startD, toB, truD, optI, slcT, noExc, Sv.isExc, Fl.clr, Fl.off, Sv.clr, evalG, Tg.len, Tg.inn, wipeV, itemsOf, rngL, lcGo, forGo, pgm_call, pgm_con, pgm_fld, pgm_xf, pgm_sub, pgm_most, pgm_ok, scaV, dOf, ix_t10, ix_t20, ix_t21, ix_t30, ix_t31, ix_t32, ix_l10, ix_l20, ix_l21, ix_l30, ix_l31, ix_l32, @o2_eq_int, @o2_ne_int, o2_div, o2_mod, o2_mul, o2_ix, EE.fresh, L2.ixN, List.set, bindT_bindT, mapX_bindT, mapX_mapX, *])
section
variable (f a b c : Int) (d : D)
theorem pk4 (f0 : 0 ≤ f) (f1 : f ≤ 5) : All True (Out f a b c) (fun _ => False) (evalS (tx.pgm 11) (p_r 2) none (st f a b c d 4)) := by
  have R := r_rid
  simp only [p_r, rests, b__law_spoilt, st]
  try walk_at "ef"
  try walk_at "ef"
  refine All.bt0 (All.mx0 R) ?_
  intro o ho
  try walk_at "ef"
  try walk_at "ef"
  refine All.drawI (by decide) (by decide) fun v v0 v1 => ?_
  have hv : v = 0 ∨ v = 1 ∨ v = 2 ∨ v = 3 := by omega
  clear v0 v1
  rcases hv with rfl | rfl | rfl | rfl
  · try walk_at "ef"
    try walk_at "ef"
    exact ⟨_, _, rfl, Or.inl (bad_2 f0 f1)⟩
  · try walk_at "ef"
    try walk_at "ef"
    exact ⟨_, _, rfl, Or.inl (bad_4 f0 f1)⟩
  · try walk_at "ef"
    try walk_at "ef"
    exact ⟨_, _, rfl, Or.inl (bad_n f0 f1 ho)⟩
  · try walk_at "ef"
    try walk_at "ef"
    exact ⟨_, _, rfl, Or.inl (bad_n f0 f1 (by simp [noseq]))⟩
end
end K04

set_option Elab.async false
set_option maxRecDepth 100000
set_option maxHeartbeats 4000000
set_option linter.all false
namespace K04
open PySem Ez Tr
local macro_rules | `(tactic| walk_at "eg") => `(tactic| simp [↓bind_T, ↓bindT_ret, ↓bindT_exn, ↓bindT_bad, ↓bindT_draw, ↓mapX_ret, ↓mapX_exn, ↓mapX_bad, ↓mapX_draw, ↓noX_ret, ↓noX_exn, ↓noX_bad, ↓noX_draw, ↓catch_T, ↓catT_ret, ↓catT_exn, ↓catT_bad, ↓catT_draw, ↓E_var, ↓ev_var, ↓E_lit, ↓ev_lit, ↓E_con, ↓ev_con, ↓E_fnv, ↓ev_fnv, ↓E_clv, ↓ev_clv, ↓E_op, ↓ev_op, ↓E_neg, ↓ev_neg, ↓E_and, ↓ev_and, ↓E_or, ↓ev_or, ↓E_not, ↓ev_not, ↓E_notT, ↓ev_notT, ↓E_isN, ↓ev_isN, ↓E_notN, ↓ev_notN, ↓E_tru, ↓ev_tru, ↓E_chain, ↓ev_chain, ↓E_ifx, ↓ev_ifx, ↓E_nil, ↓ev_nil, ↓E_cons, ↓ev_cons, ↓E_tup, ↓ev_tup, ↓E_lst, ↓ev_lst, ↓E_slc, ↓ev_slc, ↓E_nop, ↓ev_nop, ↓E_part, ↓ev_part, ↓E_call, ↓ev_call, ↓E_callV, ↓ev_callV, ↓E_take, ↓ev_take, ↓E_bi, ↓ev_bi, ↓E_isi, ↓ev_isi, ↓E_isi2, ↓ev_isi2, ↓E_isC, ↓ev_isC, ↓E_lc, ↓ev_lc, ↓E_yes, ↓ev_yes, ↓E_eqR, ↓ev_eqR, ↓E_xf, ↓ev_xf, ↓E_fld, ↓ev_fld, ↓E_lenO, ↓ev_lenO, ↓E_tupO, ↓ev_tupO, ↓E_ixO, ↓ev_ixO, ↓S_nop, ↓es_nop, ↓S_seq, ↓es_seq, ↓S_asg, ↓es_asg, ↓S_asgO, ↓es_asgO, ↓S_par, ↓es_par, ↓S_app, ↓es_app, ↓S_setO, ↓es_setO, ↓S_ret, ↓es_ret, ↓S_retN, ↓es_retN, ↓S_ite, ↓es_ite, ↓S_for, ↓es_for, ↓S_whl, ↓es_whl, ↓S_rse, ↓es_rse, ↓S_try, ↓es_try, ↓S_hnil, ↓S_hcons, ↓es_hcons, ↓S_drop, ↓es_drop, ↓S_keep, ↓es_keep, ↓S_brk, ↓es_brk, ↓S_cnt, ↓es_cnt, ↓at_, getV, getO, isiD, D.isNon, op2, o2_add, o2_sub, o2_lt, o2_le, o2_gt, o2_ge, o2_isB, o2_isnB, biD, bi_lenD, bi_absD, bi_intD, bi_listD, bi_tupleD, bi_gcd2D, bi_gcd3D, bi_min2D, bi_max2D, Fl.res, ↓runD, startD, toB, truD, optI, slcT, noExc, Sv.isExc, Fl.clr, Fl.off, Sv.clr, evalG, Tg.len, Tg.inn, wipeV, itemsOf, rngL, lcGo, forGo, pgm_call, pgm_con, pgm_fld, pgm_xf, pgm_sub, pgm_most, pgm_ok, scaV, dOf, ix_t10, ix_t20, ix_t21, ix_t30, ix_t31, ix_t32, ix_l10, ix_l20, ix_l21, ix_l30, ix_l31, ix_l32, @o2_eq_int, @o2_ne_int, o2_div, o2_mod, o2_mul, o2_ix, L2.ixN, List.set, bindT_bindT, mapX_bindT, mapX_mapX, *])
section
variable (f a b c : Int) (d : D)
theorem e5 (f0 : 0 ≤ f) (f1 : f ≤ 5) : Goes (tx.pgm 11) (p_i 7) (Sh f 5 d) (st f a b c d 5) := by
  have lg : Nat.log2 2 = 1 := by decide
  have A0 : L2.atI [D.int 0, D.int 10001, D.bl false] 0 = some (.int 0) := rfl
  have A1 : L2.atI [D.int 0, D.int 10001, D.bl false] 1 = some (.int 10001) := rfl
  have A2 : L2.atI [D.int 0, D.int 10001, D.bl false] 2 = some (.bl false) := rfl
  have X := r_laxes 10 f f0 f1
  have : f = 0 ∨ f = 1 ∨ f = 2 ∨ f = 3 ∨ f = 4 ∨ f = 5 := by omega
  clear f0 f1
  rcases this with rfl | rfl | rfl | rfl | rfl | rfl
  all_goals
    simp [axL] at X
    simp only [Goes, p_i, firstS, rests, b__law_spoilt, st]
    try walk_at "eg"
    refine All.drawI (by decide) (by decide) fun v v0 v1 => ?_
    have : v = 0 ∨ v = 1 ∨ v = 2 := by omega
    clear v0 v1
    rcases this with rfl | rfl | rfl
    · try walk_at "eg"
      try walk_at "eg"
      refine ⟨_, rfl, _, _, _, ?_, rfl⟩
      intro s hs
      exact bad_i (by decide) (by decide) (fun z => by have := z.2.2.2.1; simp [onAx] at this) hs
    · try walk_at "eg"
      try walk_at "eg"
      refine ⟨_, rfl, _, _, _, ?_, rfl⟩
      intro s hs
      exact bad_i (by decide) (by decide) (fun z => by have := z.2.2.2.1; simp [onAx] at this) hs
    · try walk_at "eg"
      try walk_at "eg"
      refine ⟨_, rfl, _, _, _, ?_, rfl⟩
      intro s hs
      exact bad3 (by decide) (by decide) (by first | exact ent_int _ | exact ent_bl _) (by first | exact ent_int _ | exact ent_bl _) (by first | exact ent_int _ | exact ent_bl _) (by simp [wh]) hs
theorem pk5 (f0 : 0 ≤ f) (f1 : f ≤ 5) : All True (Out f a b c) (fun _ => False) (evalS (tx.pgm 11) (p_r 2) none (st f a b c d 5)) := by
  show All True _ _ (evalS (tx.pgm 11) (.seq (p_i 2) (.seq (p_i 3) (.seq (p_i 4) (.seq (p_i 5) (.seq (p_i 6) (.seq (p_i 7) (.seq (p_i 8) (p_r 9)))))))) none (st f a b c d 5))
  refine goes1 (skip2 _ _ _ _ _ _ (by decide)) ?_
  refine goes1 (skip3 _ _ _ _ _ _ (by decide)) ?_
  refine goes1 (skip4 _ _ _ _ _ _ (by decide)) ?_
  refine goes1 (skip5 _ _ _ _ _ _ (by decide)) ?_
  refine goes1 (skip6 _ _ _ _ _ _ (by decide)) ?_
  refine goes (e5 f a b c d f0 f1) ?_
  rintro _ ⟨x, y, z, B, rfl⟩
  refine goes1 (skip8 _ _ _ _ _ _ (by decide)) ?_
  refine All.mono ?_ (fun _ z => z) (fin _ _ _ _ _ _)
  rintro fl ⟨s, ρ', rfl, hs⟩
  exact ⟨_, _, rfl, Or.inl (B s hs)⟩
end
end K04

set_option Elab.async false
set_option maxRecDepth 100000
set_option maxHeartbeats 4000000
set_option linter.all false
namespace K04
open PySem Ez Tr
local macro_rules | `(tactic| walk_at "ef") => `(tactic| simp [↓bind_T, ↓bindT_ret, ↓bindT_exn, ↓bindT_bad, ↓bindT_draw, ↓mapX_ret, ↓mapX_exn, ↓mapX_bad, ↓mapX_draw, ↓noX_ret, ↓noX_exn, ↓noX_bad, ↓noX_draw, ↓catch_T, ↓catT_ret, ↓catT_exn, ↓catT_bad, ↓catT_draw, ↓E_var, ↓ev_var, ↓E_lit, ↓ev_lit, ↓E_con, ↓ev_con, ↓E_fnv, ↓ev_fnv, ↓E_clv, ↓ev_clv, ↓E_op, ↓ev_op, ↓E_neg, ↓ev_neg, ↓E_and, ↓ev_and, ↓E_or, ↓ev_or, ↓E_not, ↓ev_not, ↓E_notT, ↓ev_notT, ↓E_isN, ↓ev_isN, ↓E_notN, ↓ev_notN, ↓E_tru, ↓ev_tru, ↓E_chain, ↓ev_chain, ↓E_ifx, ↓ev_ifx, ↓E_nil, ↓ev_nil, ↓E_cons, ↓ev_cons, ↓E_tup, ↓ev_tup, ↓E_lst, ↓ev_lst, ↓E_slc, ↓ev_slc, ↓E_nop, ↓ev_nop, ↓E_part, ↓ev_part, ↓E_call, ↓ev_call, ↓E_callV, ↓ev_callV, ↓E_take, ↓ev_take, ↓E_bi, ↓ev_bi, ↓E_isi, ↓ev_isi, ↓E_isi2, ↓ev_isi2, ↓E_isC, ↓ev_isC, ↓E_lc, ↓ev_lc, ↓E_yes, ↓ev_yes, ↓E_eqR, ↓ev_eqR, ↓E_xf, ↓ev_xf, ↓E_fld, ↓ev_fld, ↓E_lenO, ↓ev_lenO, ↓E_tupO, ↓ev_tupO, ↓E_ixO, ↓ev_ixO, ↓S_nop, ↓es_nop, ↓S_seq, ↓es_seq, ↓S_asg, ↓es_asg, ↓S_asgO, ↓es_asgO, ↓S_par, ↓es_par, ↓S_app, ↓es_app, ↓S_setO, ↓es_setO, ↓S_ret, ↓es_ret, ↓S_retN, ↓es_retN, ↓S_ite, ↓es_ite, ↓S_for, ↓es_for, ↓S_whl, ↓es_whl, ↓S_rse, ↓es_rse, ↓S_try, ↓es_try, ↓S_hnil, ↓S_hcons, ↓es_hcons, ↓S_drop, ↓es_drop, ↓S_keep, ↓es_keep, ↓S_brk, ↓es_brk, ↓S_cnt, ↓es_cnt, ↓at_, getV, getO, isiD, D.isNon, op2, o2_add, o2_sub, o2_lt, o2_le, o2_gt, o2_ge, o2_isB, o2_isnB, biD, bi_lenD, bi_absD, bi_intD, bi_listD, bi_tupleD, bi_gcd2D, bi_gcd3D, bi_min2D, bi_max2D, Fl.res, ↓runD, startD, toB, truD, optI, slcT, noExc, Sv.isExc, Fl.clr, Fl.off, Sv.clr, evalG, Tg.len, Tg.inn, wipeV, itemsOf, rngL, lcGo, forGo, pgm_call, pgm_con, pgm_fld, pgm_xf, pgm_sub, pgm_most, pgm_ok, scaV, dOf, ix_t10, ix_t20, ix_t21, ix_t30, ix_t31, ix_t32, ix_l10, ix_l20, ix_l21, ix_l30, ix_l31, ix_l32, @o2_eq_int, @o2_ne_int, o2_div, o2_mod, o2_mul, o2_ix, EE.fresh, L2.ixN, List.set, bindT_bindT, mapX_bindT, mapX_mapX, *])
section
variable (f a b c : Int) (d : D)
theorem pk6_0 : All True (Out 0 a b c) (fun _ => False) (evalS (tx.pgm 11) (p_r 2) none (st 0 a b c d 6)) := by
  have S := shaped3 9
  have lg : Nat.log2 2 = 1 := by decide
  simp only [p_r, rests, b__law_spoilt, st]
  try walk_at "ef"
  try walk_at "ef"
  refine All.bt0 (All.mx0 (S _ _ _)) ?_
  intro s hs
  exact ⟨_, _, rfl, Or.inl (bad_i (by decide) (by decide) (fun z => absurd z.2.2.2.1 (by decide)) hs)⟩
theorem pk6_1 : All True (Out 1 a b c) (fun _ => False) (evalS (tx.pgm 11) (p_r 2) none (st 1 a b c d 6)) := by
  have S := shaped3 9
  have lg : Nat.log2 2 = 1 := by decide
  simp only [p_r, rests, b__law_spoilt, st]
  try walk_at "ef"
  try walk_at "ef"
  refine All.bt0 (All.mx0 (S _ _ _)) ?_
  intro s hs
  exact ⟨_, _, rfl, Or.inl (bad_i (by decide) (by decide) (fun z => absurd z.2.2.2.1 (by decide)) hs)⟩
theorem pk6_2 : All True (Out 2 a b c) (fun _ => False) (evalS (tx.pgm 11) (p_r 2) none (st 2 a b c d 6)) := by
  have S := shaped3 9
  have lg : Nat.log2 2 = 1 := by decide
  simp only [p_r, rests, b__law_spoilt, st]
  try walk_at "ef"
  try walk_at "ef"
  refine All.bt0 (All.mx0 (S _ _ _)) ?_
  intro s hs
  exact ⟨_, _, rfl, Or.inl (bad_i (by decide) (by decide) (fun z => absurd z.2.2.2.1 (by decide)) hs)⟩
theorem pk6_3 : All True (Out 3 a b c) (fun _ => False) (evalS (tx.pgm 11) (p_r 2) none (st 3 a b c d 6)) := by
  have S := shaped3 9
  have lg : Nat.log2 2 = 1 := by decide
  simp only [p_r, rests, b__law_spoilt, st]
  try walk_at "ef"
  try walk_at "ef"
  refine All.bt0 (All.mx0 (S _ _ _)) ?_
  intro s hs
  exact ⟨_, _, rfl, Or.inl (bad_i (by decide) (by decide) (fun z => absurd z.2.2.2.1 (by decide)) hs)⟩
theorem pk6_4 : All True (Out 4 a b c) (fun _ => False) (evalS (tx.pgm 11) (p_r 2) none (st 4 a b c d 6)) := by
  have S := shaped3 9
  have lg : Nat.log2 2 = 1 := by decide
  simp only [p_r, rests, b__law_spoilt, st]
  try walk_at "ef"
  try walk_at "ef"
  refine All.bt0 (All.mx0 (S _ _ _)) ?_
  intro s hs
  exact ⟨_, _, rfl, Or.inl (bad_i (by decide) (by decide) (fun z => absurd z.2.2.2.1 (by decide)) hs)⟩
theorem pk6_5 : All True (Out 5 a b c) (fun _ => False) (evalS (tx.pgm 11) (p_r 2) none (st 5 a b c d 6)) := by
  have S := shaped3 9
  have lg : Nat.log2 2 = 1 := by decide
  simp only [p_r, rests, b__law_spoilt, st]
  try walk_at "ef"
  try walk_at "ef"
  refine All.bt0 (All.mx0 (S _ _ _)) ?_
  intro s hs
  exact ⟨_, _, rfl, Or.inl (bad_i (by decide) (by decide) (fun z => absurd z.2.2.2.1 (by decide)) hs)⟩
theorem pk6 (f0 : 0 ≤ f) (f1 : f ≤ 5) : All True (Out f a b c) (fun _ => False) (evalS (tx.pgm 11) (p_r 2) none (st f a b c d 6)) := by
  have : f = 0 ∨ f = 1 ∨ f = 2 ∨ f = 3 ∨ f = 4 ∨ f = 5 := by omega
  rcases this with rfl | rfl | rfl | rfl | rfl | rfl
  · exact pk6_0 a b c d
  · exact pk6_1 a b c d
  · exact pk6_2 a b c d
  · exact pk6_3 a b c d
  · exact pk6_4 a b c d
  · exact pk6_5 a b c d
end
end K04

set_option Elab.async false
set_option maxRecDepth 100000
set_option maxHeartbeats 4000000
set_option linter.all false
namespace K04
open PySem Ez Tr
local macro_rules | `(tactic| walk_at "ef") => `(tactic| simp [↓bind_T, ↓bindT_ret, ↓bindT_exn, ↓bindT_bad, ↓bindT_draw, ↓mapX_ret, ↓mapX_exn, ↓mapX_bad, ↓mapX_draw, ↓noX_ret, ↓noX_exn, ↓noX_bad, ↓noX_draw, ↓catch_T, ↓catT_ret, ↓catT_exn, ↓catT_bad, ↓catT_draw, ↓E_var, ↓ev_var, ↓E_lit, ↓ev_lit, ↓E_con, ↓ev_con, ↓E_fnv, ↓ev_fnv, ↓E_clv, ↓ev_clv, ↓E_op, ↓ev_op, ↓E_neg, ↓ev_neg, ↓E_and, ↓ev_and, ↓E_or, ↓ev_or, ↓E_not, ↓ev_not, ↓E_notT, ↓ev_notT, ↓E_isN, ↓ev_isN, ↓E_notN, ↓ev_notN, ↓E_tru, ↓ev_tru, ↓E_chain, ↓ev_chain, ↓E_ifx, ↓ev_ifx, ↓E_nil, ↓ev_nil, ↓E_cons, ↓ev_cons, ↓E_tup, ↓ev_tup, ↓E_lst, ↓ev_lst, ↓E_slc, ↓ev_slc, ↓E_nop, ↓ev_nop, ↓E_part, ↓ev_part, ↓E_call, ↓ev_call, ↓E_callV, ↓ev_callV, ↓E_take, ↓ev_take, ↓E_bi, ↓ev_bi, ↓E_isi, ↓ev_isi, ↓E_isi2, ↓ev_isi2, ↓E_isC, ↓ev_isC, ↓E_lc, ↓ev_lc, ↓E_yes, ↓ev_yes, ↓E_eqR, ↓ev_eqR, ↓E_xf, ↓ev_xf, ↓E_fld, ↓ev_fld, ↓E_lenO, ↓ev_lenO, ↓E_tupO, ↓ev_tupO, ↓E_ixO, ↓ev_ixO, ↓S_nop, ↓es_nop, ↓S_seq, ↓es_seq, ↓S_asg, ↓es_asg, ↓S_asgO, ↓es_asgO, ↓S_par, ↓es_par, ↓S_app, ↓es_app, ↓S_setO, ↓es_setO, ↓S_ret, ↓es_ret, ↓S_retN, ↓es_retN, ↓S_ite, ↓es_ite, ↓S_for, ↓es_for, ↓S_whl, ↓es_whl, ↓S_rse, ↓es_rse, ↓S_try, ↓es_try, ↓S_hnil, ↓S_hcons, ↓es_hcons, ↓S_drop, ↓es_drop, ↓S_keep, ↓es_keep, ↓S_brk, ↓es_brk, ↓S_cnt, ↓es_cnt, ↓at_, getV, getO, isiD, D.isNon, op2, o2_add, o2_sub, o2_lt, o2_le, o2_gt, o2_ge, o2_isB, o2_isnB, biD, bi_lenD, bi_absD, bi_intD, bi_listD, bi_tupleD, bi_gcd2D, bi_gcd3D, bi_min2D, bi_max2D, Fl.res, ↓runD, startD, toB, truD, optI, slcT, noExc, Sv.isExc, Fl.clr, Fl.off, Sv.clr, evalG, Tg.len, Tg.inn, wipeV, itemsOf, rngL, lcGo, forGo, pgm_call, pgm_con, pgm_fld, pgm_xf, pgm_sub, pgm_most, pgm_ok, scaV, dOf, ix_t10, ix_t20, ix_t21, ix_t30, ix_t31, ix_t32, ix_l10, ix_l20, ix_l21, ix_l30, ix_l31, ix_l32, @o2_eq_int, @o2_ne_int, o2_div, o2_mod, o2_mul, o2_ix, EE.fresh, L2.ixN, List.set, bindT_bindT, mapX_bindT, mapX_mapX, *])
section
variable (f a b c : Int) (d : D)
theorem pk78 (k : Int) (hk : k = 7 ∨ k = 8) : All True (Out f a b c) (fun _ => False) (evalS (tx.pgm 11) (p_r 2) none (st f a b c d k)) := by
  have S := shaped3 9
  rcases hk with rfl | rfl
  all_goals
    simp only [p_r, rests, b__law_spoilt, st]
    try walk_at "ef"
    try walk_at "ef"
    refine All.bt0 (All.mx0 (S _ _ _)) ?_
    intro s hs
    exact ⟨_, _, rfl, Or.inr hs⟩
end
end K04

set_option Elab.async false
set_option maxRecDepth 100000
set_option maxHeartbeats 4000000
set_option linter.all false
namespace K04
open PySem Ez Tr
local macro_rules | `(tactic| walk_at "ev") => `(tactic| simp [↓bind_T, ↓bindT_ret, ↓bindT_exn, ↓bindT_bad, ↓bindT_draw, ↓mapX_ret, ↓mapX_exn, ↓mapX_bad, ↓mapX_draw, ↓noX_ret, ↓noX_exn, ↓noX_bad, ↓noX_draw, ↓catch_T, ↓catT_ret, ↓catT_exn, ↓catT_bad, ↓catT_draw, ↓E_var, ↓ev_var, ↓E_lit, ↓ev_lit, ↓E_con, ↓ev_con, ↓E_fnv, ↓ev_fnv, ↓E_clv, ↓ev_clv, ↓E_op, ↓ev_op, ↓E_neg, ↓ev_neg, ↓E_and, ↓ev_and, ↓E_or, ↓ev_or, ↓E_not, ↓ev_not, ↓E_notT, ↓ev_notT, ↓E_isN, ↓ev_isN, ↓E_notN, ↓ev_notN, ↓E_tru, ↓ev_tru, ↓E_chain, ↓ev_chain, ↓E_ifx, ↓ev_ifx, ↓E_nil, ↓ev_nil, ↓E_cons, ↓ev_cons, ↓E_tup, ↓ev_tup, ↓E_lst, ↓ev_lst, ↓E_slc, ↓ev_slc, ↓E_nop, ↓ev_nop, ↓E_part, ↓ev_part, ↓E_call, ↓ev_call, ↓E_callV, ↓ev_callV, ↓E_take, ↓ev_take, ↓E_bi, ↓ev_bi, ↓E_isi, ↓ev_isi, ↓E_isi2, ↓ev_isi2, ↓E_isC, ↓ev_isC, ↓E_lc, ↓ev_lc, ↓E_yes, ↓ev_yes, ↓E_eqR, ↓ev_eqR, ↓E_xf, ↓ev_xf, ↓E_fld, ↓ev_fld, ↓E_lenO, ↓ev_lenO, ↓E_tupO, ↓ev_tupO, ↓E_ixO, ↓ev_ixO, ↓S_nop, ↓es_nop, ↓S_seq, ↓es_seq, ↓S_asg, ↓es_asg, ↓S_asgO, ↓es_asgO, ↓S_par, ↓es_par, ↓S_app, ↓es_app, ↓S_setO, ↓es_setO, ↓S_ret, ↓es_ret, ↓S_retN, ↓es_retN, ↓S_ite, ↓es_ite, ↓S_for, ↓es_for, ↓S_whl, ↓es_whl, ↓S_rse, ↓es_rse, ↓S_try, ↓es_try, ↓S_hnil, ↓S_hcons, ↓es_hcons, ↓S_drop, ↓es_drop, ↓S_keep, ↓es_keep, ↓S_brk, ↓es_brk, ↓S_cnt, ↓es_cnt, ↓at_, getV, getO, isiD, D.isNon, op2, o2_add, o2_sub, o2_lt, o2_le, o2_gt, o2_ge, o2_isB, o2_isnB, biD, bi_lenD, bi_absD, bi_intD, bi_listD, bi_tupleD, bi_gcd2D, bi_gcd3D, bi_min2D, bi_max2D, Fl.res, ↓runD, startD, toB, truD, optI, slcT, noExc, Sv.isExc, Fl.clr, Fl.off, Sv.clr, evalG, Tg.len, Tg.inn, wipeV, itemsOf, rngL, lcGo, forGo, pgm_call, pgm_con, pgm_fld, pgm_xf, pgm_sub, pgm_most, pgm_ok, scaV, dOf, ix_t10, ix_t20, ix_t21, ix_t30, ix_t31, ix_t32, ix_l10, ix_l20, ix_l21, ix_l30, ix_l31, ix_l32, @o2_eq_int, @o2_ne_int, o2_div, o2_mod, o2_mul, o2_ix, *])
theorem r_spoilt (f a b c : Int) (f0 : 0 ≤ f) (f1 : f ≤ 5) (ha : inR a) (hb : inR b) (hc : inR c) : All True (Sp f a b c) (fun _ => False) (tx.run 12 39 [.hand, .int f, .tup [.int a, .int b, .int c]]) := by
  refine All.run (d := ⟨3, 6, b__law_spoilt⟩) (ρ := [.dat .hand, .dat (.int f), .dat (.tup [.int a, .int b, .int c]), .unk, .unk, .unk]) rfl rfl rfl ?_
  show All True _ _ (evalS (tx.pgm 11) (.seq (p_i 0) (.seq (p_i 1) (p_r 2))) none [.dat .hand, .dat (.int f), .dat (.tup [.int a, .int b, .int c]), .unk, .unk, .unk])
  have e0 : evalS (tx.pgm 11) (p_i 0) none [.dat .hand, .dat (.int f), .dat (.tup [.int a, .int b, .int c]), .unk, .unk, .unk] = .ret (.nx [.dat .hand, .dat (.int f), .dat (.tup [.int a, .int b, .int c]), .own [.int a, .int b, .int c], .unk, .unk]) := by
    simp only [p_i, firstS, rests, b__law_spoilt]
    walk_at "ev"
    rfl
  refine goes1 e0 ?_
  have e1 : Goes (tx.pgm 11) (p_i 1) (fun ρ => ∃ k : Int, 0 ≤ k ∧ k ≤ 8 ∧ ρ = st f a b c (.tup [.int a, .int b, .int c]) k) [.dat .hand, .dat (.int f), .dat (.tup [.int a, .int b, .int c]), .own [.int a, .int b, .int c], .unk, .unk] := by
    simp only [Goes, p_i, firstS, rests, b__law_spoilt]
    walk_at "ev"
    exact All.drawI (by decide) (by decide) fun v v0 v1 => ⟨_, rfl, v, v0, by omega, rfl⟩
  refine goes e1 ?_
  rintro _ ⟨k, k0, k1, rfl⟩
  have hk : k = 0 ∨ k = 1 ∨ k = 2 ∨ k = 3 ∨ k = 4 ∨ k = 5 ∨ k = 6 ∨ k = 7 ∨ k = 8 := by omega
  clear k0 k1 e0 e1
  rcases hk with rfl | rfl | rfl | rfl | rfl | rfl | rfl | rfl | rfl
  · exact pk0 f a b c _ f0 f1
  · exact pk1 f a b c _ f0 f1 ha hb hc
  · exact pk2 f a b c _ f0 f1
  · exact pk3 f a b c _ f0 f1
  · exact pk4 f a b c _ f0 f1
  · exact pk5 f a b c _ f0 f1
  · exact pk6 f a b c _ f0 f1
  · exact pk78 f a b c _ 7 (.inl rfl)
  · exact pk78 f a b c _ 8 (.inr rfl)
end K04

set_option Elab.async false
set_option maxRecDepth 100000
set_option maxHeartbeats 4000000
set_option linter.all false
namespace K04
open PySem Ez Tr
local macro_rules | `(tactic| walk_at "ax") => `(tactic| simp [↓bind_T, ↓bindT_ret, ↓bindT_exn, ↓bindT_bad, ↓bindT_draw, ↓mapX_ret, ↓mapX_exn, ↓mapX_bad, ↓mapX_draw, ↓noX_ret, ↓noX_exn, ↓noX_bad, ↓noX_draw, ↓catch_T, ↓catT_ret, ↓catT_exn, ↓catT_bad, ↓catT_draw, ↓E_var, ↓ev_var, ↓E_lit, ↓ev_lit, ↓E_con, ↓ev_con, ↓E_fnv, ↓ev_fnv, ↓E_clv, ↓ev_clv, ↓E_op, ↓ev_op, ↓E_neg, ↓ev_neg, ↓E_and, ↓ev_and, ↓E_or, ↓ev_or, ↓E_not, ↓ev_not, ↓E_notT, ↓ev_notT, ↓E_isN, ↓ev_isN, ↓E_notN, ↓ev_notN, ↓E_tru, ↓ev_tru, ↓E_chain, ↓ev_chain, ↓E_ifx, ↓ev_ifx, ↓E_nil, ↓ev_nil, ↓E_cons, ↓ev_cons, ↓E_tup, ↓ev_tup, ↓E_lst, ↓ev_lst, ↓E_slc, ↓ev_slc, ↓E_nop, ↓ev_nop, ↓E_part, ↓ev_part, ↓E_call, ↓ev_call, ↓E_callV, ↓ev_callV, ↓E_take, ↓ev_take, ↓E_bi, ↓ev_bi, ↓E_isi, ↓ev_isi, ↓E_isi2, ↓ev_isi2, ↓E_isC, ↓ev_isC, ↓E_lc, ↓ev_lc, ↓E_yes, ↓ev_yes, ↓E_eqR, ↓ev_eqR, ↓E_xf, ↓ev_xf, ↓E_fld, ↓ev_fld, ↓E_lenO, ↓ev_lenO, ↓E_tupO, ↓ev_tupO, ↓E_ixO, ↓ev_ixO, ↓S_nop, ↓es_nop, ↓S_seq, ↓es_seq, ↓S_asg, ↓es_asg, ↓S_asgO, ↓es_asgO, ↓S_par, ↓es_par, ↓S_app, ↓es_app, ↓S_setO, ↓es_setO, ↓S_ret, ↓es_ret, ↓S_retN, ↓es_retN, ↓S_ite, ↓es_ite, ↓S_for, ↓es_for, ↓S_whl, ↓es_whl, ↓S_rse, ↓es_rse, ↓S_try, ↓es_try, ↓S_hnil, ↓S_hcons, ↓es_hcons, ↓S_drop, ↓es_drop, ↓S_keep, ↓es_keep, ↓S_brk, ↓es_brk, ↓S_cnt, ↓es_cnt, ↓at_, getV, getO, isiD, D.isNon, op2, o2_add, o2_sub, o2_lt, o2_le, o2_gt, o2_ge, o2_isB, o2_isnB, biD, bi_lenD, bi_absD, bi_intD, bi_listD, bi_tupleD, bi_gcd2D, bi_gcd3D, bi_min2D, bi_max2D, Fl.res, ↓runD, startD, toB, truD, optI, slcT, noExc, Sv.isExc, Fl.clr, Fl.off, Sv.clr, evalG, Tg.len, Tg.inn, wipeV, itemsOf, rngL, lcGo, forGo, pgm_call, pgm_con, pgm_fld, pgm_xf, pgm_sub, pgm_most, pgm_ok, scaV, dOf, EE.fresh, ix_t10, ix_t20, ix_t21, ix_t30, ix_t31, ix_t32, ix_l10, ix_l20, ix_l21, ix_l30, ix_l31, ix_l32, @o2_eq_int, @o2_ne_int, *])
theorem l13 (f x y e : Int) (f0 : 0 ≤ f) (f1 : f ≤ 5) (hx : inR x) (hy : inR y) (g : Int.gcd x y = 1) (x4 x5 x6 x7 x8 x9 x10 x12 x13 x14 x15 : Sv) : Goes (tx.pgm 12) (l_i 13) (fun ρ => ∃ d, SpD f x y d ∧ ρ = [.unk, .dat .hand, .dat (.int f), .dat (.tup (c3 (dr f x y))), x4, x5, x6, x7, x8, x9, x10, .dat (.int e), .dat d, x13, x14, x15]) [.unk, .dat .hand, .dat (.int f), .dat (.tup (c3 (dr f x y))), x4, x5, x6, x7, x8, x9, x10, .dat (.int e), x12, x13, x14, x15] := by
  have R : All True (SpD f x y) (fun _ => False) (tx.run 12 39 [.hand, .int f, .tup (c3 (dr f x y))]) := r_spoilt f _ _ _ f0 f1 (dirIn hx hy 0) (dirIn hx hy 1) (dirIn hx hy 2)
  clear f0 f1 hx hy g
  generalize c3 (dr f x y) = l at *
  simp only [Goes, l_i, firstS, rests, b_law]
  walk_at "ax"
  refine All.bt0 (All.mx0 R) ?_
  intro d h
  exact ⟨_, rfl, d, h, rfl⟩
theorem l14 (f e : Int) (d w : D) (x3 x4 x5 x6 x7 x8 x9 x10 x13 x14 x15 : Sv) (R : tx.run 12 37 [.int f, d] = .ret w) : evalS (tx.pgm 12) (l_i 14) none [.unk, .dat .hand, .dat (.int f), x3, x4, x5, x6, x7, x8, x9, x10, .dat (.int e), .dat d, x13, x14, x15] = .ret (.nx [.unk, .dat .hand, .dat (.int f), x3, x4, x5, x6, x7, x8, x9, x10, .dat (.int e), .dat d, .dat w, x14, x15]) := by
  simp only [l_i, firstS, rests, b_law]
  walk_at "ax"
def Jn (f e : Int) (d w : D) (x3 x4 x5 x6 x7 x8 x9 x10 : Sv) (ρ : Vars) : Prop := ∃ x14 x15, ρ = [.unk, .dat .hand, .dat (.int f), x3, x4, x5, x6, x7, x8, x9, x10, .dat (.int e), .dat d, .dat w, x14, x15]
theorem l15 (f e : Int) (d w : D) (x3 x4 x5 x6 x7 x8 x9 x10 x14 x15 : Sv) (A : Ask f e d w) : Goes (tx.pgm 12) (l_i 15) (Jn f e d w x3 x4 x5 x6 x7 x8 x9 x10) [.unk, .dat .hand, .dat (.int f), x3, x4, x5, x6, x7, x8, x9, x10, .dat (.int e), .dat d, .dat w, x14, x15] := by
  have e0 : l_i 15 = .for .seq (.lst (.cons (.fnv 7) (.cons (.fnv 11) (.cons (.fnv 15) (.cons (.fnv 14) .nil))))) (.name 14) (bodyF (l_i 15)) := rfl
  have h : evalE (tx.pgm 12) (.lst (.cons (.fnv 7) (.cons (.fnv 11) (.cons (.fnv 15) (.cons (.fnv 14) .nil))))) [.unk, .dat .hand, .dat (.int f), x3, x4, x5, x6, x7, x8, x9, x10, .dat (.int e), .dat d, .dat w, x14, x15] = .ret (.lst [.fn 7, .fn 11, .fn 15, .fn 14]) := rfl
  refine gone_nx ?_
  rw [e0, for_seq h (by decide)]
  refine forGo_inv ?_ ⟨x14, x15, rfl⟩
  rintro z ρ m ⟨y14, y15, rfl⟩
  have hz : ∃ k, z = .fn k ∧ (k = 7 ∨ k = 11 ∨ k = 15 ∨ k = 14) := by
    simp only [List.mem_cons, List.not_mem_nil, or_false] at m
    rcases m with rfl | rfl | rfl | rfl
    · exact ⟨_, rfl, .inl rfl⟩
    · exact ⟨_, rfl, .inr (.inl rfl)⟩
    · exact ⟨_, rfl, .inr (.inr (.inl rfl))⟩
    · exact ⟨_, rfl, .inr (.inr (.inr rfl))⟩
  obtain ⟨k, rfl, hk⟩ := hz
  obtain ⟨u, hu⟩ := A.go k hk x3 x4 x5 x6 x7 x8 x9 x10 y15
  show All True _ _ (evalS (tx.pgm 12) (bodyF (l_i 15)) none [.unk, .dat .hand, .dat (.int f), x3, x4, x5, x6, x7, x8, x9, x10, .dat (.int e), .dat d, .dat w, .dat (.fn k), y15])
  rw [hu]
  exact ⟨_, _, rfl⟩
theorem l16 (ρ : Vars) : All True (fun fl => match fl with | .rt d _ => d = .bl true | _ => False) (fun _ => False) (evalS (tx.pgm 12) (l_r 16) none ρ) := by
  simp only [l_r, rests, b_law]
  walk_at "ax"
  exact rfl
theorem word_good {f x y : Int} (f0 : 0 ≤ f) (f1 : f ≤ 5) (hx : inR x) (hy : inR y) (g : Int.gcd x y = 1) {d : D} (hd : d = .tup (c3 (dr f x y)) ∨ d = .lst (c3 (dr f x y))) : tx.run 12 37 [.int f, d] = .ret .non := by
  obtain ⟨_, _, e3, e4⟩ := dir_facts x y f0 f1
  obtain ⟨_, _, _, ed⟩ := dir_c3 x y f0 f1
  rw [ed] at e3 e4
  rw [g] at e4
  have L := l_ints 10 f _ _ _ f0 f1 (dirIn hx hy 0) (dirIn hx hy 1) (dirIn hx hy 2) d hd
  rw [L]
  have e5 : (g3 (dr f x y 0) (dr f x y 1) (dr f x y 2) : Int) = 1 := by rw [e4]; rfl
  have e6 : ¬ (g3 (dr f x y 0) (dr f x y 1) (dr f x y 2) : Int) = 0 := by rw [e5]; decide
  rw [if_pos e3, if_neg e6, if_pos e5]
theorem math : Tr.All True (fun fl => match fl with | .rt d _ => d = .bl true | _ => False) (fun _ => False) (evalS (tx.pgm 12) b_law none (.unk :: .dat .hand :: List.replicate (16 - 2) .unk)) := by
  show All True _ _ (evalS (tx.pgm 12) (.seq (l_i 0) (.seq (l_i 1) (.seq (l_i 2) (.seq (l_i 3) (.seq (l_i 4) (.seq (l_i 5) (.seq (l_i 6) (.seq (l_i 7) (.seq (l_i 8) (.seq (l_i 9) (.seq (l_i 10) (.seq (l_i 11) (.seq (l_i 12) (.seq (l_i 13) (.seq (l_i 14) (.seq (l_i 15) (l_r 16))))))))))))))))) none [.unk, .dat .hand, .unk, .unk, .unk, .unk, .unk, .unk, .unk, .unk, .unk, .unk, .unk, .unk, .unk, .unk])
  refine goes (l0g _ _ _ _ _ _ _ _ _ _ _ _ _ _) ?_
  rintro _ rfl
  refine goes (l1 _ _ _ _ _ _ _ _ _ _ _ _ _ _) ?_
  rintro _ ⟨f, f0, f1, rfl⟩
  refine goes (l2 f _ _ _ _ _ _ _ _ _ _ _ _ _ f0 f1) ?_
  rintro _ ⟨x, y, hx, hy, g, rfl⟩
  have h : x ≠ 0 ∨ y ≠ 0 := by
    by_cases e : x = 0
    · right
      intro e'
      subst e e'
      simp at g
    · exact .inl e
  refine assoc_seq (assoc_seq ?_)
  refine goes1 (l345 f x y _ _ _ _ _ _ _ _ _ _ _ _ f0 f1) ?_
  refine goes1 (l6 f x y _ _ _ _ _ _ _ _ _ f0 f1 hx hy g _) ?_
  refine goes1 (l7 f x y _ _ _ _ _ _ _ _ f0 f1 hx hy g _) ?_
  refine assoc_seq ?_
  refine goes1 (l89 f x y _ _ _ _ _ _ _ h _ _) ?_
  refine goes1 (l10 f x y _ _ _ _ _ _ _ _ _ f0 f1 hx hy g _ _) ?_
  refine goes (l11g f _ _ _ _ _ _ _ _ _ _ _ _ _) ?_
  rintro _ ⟨e, e0, e1, rfl⟩
  refine goes1 (l12 f _ _ _ _ _ _ _ _ e e0 e1 _ _ _ _) ?_
  refine goes (l13 f x y e f0 f1 hx hy g _ _ _ _ _ _ _ _ _ _ _) ?_
  rintro _ ⟨d, hd, rfl⟩
  have W : ∃ w, tx.run 12 37 [.int f, d] = .ret w ∧ Ask f e d w := by
    rcases hd with ⟨w, B⟩ | hd
    · exact ⟨.str w, B.l 10, ask_bad e0 e1 B⟩
    · exact ⟨.non, word_good f0 f1 hx hy g hd, ask_good e0 e1 (good_ret f0 f1 hx hy g hd)⟩
  obtain ⟨w, R, A⟩ := W
  refine goes1 (l14 f e d w _ _ _ _ _ _ _ _ _ _ _ R) ?_
  refine goes (l15 f e d w _ _ _ _ _ _ _ _ _ _ A) ?_
  rintro _ ⟨_, _, rfl⟩
  exact l16 _
end K04


set_option Elab.async false
set_option linter.all false
set_option maxRecDepth 100000
set_option maxHeartbeats 3999999

namespace K04
open L2 PySem PyProof.Rows PySem.Spec Ez
theorem zb_is_sequence {K : PySem.W.Frag} {f : Addr} {fd : FuncData} (F : Fun K "is_sequence" "is_sequence" s_is_sequence f fd) : L2.Binds K fd ["thing", "low", "high"] [] := F.binds fun _ _ _ _ _ _ us hl => match us, hl with | [_, _, _], _ => rfl
theorem zb_check_face {K : PySem.W.Frag} {f : Addr} {fd : FuncData} (F : Fun K "check_face" "check_face" s_check_face f fd) : L2.Binds K fd ["face"] [] := F.binds fun _ _ _ _ _ _ us hl => match us, hl with | [_], _ => rfl
theorem zb_face_axes {K : PySem.W.Frag} {f : Addr} {fd : FuncData} (F : Fun K "face_axes" "face_axes" s_face_axes f fd) : L2.Binds K fd ["face"] [] := F.binds fun _ _ _ _ _ _ us hl => match us, hl with | [_], _ => rfl
theorem zb_framed {K : PySem.W.Frag} {f : Addr} {fd : FuncData} (F : Fun K "framed" "framed" s_framed f fd) : L2.Binds K fd ["face", "triple"] [] := F.binds fun _ _ _ _ _ _ us hl => match us, hl with | [_, _], _ => rfl
theorem zb_mirrored_slope {K : PySem.W.Frag} {f : Addr} {fd : FuncData} (F : Fun K "mirrored_slope" "mirrored_slope" s_mirrored_slope f fd) : L2.Binds K fd ["slope"] [] := F.binds fun _ _ _ _ _ _ us hl => match us, hl with | [_], _ => rfl
theorem zb_check_direction {K : PySem.W.Frag} {f : Addr} {fd : FuncData} (F : Fun K "check_direction" "check_direction" s_check_direction f fd) : L2.Binds K fd ["face", "direction"] [] := F.binds fun _ _ _ _ _ _ us hl => match us, hl with | [_, _], _ => rfl
theorem zb_unframed {K : PySem.W.Frag} {f : Addr} {fd : FuncData} (F : Fun K "unframed" "unframed" s_unframed f fd) : L2.Binds K fd ["face", "first", "second"] [] := F.binds fun _ _ _ _ _ _ us hl => match us, hl with | [_, _, _], _ => rfl
theorem zb_quarter_turns {K : PySem.W.Frag} {f : Addr} {fd : FuncData} (F : Fun K "quarter_turns" "quarter_turns" s_quarter_turns f fd) : L2.Binds K fd ["first", "second"] [] := F.binds fun _ _ _ _ _ _ us hl => match us, hl with | [_, _], _ => rfl
theorem zb_directions_on {K : PySem.W.Frag} {f : Addr} {fd : FuncData} (F : Fun K "directions_on" "directions_on" s_directions_on f fd) : L2.Binds K fd ["face", "slope"] [] := F.binds fun _ _ _ _ _ _ us hl => match us, hl with | [_, _], _ => rfl
theorem zb_slope_of {K : PySem.W.Frag} {f : Addr} {fd : FuncData} (F : Fun K "slope_of" "slope_of" s_slope_of f fd) : L2.Binds K fd ["face", "direction"] [] := F.binds fun _ _ _ _ _ _ us hl => match us, hl with | [_, _], _ => rfl
theorem zb_slope_on {K : PySem.W.Frag} {f : Addr} {fd : FuncData} (F : Fun K "slope_on" "slope_on" s_slope_on f fd) : L2.Binds K fd ["face", "direction"] [] := F.binds fun _ _ _ _ _ _ us hl => match us, hl with | [_, _], _ => rfl
theorem zb_reversed_direction {K : PySem.W.Frag} {f : Addr} {fd : FuncData} (F : Fun K "reversed_direction" "reversed_direction" s_reversed_direction f fd) : L2.Binds K fd ["direction"] [] := F.binds fun _ _ _ _ _ _ us hl => match us, hl with | [_], _ => rfl
theorem zb_back_of {K : PySem.W.Frag} {f : Addr} {fd : FuncData} (F : Fun K "back_of" "back_of" s_back_of f fd) : L2.Binds K fd ["face", "direction"] [] := F.binds fun _ _ _ _ _ _ us hl => match us, hl with | [_, _], _ => rfl
theorem zb_left_of {K : PySem.W.Frag} {f : Addr} {fd : FuncData} (F : Fun K "left_of" "left_of" s_left_of f fd) : L2.Binds K fd ["face", "direction"] [] := F.binds fun _ _ _ _ _ _ us hl => match us, hl with | [_, _], _ => rfl
theorem zb_outward_step {K : PySem.W.Frag} {f : Addr} {fd : FuncData} (F : Fun K "outward_step" "outward_step" s_outward_step f fd) : L2.Binds K fd ["beside", "direction"] [] := F.binds fun _ _ _ _ _ _ us hl => match us, hl with | [_, _], _ => rfl
theorem zb__law_hand {K : PySem.W.Frag} {f : Addr} {fd : FuncData} (F : Fun K "_law_hand" "_law_hand" s__law_hand f fd) : L2.Binds K fd ["_law_script"] [] := F.binds fun _ _ _ _ _ _ us hl => match us, hl with | [_], _ => rfl
theorem zb__law_mixed {K : PySem.W.Frag} {f : Addr} {fd : FuncData} (F : Fun K "_law_mixed" "_law_mixed" s__law_mixed f fd) : L2.Binds K fd ["_law_number", "_law_turn"] [] := F.binds fun _ _ _ _ _ _ us hl => match us, hl with | [_, _], _ => rfl
theorem zb__law_take {K : PySem.W.Frag} {f : Addr} {fd : FuncData} (F : Fun K "_law_take" "_law_take" s__law_take f fd) : L2.Binds K fd ["_law_hand_here", "_law_many"] [] := F.binds fun _ _ _ _ _ _ us hl => match us, hl with | [_, _], _ => rfl
theorem zb__law_common {K : PySem.W.Frag} {f : Addr} {fd : FuncData} (F : Fun K "_law_common" "_law_common" s__law_common f fd) : L2.Binds K fd ["_law_one", "_law_other"] [] := F.binds fun _ _ _ _ _ _ us hl => match us, hl with | [_, _], _ => rfl
theorem zb__law_axes {K : PySem.W.Frag} {f : Addr} {fd : FuncData} (F : Fun K "_law_axes" "_law_axes" s__law_axes f fd) : L2.Binds K fd ["_law_face"] [] := F.binds fun _ _ _ _ _ _ us hl => match us, hl with | [_], _ => rfl
theorem zb__law_steps {K : PySem.W.Frag} {f : Addr} {fd : FuncData} (F : Fun K "_law_steps" "_law_steps" s__law_steps f fd) : L2.Binds K fd ["_law_face", "_law_first", "_law_second"] [] := F.binds fun _ _ _ _ _ _ us hl => match us, hl with | [_, _, _], _ => rfl
theorem zb__law_four {K : PySem.W.Frag} {f : Addr} {fd : FuncData} (F : Fun K "_law_four" "_law_four" s__law_four f fd) : L2.Binds K fd ["_law_face", "_law_slope"] [] := F.binds fun _ _ _ _ _ _ us hl => match us, hl with | [_, _], _ => rfl
theorem zb__law_out {K : PySem.W.Frag} {f : Addr} {fd : FuncData} (F : Fun K "_law_out" "_law_out" s__law_out f fd) : L2.Binds K fd ["_law_beside", "_law_steps_here"] [] := F.binds fun _ _ _ _ _ _ us hl => match us, hl with | [_, _], _ => rfl
theorem zb__law_tuples {K : PySem.W.Frag} {f : Addr} {fd : FuncData} (F : Fun K "_law_tuples" "_law_tuples" s__law_tuples f fd) : L2.Binds K fd ["_law_thing"] [] := F.binds fun _ _ _ _ _ _ us hl => match us, hl with | [_], _ => rfl
theorem zb__law_odd {K : PySem.W.Frag} {f : Addr} {fd : FuncData} (F : Fun K "_law_odd" "_law_odd" s__law_odd f fd) : L2.Binds K fd ["_law_hand_here", "_law_high"] [] := F.binds fun _ _ _ _ _ _ us hl => match us, hl with | [_, _], _ => rfl
theorem zb__law_rid {K : PySem.W.Frag} {f : Addr} {fd : FuncData} (F : Fun K "_law_rid" "_law_rid" s__law_rid f fd) : L2.Binds K fd ["_law_hand_here"] [] := F.binds fun _ _ _ _ _ _ us hl => match us, hl with | [_], _ => rfl
theorem zb__law_whole {K : PySem.W.Frag} {f : Addr} {fd : FuncData} (F : Fun K "_law_whole" "_law_whole" s__law_whole f fd) : L2.Binds K fd ["_law_thing", "_law_low", "_law_high"] [] := F.binds fun _ _ _ _ _ _ us hl => match us, hl with | [_, _, _], _ => rfl
theorem zb__law_shaped {K : PySem.W.Frag} {f : Addr} {fd : FuncData} (F : Fun K "_law_shaped" "_law_shaped" s__law_shaped f fd) : L2.Binds K fd ["_law_hand_here", "_law_items"] [] := F.binds fun _ _ _ _ _ _ us hl => match us, hl with | [_, _], _ => rfl
theorem zb__law_plain {K : PySem.W.Frag} {f : Addr} {fd : FuncData} (F : Fun K "_law_plain" "_law_plain" s__law_plain f fd) : L2.Binds K fd ["_law_thing"] [] := F.binds fun _ _ _ _ _ _ us hl => match us, hl with | [_], _ => rfl
theorem zb__law_like {K : PySem.W.Frag} {f : Addr} {fd : FuncData} (F : Fun K "_law_like" "_law_like" s__law_like f fd) : L2.Binds K fd ["_law_one", "_law_other"] [] := F.binds fun _ _ _ _ _ _ us hl => match us, hl with | [_, _], _ => rfl
theorem zb__law_slope_of {K : PySem.W.Frag} {f : Addr} {fd : FuncData} (F : Fun K "_law_slope_of" "_law_slope_of" s__law_slope_of f fd) : L2.Binds K fd ["_law_slope", "_law_band"] [] := F.binds fun _ _ _ _ _ _ us hl => match us, hl with | [_, _], _ => rfl
theorem zb__law_mirror {K : PySem.W.Frag} {f : Addr} {fd : FuncData} (F : Fun K "_law_mirror" "_law_mirror" s__law_mirror f fd) : L2.Binds K fd ["_law_slope"] [] := F.binds fun _ _ _ _ _ _ us hl => match us, hl with | [_], _ => rfl
theorem zb__law_deed {K : PySem.W.Frag} {f : Addr} {fd : FuncData} (F : Fun K "_law_deed" "_law_deed" s__law_deed f fd) : L2.Binds K fd ["_law_deed_here", "_law_face", "_law_thing"] [] := F.binds fun _ _ _ _ _ _ us hl => match us, hl with | [_, _, _], _ => rfl
theorem zb__law_is_slope {K : PySem.W.Frag} {f : Addr} {fd : FuncData} (F : Fun K "_law_is_slope" "_law_is_slope" s__law_is_slope f fd) : L2.Binds K fd ["_law_slope", "_law_band"] [] := F.binds fun _ _ _ _ _ _ us hl => match us, hl with | [_, _], _ => rfl
theorem zb__law_slopes {K : PySem.W.Frag} {f : Addr} {fd : FuncData} (F : Fun K "_law_slopes" "_law_slopes" s__law_slopes f fd) : L2.Binds K fd ["_law_hand_here"] [] := F.binds fun _ _ _ _ _ _ us hl => match us, hl with | [_], _ => rfl
theorem zb__law_word {K : PySem.W.Frag} {f : Addr} {fd : FuncData} (F : Fun K "_law_word" "_law_word" s__law_word f fd) : L2.Binds K fd ["_law_face", "_law_steps_here"] [] := F.binds fun _ _ _ _ _ _ us hl => match us, hl with | [_, _], _ => rfl
theorem zb__law_drawn {K : PySem.W.Frag} {f : Addr} {fd : FuncData} (F : Fun K "_law_drawn" "_law_drawn" s__law_drawn f fd) : L2.Binds K fd ["_law_hand_here", "_law_face"] [] := F.binds fun _ _ _ _ _ _ us hl => match us, hl with | [_, _], _ => rfl
theorem zb__law_spoilt {K : PySem.W.Frag} {f : Addr} {fd : FuncData} (F : Fun K "_law_spoilt" "_law_spoilt" s__law_spoilt f fd) : L2.Binds K fd ["_law_hand_here", "_law_face", "_law_steps_here"] [] := F.binds fun _ _ _ _ _ _ us hl => match us, hl with | [_, _, _], _ => rfl
theorem zb__law_faceless {K : PySem.W.Frag} {f : Addr} {fd : FuncData} (F : Fun K "_law_faceless" "_law_faceless" s__law_faceless f fd) : L2.Binds K fd ["_law_hand_here"] [] := F.binds fun _ _ _ _ _ _ us hl => match us, hl with | [_], _ => rfl
theorem zb_law {K : PySem.W.Frag} {f : Addr} {fd : FuncData} (F : Fun K "law" "law" s_law f fd) : L2.Binds K fd ["_law_script"] [] := F.binds fun _ _ _ _ _ _ us hl => match us, hl with | [_], _ => rfl
theorem zb_BadDirection {K : PySem.W.Frag} {f : Addr} {fd : FuncData} (F : Fun K "__init__" "BadDirection.__init__" s_BadDirection___init__ f fd) : L2.Binds K fd ["self", "what"] [] := F.binds fun _ _ _ _ _ _ us hl => match us, hl with | [_, _], _ => rfl
theorem zb_BadFace {K : PySem.W.Frag} {f : Addr} {fd : FuncData} (F : Fun K "__init__" "BadFace.__init__" s_BadFace___init__ f fd) : L2.Binds K fd ["self", "face"] [] := F.binds fun _ _ _ _ _ _ us hl => match us, hl with | [_, _], _ => rfl
theorem zb_BadSlope {K : PySem.W.Frag} {f : Addr} {fd : FuncData} (F : Fun K "__init__" "BadSlope.__init__" s_BadSlope___init__ f fd) : L2.Binds K fd ["self", "slope"] [] := F.binds fun _ _ _ _ _ _ us hl => match us, hl with | [_, _], _ => rfl
theorem zb_check_slope_2 {K : PySem.W.Frag} {f : Addr} {fd : FuncData} (F : FunD K "check_slope" "check_slope" (defArgs s_check_slope) (defBody s_check_slope) (defScope s_check_slope) [.bl false] [] f fd) : ∃ ds : List Value, Vals [] ds ∧ L2.Binds K fd ["slope", "band"] ds :=
  F.binds1 2 1 (by simp) rfl fun _ _ _ _ _ _ _ us its h1 h2 => match us, its, h1, h2 with | [_, _], [_], _, _ => ⟨_, rfl, rfl⟩
theorem zb_is_whole_3 {K : PySem.W.Frag} {f : Addr} {fd : FuncData} (F : FunD K "is_whole" "is_whole" (defArgs s_is_whole) (defBody s_is_whole) (defScope s_is_whole) [.non, .non] [] f fd) : ∃ ds : List Value, Vals [] ds ∧ L2.Binds K fd ["thing", "low", "high"] ds :=
  F.binds1 3 2 (by simp) rfl fun _ _ _ _ _ _ _ us its h1 h2 => match us, its, h1, h2 with | [_, _, _], [_, _], _, _ => ⟨_, rfl, rfl⟩
def kg_check_slope_1_band {α : Type} (us ds ws : List α) : List α := us[0]?.toList ++ ws[0]?.toList
theorem zk_check_slope_1_band {K : PySem.W.Frag} {f : Addr} {fd : FuncData} (F : FunD K "check_slope" "check_slope" (defArgs s_check_slope) (defBody s_check_slope) (defScope s_check_slope) [.bl false] [] f fd) : ∃ (g : List Value → List Value → List Value) (gV : List V → List V → List V), KBn K fd ["slope", "band"] 1 ["band"] g gV ∧ ∀ x z, gV [x] [z] = [x, z] := by
  obtain ⟨its, h⟩ := F.kbindsD (ps := ["slope", "band"]) 1 ["band"] kg_check_slope_1_band (by simp) (fun r1 r2 r3 => Vals.append (valsI r1 0) (valsI r3 0)) fun _ _ _ _ _ _ _ us its ws h1 h2 h3 => match us, its, ws, h1, h2, h3 with | [_], [_], [_], _, _, _ => ⟨_, rfl, rfl⟩
  exact ⟨_, _, h, fun _ _ => rfl⟩
theorem zb_check_slope_1 {K : PySem.W.Frag} {f : Addr} {fd : FuncData} (F : FunD K "check_slope" "check_slope" (defArgs s_check_slope) (defBody s_check_slope) (defScope s_check_slope) [.bl false] [] f fd) : ∃ ds : List Value, Vals [.bl false] ds ∧ L2.Binds K fd ["slope", "band"] ds :=
  F.binds1 1 0 (by simp) rfl fun _ _ _ _ _ _ _ us its h1 h2 => match us, its, h1, h2 with | [_], [_], _, _ => ⟨_, rfl, rfl⟩
theorem cls_elim {K : PySem.W.Frag} {h : Heap} {mg : Str → Option Value} {Goal : Prop} {ParcelError : Addr} {BadFace : Addr} {BadSlope : Addr} {BadDirection : Addr} {BadDirection_i : Addr} {nm_BadDirection q_BadDirection : Str} {N_BadDirection : Addr} {bs_BadDirection bm_BadDirection : List Value} {sn_BadDirection : List Str} {su_BadDirection : List Value} {ab_BadDirection : Bool} {co_BadDirection : Option Bool} {dd_BadDirection : Option Addr} {m0_BadDirection m1_BadDirection m2_BadDirection m3_BadDirection m5_BadDirection : Option Value} {oc_BadDirection kV_BadDirection dc_BadDirection pm_BadDirection cd_BadDirection ct_BadDirection : Value} {od_BadDirection an_BadDirection : Option Addr} {sl_BadDirection : Array (Option Value)} {BadFace_i : Addr} {nm_BadFace q_BadFace : Str} {N_BadFace : Addr} {bs_BadFace bm_BadFace : List Value} {sn_BadFace : List Str} {su_BadFace : List Value} {ab_BadFace : Bool} {co_BadFace : Option Bool} {dd_BadFace : Option Addr} {m0_BadFace m1_BadFace m2_BadFace m3_BadFace m5_BadFace : Option Value} {oc_BadFace kV_BadFace dc_BadFace pm_BadFace cd_BadFace ct_BadFace : Value} {od_BadFace an_BadFace : Option Addr} {sl_BadFace : Array (Option Value)} {BadSlope_i : Addr} {nm_BadSlope q_BadSlope : Str} {N_BadSlope : Addr} {bs_BadSlope bm_BadSlope : List Value} {sn_BadSlope : List Str} {su_BadSlope : List Value} {ab_BadSlope : Bool} {co_BadSlope : Option Bool} {dd_BadSlope : Option Addr} {m0_BadSlope m1_BadSlope m2_BadSlope m3_BadSlope m5_BadSlope : Option Value} {oc_BadSlope kV_BadSlope dc_BadSlope pm_BadSlope cd_BadSlope ct_BadSlope : Value} {od_BadSlope an_BadSlope : Option Addr} {sl_BadSlope : Array (Option Value)} (X : K.In h) (G : h.Ns mainGlobals mg)
  (a_ParcelError : PySem.W.nsIn K mainGlobals "ParcelError" = some (some (.ref ParcelError)))
  (a_BadFace : PySem.W.nsIn K mainGlobals "BadFace" = some (some (.ref BadFace)))
  (a_BadSlope : PySem.W.nsIn K mainGlobals "BadSlope" = some (some (.ref BadSlope)))
  (a_BadDirection : PySem.W.nsIn K mainGlobals "BadDirection" = some (some (.ref BadDirection)))
  (ex_ParcelError : PySem.W.subIn K (.ref ParcelError) (.type "BaseException") = some true)
  (ty_ParcelError : PySem.W.typeIn K (.ref ParcelError) = some (.type "type"))
  (is_ParcelError : PySem.W.isClsIn K ParcelError = true)
  (ex_BadFace : PySem.W.subIn K (.ref BadFace) (.type "BaseException") = some true)
  (ty_BadFace : PySem.W.typeIn K (.ref BadFace) = some (.type "type"))
  (is_BadFace : PySem.W.isClsIn K BadFace = true)
  (ex_BadSlope : PySem.W.subIn K (.ref BadSlope) (.type "BaseException") = some true)
  (ty_BadSlope : PySem.W.typeIn K (.ref BadSlope) = some (.type "type"))
  (is_BadSlope : PySem.W.isClsIn K BadSlope = true)
  (ex_BadDirection : PySem.W.subIn K (.ref BadDirection) (.type "BaseException") = some true)
  (ty_BadDirection : PySem.W.typeIn K (.ref BadDirection) = some (.type "type"))
  (is_BadDirection : PySem.W.isClsIn K BadDirection = true)
  (x_BadDirection : K.lookup BadDirection = some (excClassObj nm_BadDirection q_BadDirection BadDirection N_BadDirection bs_BadDirection bm_BadDirection true sn_BadDirection su_BadDirection ab_BadDirection co_BadDirection dd_BadDirection m0_BadDirection m1_BadDirection m2_BadDirection m3_BadDirection m5_BadDirection "ValueError.__new__"))
  (rv_BadDirection : PySem.HandSPX.refsVE bm_BadDirection = true)
  (sa_BadDirection : PySem.W.findIn K (.ref BadDirection) "__setattr__" = some (some (.builtin "object.__setattr__")))
  (kp_BadDirection : PySem.W.keepIn K (.ref BadDirection) = true)
  (ga_BadDirection : PySem.W.findIn K (.ref BadDirection) "__getattribute__" = some (some (.builtin "BaseException.__getattribute__")))
  (gg_BadDirection : PySem.W.findIn K (.ref BadDirection) "__getattr__" = some none)
  (hd_BadDirection : PySem.W.hasDictIn K BadDirection = true)
  (ia_BadDirection : PySem.W.findIn K (.ref BadDirection) "__init__" = some (some (.ref BadDirection_i)))
  (it_BadDirection : PySem.W.typeIn K (.ref BadDirection_i) = some (.type "function"))
  (il_BadDirection : K.lookup BadDirection_i = some ⟨oc_BadDirection, od_BadDirection, .func (PySem.W.fnOf "__init__" "BadDirection.__init__" (defArgs s_BadDirection___init__) (defBody s_BadDirection___init__) (defScope s_BadDirection___init__) .none kV_BadDirection dc_BadDirection pm_BadDirection an_BadDirection cd_BadDirection ct_BadDirection), sl_BadDirection⟩)
  (ic_BadDirection : PySem.W.codeIn K cd_BadDirection "BadDirection.__init__" = true)
  (ik_BadDirection : PySem.W.keepIn K (.ref BadDirection_i) = true)
  (no_BadDirection_what : PySem.W.findIn K (.ref BadDirection) "what" = some none)
  (x_BadFace : K.lookup BadFace = some (excClassObj nm_BadFace q_BadFace BadFace N_BadFace bs_BadFace bm_BadFace true sn_BadFace su_BadFace ab_BadFace co_BadFace dd_BadFace m0_BadFace m1_BadFace m2_BadFace m3_BadFace m5_BadFace "ValueError.__new__"))
  (rv_BadFace : PySem.HandSPX.refsVE bm_BadFace = true)
  (sa_BadFace : PySem.W.findIn K (.ref BadFace) "__setattr__" = some (some (.builtin "object.__setattr__")))
  (kp_BadFace : PySem.W.keepIn K (.ref BadFace) = true)
  (ga_BadFace : PySem.W.findIn K (.ref BadFace) "__getattribute__" = some (some (.builtin "BaseException.__getattribute__")))
  (gg_BadFace : PySem.W.findIn K (.ref BadFace) "__getattr__" = some none)
  (hd_BadFace : PySem.W.hasDictIn K BadFace = true)
  (ia_BadFace : PySem.W.findIn K (.ref BadFace) "__init__" = some (some (.ref BadFace_i)))
  (it_BadFace : PySem.W.typeIn K (.ref BadFace_i) = some (.type "function"))
  (il_BadFace : K.lookup BadFace_i = some ⟨oc_BadFace, od_BadFace, .func (PySem.W.fnOf "__init__" "BadFace.__init__" (defArgs s_BadFace___init__) (defBody s_BadFace___init__) (defScope s_BadFace___init__) .none kV_BadFace dc_BadFace pm_BadFace an_BadFace cd_BadFace ct_BadFace), sl_BadFace⟩)
  (ic_BadFace : PySem.W.codeIn K cd_BadFace "BadFace.__init__" = true)
  (ik_BadFace : PySem.W.keepIn K (.ref BadFace_i) = true)
  (no_BadFace_face : PySem.W.findIn K (.ref BadFace) "face" = some none)
  (x_BadSlope : K.lookup BadSlope = some (excClassObj nm_BadSlope q_BadSlope BadSlope N_BadSlope bs_BadSlope bm_BadSlope true sn_BadSlope su_BadSlope ab_BadSlope co_BadSlope dd_BadSlope m0_BadSlope m1_BadSlope m2_BadSlope m3_BadSlope m5_BadSlope "ValueError.__new__"))
  (rv_BadSlope : PySem.HandSPX.refsVE bm_BadSlope = true)
  (sa_BadSlope : PySem.W.findIn K (.ref BadSlope) "__setattr__" = some (some (.builtin "object.__setattr__")))
  (kp_BadSlope : PySem.W.keepIn K (.ref BadSlope) = true)
  (ga_BadSlope : PySem.W.findIn K (.ref BadSlope) "__getattribute__" = some (some (.builtin "BaseException.__getattribute__")))
  (gg_BadSlope : PySem.W.findIn K (.ref BadSlope) "__getattr__" = some none)
  (hd_BadSlope : PySem.W.hasDictIn K BadSlope = true)
  (ia_BadSlope : PySem.W.findIn K (.ref BadSlope) "__init__" = some (some (.ref BadSlope_i)))
  (it_BadSlope : PySem.W.typeIn K (.ref BadSlope_i) = some (.type "function"))
  (il_BadSlope : K.lookup BadSlope_i = some ⟨oc_BadSlope, od_BadSlope, .func (PySem.W.fnOf "__init__" "BadSlope.__init__" (defArgs s_BadSlope___init__) (defBody s_BadSlope___init__) (defScope s_BadSlope___init__) .none kV_BadSlope dc_BadSlope pm_BadSlope an_BadSlope cd_BadSlope ct_BadSlope), sl_BadSlope⟩)
  (ic_BadSlope : PySem.W.codeIn K cd_BadSlope "BadSlope.__init__" = true)
  (ik_BadSlope : PySem.W.keepIn K (.ref BadSlope_i) = true)
  (no_BadSlope_slope : PySem.W.findIn K (.ref BadSlope) "slope" = some none)
  (sb_BadDirection_BadDirection : PySem.W.subIn K (.ref BadDirection) (.ref BadDirection) = some true)
  (sb_BadDirection_BadFace : PySem.W.subIn K (.ref BadDirection) (.ref BadFace) = some false)
  (sb_BadDirection_BadSlope : PySem.W.subIn K (.ref BadDirection) (.ref BadSlope) = some false)
  (sb_BadDirection_ParcelError : PySem.W.subIn K (.ref BadDirection) (.ref ParcelError) = some true)
  (sb_BadFace_BadDirection : PySem.W.subIn K (.ref BadFace) (.ref BadDirection) = some false)
  (sb_BadFace_BadFace : PySem.W.subIn K (.ref BadFace) (.ref BadFace) = some true)
  (sb_BadFace_BadSlope : PySem.W.subIn K (.ref BadFace) (.ref BadSlope) = some false)
  (sb_BadFace_ParcelError : PySem.W.subIn K (.ref BadFace) (.ref ParcelError) = some true)
  (sb_BadSlope_BadDirection : PySem.W.subIn K (.ref BadSlope) (.ref BadDirection) = some false)
  (sb_BadSlope_BadFace : PySem.W.subIn K (.ref BadSlope) (.ref BadFace) = some false)
  (sb_BadSlope_BadSlope : PySem.W.subIn K (.ref BadSlope) (.ref BadSlope) = some true)
  (sb_BadSlope_ParcelError : PySem.W.subIn K (.ref BadSlope) (.ref ParcelError) = some true)
  (go : ∀ (ParcelError : Addr) (BadFace : Addr) (BadSlope : Addr) (BadDirection : Addr) (BadDirection_i : Addr) (fd_BadDirection : FuncData) (BadFace_i : Addr) (fd_BadFace : FuncData) (BadSlope_i : Addr) (fd_BadSlope : FuncData), mg "ParcelError" = some (.ref ParcelError) → mg "BadFace" = some (.ref BadFace) → mg "BadSlope" = some (.ref BadSlope) → mg "BadDirection" = some (.ref BadDirection) → OexC K BadDirection → PySem.W.findIn K (.ref BadDirection) "__init__" = some (some (.ref BadDirection_i)) → PySem.W.typeIn K (.ref BadDirection_i) = some (.type "function") → Fun K "__init__" "BadDirection.__init__" s_BadDirection___init__ BadDirection_i fd_BadDirection → XfC K BadDirection → PySem.W.findIn K (.ref BadDirection) "what" = some none → OexC K BadFace → PySem.W.findIn K (.ref BadFace) "__init__" = some (some (.ref BadFace_i)) → PySem.W.typeIn K (.ref BadFace_i) = some (.type "function") → Fun K "__init__" "BadFace.__init__" s_BadFace___init__ BadFace_i fd_BadFace → XfC K BadFace → PySem.W.findIn K (.ref BadFace) "face" = some none → OexC K BadSlope → PySem.W.findIn K (.ref BadSlope) "__init__" = some (some (.ref BadSlope_i)) → PySem.W.typeIn K (.ref BadSlope_i) = some (.type "function") → Fun K "__init__" "BadSlope.__init__" s_BadSlope___init__ BadSlope_i fd_BadSlope → XfC K BadSlope → PySem.W.findIn K (.ref BadSlope) "slope" = some none → PySem.W.exmOne K (.ref BadDirection) (.ref BadDirection) = some true → PySem.W.exmOne K (.ref BadDirection) (.ref BadFace) = some false → PySem.W.exmOne K (.ref BadDirection) (.ref BadSlope) = some false → PySem.W.exmOne K (.ref BadDirection) (.ref ParcelError) = some true → PySem.W.exmOne K (.ref BadFace) (.ref BadDirection) = some false → PySem.W.exmOne K (.ref BadFace) (.ref BadFace) = some true → PySem.W.exmOne K (.ref BadFace) (.ref BadSlope) = some false → PySem.W.exmOne K (.ref BadFace) (.ref ParcelError) = some true → PySem.W.exmOne K (.ref BadSlope) (.ref BadDirection) = some false → PySem.W.exmOne K (.ref BadSlope) (.ref BadFace) = some false → PySem.W.exmOne K (.ref BadSlope) (.ref BadSlope) = some true → PySem.W.exmOne K (.ref BadSlope) (.ref ParcelError) = some true → Goal) : Goal :=
  go _ _ _ _ _ _ _ _ _ _ (PySem.W.mg_of X G a_ParcelError) (PySem.W.mg_of X G a_BadFace) (PySem.W.mg_of X G a_BadSlope) (PySem.W.mg_of X G a_BadDirection) (oex_at x_BadDirection rv_BadDirection sa_BadDirection ex_BadDirection ty_BadDirection kp_BadDirection) (ia_BadDirection) (it_BadDirection) (fun_mk il_BadDirection ic_BadDirection ik_BadDirection) ⟨ga_BadDirection, gg_BadDirection, ex_BadDirection, hd_BadDirection⟩ (no_BadDirection_what) (oex_at x_BadFace rv_BadFace sa_BadFace ex_BadFace ty_BadFace kp_BadFace) (ia_BadFace) (it_BadFace) (fun_mk il_BadFace ic_BadFace ik_BadFace) ⟨ga_BadFace, gg_BadFace, ex_BadFace, hd_BadFace⟩ (no_BadFace_face) (oex_at x_BadSlope rv_BadSlope sa_BadSlope ex_BadSlope ty_BadSlope kp_BadSlope) (ia_BadSlope) (it_BadSlope) (fun_mk il_BadSlope ic_BadSlope ik_BadSlope) ⟨ga_BadSlope, gg_BadSlope, ex_BadSlope, hd_BadSlope⟩ (no_BadSlope_slope) (exm_at ex_BadDirection is_BadDirection ty_BadDirection sb_BadDirection_BadDirection) (exm_at ex_BadFace is_BadFace ty_BadFace sb_BadDirection_BadFace) (exm_at ex_BadSlope is_BadSlope ty_BadSlope sb_BadDirection_BadSlope) (exm_at ex_ParcelError is_ParcelError ty_ParcelError sb_BadDirection_ParcelError) (exm_at ex_BadDirection is_BadDirection ty_BadDirection sb_BadFace_BadDirection) (exm_at ex_BadFace is_BadFace ty_BadFace sb_BadFace_BadFace) (exm_at ex_BadSlope is_BadSlope ty_BadSlope sb_BadFace_BadSlope) (exm_at ex_ParcelError is_ParcelError ty_ParcelError sb_BadFace_ParcelError) (exm_at ex_BadDirection is_BadDirection ty_BadDirection sb_BadSlope_BadDirection) (exm_at ex_BadFace is_BadFace ty_BadFace sb_BadSlope_BadFace) (exm_at ex_BadSlope is_BadSlope ty_BadSlope sb_BadSlope_BadSlope) (exm_at ex_ParcelError is_ParcelError ty_ParcelError sb_BadSlope_ParcelError)
end K04
open L2 PySem PyProof.Rows PySem.Spec Ez
open PyProof.Rows PySem PySem.W in
set_option maxRecDepth 99999 in
set_option maxHeartbeats 0 in
theorem PySem.Challenge.cw_tautparcel_k04_whole_slopes_and_directio_holds : PySem.Challenge.rw_tautparcel_k04_whole_slopes_and_directio.Holds := by
  w_on; o_law
  k_head
  (case hw => w_witness2)
  k_fill
  refine Ez.walkK (l := PySem.Challenge.rw_tautparcel_k04_whole_slopes_and_directio) (n := 63) (k := 15) (x := "_law_script") rfl (by decide) rfl ⟨rfl, by decide, by decide⟩ (fun w h Y => PySem.W.kIn_of Y) ?F
  case F =>
    intro w mg fa h KX G hmg
    have b_tuple : mg "tuple" = none := PySem.W.mg_none_of KX G (by k_is)
    have b_abs : mg "abs" = none := PySem.W.mg_none_of KX G (by k_is)
    have b_isinstance : mg "isinstance" = none := PySem.W.mg_none_of KX G (by k_is)
    have b_max : mg "max" = none := PySem.W.mg_none_of KX G (by k_is)
    have b_list : mg "list" = none := PySem.W.mg_none_of KX G (by k_is)
    have b_bool : mg "bool" = none := PySem.W.mg_none_of KX G (by k_is)
    have b_sorted : mg "sorted" = none := PySem.W.mg_none_of KX G (by k_is)
    have b_int : mg "int" = none := PySem.W.mg_none_of KX G (by k_is)
    have b_len : mg "len" = none := PySem.W.mg_none_of KX G (by k_is)
    have b_repr : mg "repr" = none := PySem.W.mg_none_of KX G (by k_is)
    have m_gcd : mg "gcd" = some (.builtin "math.gcd") := PySem.W.mg_of KX G (by k_is)
    refine' Ez.constKK_elim (x := "FACE_AXES") (xss := [[.int 2, .int 1], [.int 1, .int 2], [.int 0, .int 2], [.int 2, .int 0], [.int 1, .int 0], [.int 0, .int 1]]) KX G ?c ?l ?r (by decide) (by decide) fun c_FACE_AXES m_FACE_AXES i_FACE_AXES => ?_
    (case c => k_is); (case l => k_is)
    (case r => (repeat refine Ez.Rows2.cons (by k_is) (by (repeat refine .cons (by first | exact ⟨_, rfl⟩ | rfl) ?_); exact .nil) (by decide) ?_); exact Ez.Rows2.nil)
    have m_STEEPEST : ∃ t, mg "STEEPEST" = some (.int 9 t) := ⟨_, PySem.W.mg_of KX G (by k_is)⟩
    have m_MOST_NUMBER : ∃ t, mg "MOST_NUMBER" = some (.int 10000 t) := ⟨_, PySem.W.mg_of KX G (by k_is)⟩
    refine' Ez.constK_elim (x := "BAND") (xs := [.int 1, .int 0]) KX G ?c ?l ?v (by rfl) (by decide) fun c_BAND m_BAND i_BAND => ?_
    (case c => k_is); (case l => k_is); (case v => (repeat refine .cons (by first | exact ⟨_, rfl⟩ | rfl) ?_); exact .nil)
    refine' K04.cls_elim KX G ?a_ParcelError ?a_BadFace ?a_BadSlope ?a_BadDirection ?ex_ParcelError ?ty_ParcelError ?is_ParcelError ?ex_BadFace ?ty_BadFace ?is_BadFace ?ex_BadSlope ?ty_BadSlope ?is_BadSlope ?ex_BadDirection ?ty_BadDirection ?is_BadDirection ?x_BadDirection ?rv_BadDirection ?sa_BadDirection ?kp_BadDirection ?ga_BadDirection ?gg_BadDirection ?hd_BadDirection ?ia_BadDirection ?it_BadDirection ?il_BadDirection ?ic_BadDirection ?ik_BadDirection ?no_BadDirection_what ?x_BadFace ?rv_BadFace ?sa_BadFace ?kp_BadFace ?ga_BadFace ?gg_BadFace ?hd_BadFace ?ia_BadFace ?it_BadFace ?il_BadFace ?ic_BadFace ?ik_BadFace ?no_BadFace_face ?x_BadSlope ?rv_BadSlope ?sa_BadSlope ?kp_BadSlope ?ga_BadSlope ?gg_BadSlope ?hd_BadSlope ?ia_BadSlope ?it_BadSlope ?il_BadSlope ?ic_BadSlope ?ik_BadSlope ?no_BadSlope_slope ?sb_BadDirection_BadDirection ?sb_BadDirection_BadFace ?sb_BadDirection_BadSlope ?sb_BadDirection_ParcelError ?sb_BadFace_BadDirection ?sb_BadFace_BadFace ?sb_BadFace_BadSlope ?sb_BadFace_ParcelError ?sb_BadSlope_BadDirection ?sb_BadSlope_BadFace ?sb_BadSlope_BadSlope ?sb_BadSlope_ParcelError fun ParcelError BadFace BadSlope BadDirection BadDirection_i fd_BadDirection BadFace_i fd_BadFace BadSlope_i fd_BadSlope m_ParcelError m_BadFace m_BadSlope m_BadDirection o_BadDirection i_BadDirection t_BadDirection F_BadDirection x_BadDirection xn_BadDirection_what o_BadFace i_BadFace t_BadFace F_BadFace x_BadFace xn_BadFace_face o_BadSlope i_BadSlope t_BadSlope F_BadSlope x_BadSlope xn_BadSlope_slope e_BadDirection_BadDirection e_BadDirection_BadFace e_BadDirection_BadSlope e_BadDirection_ParcelError e_BadFace_BadDirection e_BadFace_BadFace e_BadFace_BadSlope e_BadFace_ParcelError e_BadSlope_BadDirection e_BadSlope_BadFace e_BadSlope_BadSlope e_BadSlope_ParcelError => ?_
    (case a_ParcelError => first | k_is | rfl)
    (case a_BadFace => first | k_is | rfl)
    (case a_BadSlope => first | k_is | rfl)
    (case a_BadDirection => first | k_is | rfl)
    (case ex_ParcelError => first | k_is | rfl)
    (case ty_ParcelError => first | k_is | rfl)
    (case is_ParcelError => first | k_is | rfl)
    (case ex_BadFace => first | k_is | rfl)
    (case ty_BadFace => first | k_is | rfl)
    (case is_BadFace => first | k_is | rfl)
    (case ex_BadSlope => first | k_is | rfl)
    (case ty_BadSlope => first | k_is | rfl)
    (case is_BadSlope => first | k_is | rfl)
    (case ex_BadDirection => first | k_is | rfl)
    (case ty_BadDirection => first | k_is | rfl)
    (case is_BadDirection => first | k_is | rfl)
    (case x_BadDirection => first | k_is | rfl)
    (case rv_BadDirection => decide +kernel)
    (case sa_BadDirection => first | k_is | rfl)
    (case kp_BadDirection => first | k_is | rfl)
    (case ga_BadDirection => first | k_is | rfl)
    (case gg_BadDirection => first | k_is | rfl)
    (case hd_BadDirection => first | k_is | rfl)
    (case ia_BadDirection => first | k_is | rfl)
    (case it_BadDirection => first | k_is | rfl)
    (case il_BadDirection => first | k_is | rfl)
    (case ic_BadDirection => first | k_is | rfl)
    (case ik_BadDirection => first | k_is | rfl)
    (case no_BadDirection_what => first | k_is | rfl)
    (case x_BadFace => first | k_is | rfl)
    (case rv_BadFace => decide +kernel)
    (case sa_BadFace => first | k_is | rfl)
    (case kp_BadFace => first | k_is | rfl)
    (case ga_BadFace => first | k_is | rfl)
    (case gg_BadFace => first | k_is | rfl)
    (case hd_BadFace => first | k_is | rfl)
    (case ia_BadFace => first | k_is | rfl)
    (case it_BadFace => first | k_is | rfl)
    (case il_BadFace => first | k_is | rfl)
    (case ic_BadFace => first | k_is | rfl)
    (case ik_BadFace => first | k_is | rfl)
    (case no_BadFace_face => first | k_is | rfl)
    (case x_BadSlope => first | k_is | rfl)
    (case rv_BadSlope => decide +kernel)
    (case sa_BadSlope => first | k_is | rfl)
    (case kp_BadSlope => first | k_is | rfl)
    (case ga_BadSlope => first | k_is | rfl)
    (case gg_BadSlope => first | k_is | rfl)
    (case hd_BadSlope => first | k_is | rfl)
    (case ia_BadSlope => first | k_is | rfl)
    (case it_BadSlope => first | k_is | rfl)
    (case il_BadSlope => first | k_is | rfl)
    (case ic_BadSlope => first | k_is | rfl)
    (case ik_BadSlope => first | k_is | rfl)
    (case no_BadSlope_slope => first | k_is | rfl)
    (case sb_BadDirection_BadDirection => first | k_is | rfl)
    (case sb_BadDirection_BadFace => first | k_is | rfl)
    (case sb_BadDirection_BadSlope => first | k_is | rfl)
    (case sb_BadDirection_ParcelError => first | k_is | rfl)
    (case sb_BadFace_BadDirection => first | k_is | rfl)
    (case sb_BadFace_BadFace => first | k_is | rfl)
    (case sb_BadFace_BadSlope => first | k_is | rfl)
    (case sb_BadFace_ParcelError => first | k_is | rfl)
    (case sb_BadSlope_BadDirection => first | k_is | rfl)
    (case sb_BadSlope_BadFace => first | k_is | rfl)
    (case sb_BadSlope_BadSlope => first | k_is | rfl)
    (case sb_BadSlope_ParcelError => first | k_is | rfl)
    refine' Ez.defD_elim (x := "is_whole") (st := K04.s_is_whole) (dvs := [.non, .non]) KX G ?a ?l ?c ?k ?t ?v (by simp) fun f_is_whole fd_is_whole m_is_whole k_is_whole F_is_whole => ?_
    (case a => k_is); (case l => k_is); (case c => k_is); (case k => k_is); (case t => k_is); (case v => (repeat refine .cons (by first | exact ⟨_, rfl⟩ | rfl) ?_); exact .nil)
    refine' Ez.def_elim (x := "is_sequence") (st := K04.s_is_sequence) KX G ?a ?l ?c ?k fun f_is_sequence fd_is_sequence m_is_sequence k_is_sequence F_is_sequence => ?_
    (case a => k_is); (case l => k_is); (case c => k_is); (case k => k_is)
    refine' Ez.def_elim (x := "check_face") (st := K04.s_check_face) KX G ?a ?l ?c ?k fun f_check_face fd_check_face m_check_face k_check_face F_check_face => ?_
    (case a => k_is); (case l => k_is); (case c => k_is); (case k => k_is)
    refine' Ez.def_elim (x := "face_axes") (st := K04.s_face_axes) KX G ?a ?l ?c ?k fun f_face_axes fd_face_axes m_face_axes k_face_axes F_face_axes => ?_
    (case a => k_is); (case l => k_is); (case c => k_is); (case k => k_is)
    refine' Ez.def_elim (x := "framed") (st := K04.s_framed) KX G ?a ?l ?c ?k fun f_framed fd_framed m_framed k_framed F_framed => ?_
    (case a => k_is); (case l => k_is); (case c => k_is); (case k => k_is)
    refine' Ez.defD_elim (x := "check_slope") (st := K04.s_check_slope) (dvs := [.bl false]) KX G ?a ?l ?c ?k ?t ?v (by simp) fun f_check_slope fd_check_slope m_check_slope k_check_slope F_check_slope => ?_
    (case a => k_is); (case l => k_is); (case c => k_is); (case k => k_is); (case t => k_is); (case v => (repeat refine .cons (by first | exact ⟨_, rfl⟩ | rfl) ?_); exact .nil)
    refine' Ez.def_elim (x := "mirrored_slope") (st := K04.s_mirrored_slope) KX G ?a ?l ?c ?k fun f_mirrored_slope fd_mirrored_slope m_mirrored_slope k_mirrored_slope F_mirrored_slope => ?_
    (case a => k_is); (case l => k_is); (case c => k_is); (case k => k_is)
    refine' Ez.def_elim (x := "check_direction") (st := K04.s_check_direction) KX G ?a ?l ?c ?k fun f_check_direction fd_check_direction m_check_direction k_check_direction F_check_direction => ?_
    (case a => k_is); (case l => k_is); (case c => k_is); (case k => k_is)
    refine' Ez.def_elim (x := "unframed") (st := K04.s_unframed) KX G ?a ?l ?c ?k fun f_unframed fd_unframed m_unframed k_unframed F_unframed => ?_
    (case a => k_is); (case l => k_is); (case c => k_is); (case k => k_is)
    refine' Ez.def_elim (x := "quarter_turns") (st := K04.s_quarter_turns) KX G ?a ?l ?c ?k fun f_quarter_turns fd_quarter_turns m_quarter_turns k_quarter_turns F_quarter_turns => ?_
    (case a => k_is); (case l => k_is); (case c => k_is); (case k => k_is)
    refine' Ez.def_elim (x := "directions_on") (st := K04.s_directions_on) KX G ?a ?l ?c ?k fun f_directions_on fd_directions_on m_directions_on k_directions_on F_directions_on => ?_
    (case a => k_is); (case l => k_is); (case c => k_is); (case k => k_is)
    refine' Ez.def_elim (x := "slope_of") (st := K04.s_slope_of) KX G ?a ?l ?c ?k fun f_slope_of fd_slope_of m_slope_of k_slope_of F_slope_of => ?_
    (case a => k_is); (case l => k_is); (case c => k_is); (case k => k_is)
    refine' Ez.def_elim (x := "slope_on") (st := K04.s_slope_on) KX G ?a ?l ?c ?k fun f_slope_on fd_slope_on m_slope_on k_slope_on F_slope_on => ?_
    (case a => k_is); (case l => k_is); (case c => k_is); (case k => k_is)
    refine' Ez.def_elim (x := "reversed_direction") (st := K04.s_reversed_direction) KX G ?a ?l ?c ?k fun f_reversed_direction fd_reversed_direction m_reversed_direction k_reversed_direction F_reversed_direction => ?_
    (case a => k_is); (case l => k_is); (case c => k_is); (case k => k_is)
    refine' Ez.def_elim (x := "back_of") (st := K04.s_back_of) KX G ?a ?l ?c ?k fun f_back_of fd_back_of m_back_of k_back_of F_back_of => ?_
    (case a => k_is); (case l => k_is); (case c => k_is); (case k => k_is)
    refine' Ez.def_elim (x := "left_of") (st := K04.s_left_of) KX G ?a ?l ?c ?k fun f_left_of fd_left_of m_left_of k_left_of F_left_of => ?_
    (case a => k_is); (case l => k_is); (case c => k_is); (case k => k_is)
    refine' Ez.def_elim (x := "outward_step") (st := K04.s_outward_step) KX G ?a ?l ?c ?k fun f_outward_step fd_outward_step m_outward_step k_outward_step F_outward_step => ?_
    (case a => k_is); (case l => k_is); (case c => k_is); (case k => k_is)
    refine' Ez.def_elim (x := "_law_hand") (st := K04.s__law_hand) KX G ?a ?l ?c ?k fun f__law_hand fd__law_hand m__law_hand k__law_hand F__law_hand => ?_
    (case a => k_is); (case l => k_is); (case c => k_is); (case k => k_is)
    refine' Ez.def_elim (x := "_law_mixed") (st := K04.s__law_mixed) KX G ?a ?l ?c ?k fun f__law_mixed fd__law_mixed m__law_mixed k__law_mixed F__law_mixed => ?_
    (case a => k_is); (case l => k_is); (case c => k_is); (case k => k_is)
    refine' Ez.def_elim (x := "_law_take") (st := K04.s__law_take) KX G ?a ?l ?c ?k fun f__law_take fd__law_take m__law_take k__law_take F__law_take => ?_
    (case a => k_is); (case l => k_is); (case c => k_is); (case k => k_is)
    refine' Ez.def_elim (x := "_law_common") (st := K04.s__law_common) KX G ?a ?l ?c ?k fun f__law_common fd__law_common m__law_common k__law_common F__law_common => ?_
    (case a => k_is); (case l => k_is); (case c => k_is); (case k => k_is)
    refine' Ez.def_elim (x := "_law_axes") (st := K04.s__law_axes) KX G ?a ?l ?c ?k fun f__law_axes fd__law_axes m__law_axes k__law_axes F__law_axes => ?_
    (case a => k_is); (case l => k_is); (case c => k_is); (case k => k_is)
    refine' Ez.def_elim (x := "_law_steps") (st := K04.s__law_steps) KX G ?a ?l ?c ?k fun f__law_steps fd__law_steps m__law_steps k__law_steps F__law_steps => ?_
    (case a => k_is); (case l => k_is); (case c => k_is); (case k => k_is)
    refine' Ez.def_elim (x := "_law_four") (st := K04.s__law_four) KX G ?a ?l ?c ?k fun f__law_four fd__law_four m__law_four k__law_four F__law_four => ?_
    (case a => k_is); (case l => k_is); (case c => k_is); (case k => k_is)
    refine' Ez.def_elim (x := "_law_out") (st := K04.s__law_out) KX G ?a ?l ?c ?k fun f__law_out fd__law_out m__law_out k__law_out F__law_out => ?_
    (case a => k_is); (case l => k_is); (case c => k_is); (case k => k_is)
    refine' Ez.def_elim (x := "_law_tuples") (st := K04.s__law_tuples) KX G ?a ?l ?c ?k fun f__law_tuples fd__law_tuples m__law_tuples k__law_tuples F__law_tuples => ?_
    (case a => k_is); (case l => k_is); (case c => k_is); (case k => k_is)
    refine' Ez.def_elim (x := "_law_odd") (st := K04.s__law_odd) KX G ?a ?l ?c ?k fun f__law_odd fd__law_odd m__law_odd k__law_odd F__law_odd => ?_
    (case a => k_is); (case l => k_is); (case c => k_is); (case k => k_is)
    refine' Ez.def_elim (x := "_law_rid") (st := K04.s__law_rid) KX G ?a ?l ?c ?k fun f__law_rid fd__law_rid m__law_rid k__law_rid F__law_rid => ?_
    (case a => k_is); (case l => k_is); (case c => k_is); (case k => k_is)
    refine' Ez.def_elim (x := "_law_whole") (st := K04.s__law_whole) KX G ?a ?l ?c ?k fun f__law_whole fd__law_whole m__law_whole k__law_whole F__law_whole => ?_
    (case a => k_is); (case l => k_is); (case c => k_is); (case k => k_is)
    refine' Ez.def_elim (x := "_law_shaped") (st := K04.s__law_shaped) KX G ?a ?l ?c ?k fun f__law_shaped fd__law_shaped m__law_shaped k__law_shaped F__law_shaped => ?_
    (case a => k_is); (case l => k_is); (case c => k_is); (case k => k_is)
    refine' Ez.def_elim (x := "_law_plain") (st := K04.s__law_plain) KX G ?a ?l ?c ?k fun f__law_plain fd__law_plain m__law_plain k__law_plain F__law_plain => ?_
    (case a => k_is); (case l => k_is); (case c => k_is); (case k => k_is)
    refine' Ez.def_elim (x := "_law_like") (st := K04.s__law_like) KX G ?a ?l ?c ?k fun f__law_like fd__law_like m__law_like k__law_like F__law_like => ?_
    (case a => k_is); (case l => k_is); (case c => k_is); (case k => k_is)
    refine' Ez.def_elim (x := "_law_slope_of") (st := K04.s__law_slope_of) KX G ?a ?l ?c ?k fun f__law_slope_of fd__law_slope_of m__law_slope_of k__law_slope_of F__law_slope_of => ?_
    (case a => k_is); (case l => k_is); (case c => k_is); (case k => k_is)
    refine' Ez.def_elim (x := "_law_mirror") (st := K04.s__law_mirror) KX G ?a ?l ?c ?k fun f__law_mirror fd__law_mirror m__law_mirror k__law_mirror F__law_mirror => ?_
    (case a => k_is); (case l => k_is); (case c => k_is); (case k => k_is)
    refine' Ez.def_elim (x := "_law_deed") (st := K04.s__law_deed) KX G ?a ?l ?c ?k fun f__law_deed fd__law_deed m__law_deed k__law_deed F__law_deed => ?_
    (case a => k_is); (case l => k_is); (case c => k_is); (case k => k_is)
    refine' Ez.def_elim (x := "_law_is_slope") (st := K04.s__law_is_slope) KX G ?a ?l ?c ?k fun f__law_is_slope fd__law_is_slope m__law_is_slope k__law_is_slope F__law_is_slope => ?_
    (case a => k_is); (case l => k_is); (case c => k_is); (case k => k_is)
    refine' Ez.def_elim (x := "_law_slopes") (st := K04.s__law_slopes) KX G ?a ?l ?c ?k fun f__law_slopes fd__law_slopes m__law_slopes k__law_slopes F__law_slopes => ?_
    (case a => k_is); (case l => k_is); (case c => k_is); (case k => k_is)
    refine' Ez.def_elim (x := "_law_word") (st := K04.s__law_word) KX G ?a ?l ?c ?k fun f__law_word fd__law_word m__law_word k__law_word F__law_word => ?_
    (case a => k_is); (case l => k_is); (case c => k_is); (case k => k_is)
    refine' Ez.def_elim (x := "_law_drawn") (st := K04.s__law_drawn) KX G ?a ?l ?c ?k fun f__law_drawn fd__law_drawn m__law_drawn k__law_drawn F__law_drawn => ?_
    (case a => k_is); (case l => k_is); (case c => k_is); (case k => k_is)
    refine' Ez.def_elim (x := "_law_spoilt") (st := K04.s__law_spoilt) KX G ?a ?l ?c ?k fun f__law_spoilt fd__law_spoilt m__law_spoilt k__law_spoilt F__law_spoilt => ?_
    (case a => k_is); (case l => k_is); (case c => k_is); (case k => k_is)
    refine' Ez.def_elim (x := "_law_faceless") (st := K04.s__law_faceless) KX G ?a ?l ?c ?k fun f__law_faceless fd__law_faceless m__law_faceless k__law_faceless F__law_faceless => ?_
    (case a => k_is); (case l => k_is); (case c => k_is); (case k => k_is)
    refine' Ez.def_elim (x := "law") (st := K04.s_law) KX G ?a ?l ?c ?k fun f_law fd_law m_law k_law F_law => ?_
    (case a => k_is); (case l => k_is); (case c => k_is); (case k => k_is)
    have e := hmg.symm.trans m_law
    cases e
    have T : K04.Txt _ mg { FACE_AXES := c_FACE_AXES, STEEPEST := 0, MOST_NUMBER := 0, BAND := c_BAND, ParcelError := ParcelError, BadFace := BadFace, BadSlope := BadSlope, BadDirection := BadDirection, BadDirection___init__ := BadDirection_i, fd_BadDirection___init__ := fd_BadDirection, BadFace___init__ := BadFace_i, fd_BadFace___init__ := fd_BadFace, BadSlope___init__ := BadSlope_i, fd_BadSlope___init__ := fd_BadSlope, f_is_whole := f_is_whole, fd_is_whole := fd_is_whole, f_is_sequence := f_is_sequence, fd_is_sequence := fd_is_sequence, f_check_face := f_check_face, fd_check_face := fd_check_face, f_face_axes := f_face_axes, fd_face_axes := fd_face_axes, f_framed := f_framed, fd_framed := fd_framed, f_check_slope := f_check_slope, fd_check_slope := fd_check_slope, f_mirrored_slope := f_mirrored_slope, fd_mirrored_slope := fd_mirrored_slope, f_check_direction := f_check_direction, fd_check_direction := fd_check_direction, f_unframed := f_unframed, fd_unframed := fd_unframed, f_quarter_turns := f_quarter_turns, fd_quarter_turns := fd_quarter_turns, f_directions_on := f_directions_on, fd_directions_on := fd_directions_on, f_slope_of := f_slope_of, fd_slope_of := fd_slope_of, f_slope_on := f_slope_on, fd_slope_on := fd_slope_on, f_reversed_direction := f_reversed_direction, fd_reversed_direction := fd_reversed_direction, f_back_of := f_back_of, fd_back_of := fd_back_of, f_left_of := f_left_of, fd_left_of := fd_left_of, f_outward_step := f_outward_step, fd_outward_step := fd_outward_step, f__law_hand := f__law_hand, fd__law_hand := fd__law_hand, f__law_mixed := f__law_mixed, fd__law_mixed := fd__law_mixed, f__law_take := f__law_take, fd__law_take := fd__law_take, f__law_common := f__law_common, fd__law_common := fd__law_common, f__law_axes := f__law_axes, fd__law_axes := fd__law_axes, f__law_steps := f__law_steps, fd__law_steps := fd__law_steps, f__law_four := f__law_four, fd__law_four := fd__law_four, f__law_out := f__law_out, fd__law_out := fd__law_out, f__law_tuples := f__law_tuples, fd__law_tuples := fd__law_tuples, f__law_odd := f__law_odd, fd__law_odd := fd__law_odd, f__law_rid := f__law_rid, fd__law_rid := fd__law_rid, f__law_whole := f__law_whole, fd__law_whole := fd__law_whole, f__law_shaped := f__law_shaped, fd__law_shaped := fd__law_shaped, f__law_plain := f__law_plain, fd__law_plain := fd__law_plain, f__law_like := f__law_like, fd__law_like := fd__law_like, f__law_slope_of := f__law_slope_of, fd__law_slope_of := fd__law_slope_of, f__law_mirror := f__law_mirror, fd__law_mirror := fd__law_mirror, f__law_deed := f__law_deed, fd__law_deed := fd__law_deed, f__law_is_slope := f__law_is_slope, fd__law_is_slope := fd__law_is_slope, f__law_slopes := f__law_slopes, fd__law_slopes := fd__law_slopes, f__law_word := f__law_word, fd__law_word := fd__law_word, f__law_drawn := f__law_drawn, fd__law_drawn := fd__law_drawn, f__law_spoilt := f__law_spoilt, fd__law_spoilt := fd__law_spoilt, f__law_faceless := f__law_faceless, fd__law_faceless := fd__law_faceless, f_law := fa, fd_law := fd_law } := { b_tuple := b_tuple, b_abs := b_abs, b_isinstance := b_isinstance, b_max := b_max, b_list := b_list, b_bool := b_bool, b_sorted := b_sorted, b_int := b_int, b_len := b_len, b_repr := b_repr, m_gcd := m_gcd, m_FACE_AXES := m_FACE_AXES, i_FACE_AXES := fun p G => i_FACE_AXES _ rfl G, m_STEEPEST := m_STEEPEST, m_MOST_NUMBER := m_MOST_NUMBER, m_BAND := m_BAND, i_BAND := fun p G => i_BAND _ rfl G, m_ParcelError := m_ParcelError, m_BadFace := m_BadFace, m_BadSlope := m_BadSlope, m_BadDirection := m_BadDirection, o_BadDirection := o_BadDirection, i_BadDirection := i_BadDirection, t_BadDirection := t_BadDirection, F_BadDirection___init__ := F_BadDirection, bi_BadDirection := K04.zb_BadDirection F_BadDirection, x_BadDirection := x_BadDirection, xn_BadDirection_what := xn_BadDirection_what, o_BadFace := o_BadFace, i_BadFace := i_BadFace, t_BadFace := t_BadFace, F_BadFace___init__ := F_BadFace, bi_BadFace := K04.zb_BadFace F_BadFace, x_BadFace := x_BadFace, xn_BadFace_face := xn_BadFace_face, o_BadSlope := o_BadSlope, i_BadSlope := i_BadSlope, t_BadSlope := t_BadSlope, F_BadSlope___init__ := F_BadSlope, bi_BadSlope := K04.zb_BadSlope F_BadSlope, x_BadSlope := x_BadSlope, xn_BadSlope_slope := xn_BadSlope_slope, e_BadDirection_BadDirection := e_BadDirection_BadDirection, e_BadDirection_BadFace := e_BadDirection_BadFace, e_BadDirection_BadSlope := e_BadDirection_BadSlope, e_BadDirection_ParcelError := e_BadDirection_ParcelError, e_BadFace_BadDirection := e_BadFace_BadDirection, e_BadFace_BadFace := e_BadFace_BadFace, e_BadFace_BadSlope := e_BadFace_BadSlope, e_BadFace_ParcelError := e_BadFace_ParcelError, e_BadSlope_BadDirection := e_BadSlope_BadDirection, e_BadSlope_BadFace := e_BadSlope_BadFace, e_BadSlope_BadSlope := e_BadSlope_BadSlope, e_BadSlope_ParcelError := e_BadSlope_ParcelError, m_is_whole := m_is_whole, k_is_whole := k_is_whole, F_is_whole := F_is_whole, b_is_sequence := K04.zb_is_sequence F_is_sequence, m_is_sequence := m_is_sequence, k_is_sequence := k_is_sequence, F_is_sequence := F_is_sequence, b_check_face := K04.zb_check_face F_check_face, m_check_face := m_check_face, k_check_face := k_check_face, F_check_face := F_check_face, b_face_axes := K04.zb_face_axes F_face_axes, m_face_axes := m_face_axes, k_face_axes := k_face_axes, F_face_axes := F_face_axes, b_framed := K04.zb_framed F_framed, m_framed := m_framed, k_framed := k_framed, F_framed := F_framed, m_check_slope := m_check_slope, k_check_slope := k_check_slope, F_check_slope := F_check_slope, b_mirrored_slope := K04.zb_mirrored_slope F_mirrored_slope, m_mirrored_slope := m_mirrored_slope, k_mirrored_slope := k_mirrored_slope, F_mirrored_slope := F_mirrored_slope, b_check_direction := K04.zb_check_direction F_check_direction, m_check_direction := m_check_direction, k_check_direction := k_check_direction, F_check_direction := F_check_direction, b_unframed := K04.zb_unframed F_unframed, m_unframed := m_unframed, k_unframed := k_unframed, F_unframed := F_unframed, b_quarter_turns := K04.zb_quarter_turns F_quarter_turns, m_quarter_turns := m_quarter_turns, k_quarter_turns := k_quarter_turns, F_quarter_turns := F_quarter_turns, b_directions_on := K04.zb_directions_on F_directions_on, m_directions_on := m_directions_on, k_directions_on := k_directions_on, F_directions_on := F_directions_on, b_slope_of := K04.zb_slope_of F_slope_of, m_slope_of := m_slope_of, k_slope_of := k_slope_of, F_slope_of := F_slope_of, b_slope_on := K04.zb_slope_on F_slope_on, m_slope_on := m_slope_on, k_slope_on := k_slope_on, F_slope_on := F_slope_on, b_reversed_direction := K04.zb_reversed_direction F_reversed_direction, m_reversed_direction := m_reversed_direction, k_reversed_direction := k_reversed_direction, F_reversed_direction := F_reversed_direction, b_back_of := K04.zb_back_of F_back_of, m_back_of := m_back_of, k_back_of := k_back_of, F_back_of := F_back_of, b_left_of := K04.zb_left_of F_left_of, m_left_of := m_left_of, k_left_of := k_left_of, F_left_of := F_left_of, b_outward_step := K04.zb_outward_step F_outward_step, m_outward_step := m_outward_step, k_outward_step := k_outward_step, F_outward_step := F_outward_step, b__law_hand := K04.zb__law_hand F__law_hand, m__law_hand := m__law_hand, k__law_hand := k__law_hand, F__law_hand := F__law_hand, b__law_mixed := K04.zb__law_mixed F__law_mixed, m__law_mixed := m__law_mixed, k__law_mixed := k__law_mixed, F__law_mixed := F__law_mixed, b__law_take := K04.zb__law_take F__law_take, m__law_take := m__law_take, k__law_take := k__law_take, F__law_take := F__law_take, b__law_common := K04.zb__law_common F__law_common, m__law_common := m__law_common, k__law_common := k__law_common, F__law_common := F__law_common, b__law_axes := K04.zb__law_axes F__law_axes, m__law_axes := m__law_axes, k__law_axes := k__law_axes, F__law_axes := F__law_axes, b__law_steps := K04.zb__law_steps F__law_steps, m__law_steps := m__law_steps, k__law_steps := k__law_steps, F__law_steps := F__law_steps, b__law_four := K04.zb__law_four F__law_four, m__law_four := m__law_four, k__law_four := k__law_four, F__law_four := F__law_four, b__law_out := K04.zb__law_out F__law_out, m__law_out := m__law_out, k__law_out := k__law_out, F__law_out := F__law_out, b__law_tuples := K04.zb__law_tuples F__law_tuples, m__law_tuples := m__law_tuples, k__law_tuples := k__law_tuples, F__law_tuples := F__law_tuples, b__law_odd := K04.zb__law_odd F__law_odd, m__law_odd := m__law_odd, k__law_odd := k__law_odd, F__law_odd := F__law_odd, b__law_rid := K04.zb__law_rid F__law_rid, m__law_rid := m__law_rid, k__law_rid := k__law_rid, F__law_rid := F__law_rid, b__law_whole := K04.zb__law_whole F__law_whole, m__law_whole := m__law_whole, k__law_whole := k__law_whole, F__law_whole := F__law_whole, b__law_shaped := K04.zb__law_shaped F__law_shaped, m__law_shaped := m__law_shaped, k__law_shaped := k__law_shaped, F__law_shaped := F__law_shaped, b__law_plain := K04.zb__law_plain F__law_plain, m__law_plain := m__law_plain, k__law_plain := k__law_plain, F__law_plain := F__law_plain, b__law_like := K04.zb__law_like F__law_like, m__law_like := m__law_like, k__law_like := k__law_like, F__law_like := F__law_like, b__law_slope_of := K04.zb__law_slope_of F__law_slope_of, m__law_slope_of := m__law_slope_of, k__law_slope_of := k__law_slope_of, F__law_slope_of := F__law_slope_of, b__law_mirror := K04.zb__law_mirror F__law_mirror, m__law_mirror := m__law_mirror, k__law_mirror := k__law_mirror, F__law_mirror := F__law_mirror, b__law_deed := K04.zb__law_deed F__law_deed, m__law_deed := m__law_deed, k__law_deed := k__law_deed, F__law_deed := F__law_deed, b__law_is_slope := K04.zb__law_is_slope F__law_is_slope, m__law_is_slope := m__law_is_slope, k__law_is_slope := k__law_is_slope, F__law_is_slope := F__law_is_slope, b__law_slopes := K04.zb__law_slopes F__law_slopes, m__law_slopes := m__law_slopes, k__law_slopes := k__law_slopes, F__law_slopes := F__law_slopes, b__law_word := K04.zb__law_word F__law_word, m__law_word := m__law_word, k__law_word := k__law_word, F__law_word := F__law_word, b__law_drawn := K04.zb__law_drawn F__law_drawn, m__law_drawn := m__law_drawn, k__law_drawn := k__law_drawn, F__law_drawn := F__law_drawn, b__law_spoilt := K04.zb__law_spoilt F__law_spoilt, m__law_spoilt := m__law_spoilt, k__law_spoilt := k__law_spoilt, F__law_spoilt := F__law_spoilt, b__law_faceless := K04.zb__law_faceless F__law_faceless, m__law_faceless := m__law_faceless, k__law_faceless := k__law_faceless, F__law_faceless := F__law_faceless, b_law := K04.zb_law F_law, m_law := m_law, k_law := k_law, F_law := F_law, bd_check_slope_2 := K04.zb_check_slope_2 F_check_slope, bd_is_whole_3 := K04.zb_is_whole_3 F_is_whole, kb_check_slope_1_band := K04.zk_check_slope_1_band F_check_slope, bd_check_slope_1 := K04.zb_check_slope_1 F_check_slope }
    refine ⟨fd_law, Ez.law_binds F_law fun _ _ _ _ _ _ _ => rfl, fun base _ _ => ?_⟩
    have Z := K04.ok_law (Pg := (OpenLaw.prog PySem.Challenge.rw_tautparcel_k04_whole_slopes_and_directio)) (w := w) (base := base) T (K04.all_ok T 12) K04.math
    exact Ez.FnG.law (K1 := Ez.kt0 _) (K2 := Ez.kp (K04.kt _ _) 0) (by rfl) Z


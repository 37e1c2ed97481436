import PyProof.Rows.All
import Wide.All
import OpenK.AllK
import Wide.FinOn
import HandS.ForMost
import HandS.ForExc
import HandS.IsInst
import HandS.Flow
import HandS.Defaults
import HandS.CallSlots
import HandS.ExcInit
import HandS.ExcField
import HandS.TryMany
import HandS.Gcd
import HandS.Wide
import HandS.TupAny
import HandS.TupLe
import HandS.Style
import HandS.MakeKw
import PyProof.NoPylong
import Flt.Len
import PySem.Challenge.RW_tautparcel_k01_whole_ratios_in_lowest_te
set_option Elab.async false
set_option linter.all false
set_option maxRecDepth 100000
namespace Dz
open L2 PySem PyProof.Rows PySem.Spec

abbrev Ex := L2.Same
theorem Ex.refl (h : Hp) : Ex h h := fun _ _ e => e
theorem Ex.trans {h1 h2 h3 : Hp} (a : Ex h1 h2) (b : Ex h2 h3) : Ex h1 h3 := fun x o e => b x o (a x o e)
theorem Ex.new {p : Addr} {H : Hp} {o : HO} (h : H p = none) : Ex H (upd H p o) := fun a u e => by
  by_cases z : a = p
  · rw [z, h] at e; cases e
  · rw [upd_ne z]; exact e
/-- plain data of a run: what a value stands for, seen without the heap -/
inductive D where
  | non
  | bl (b : Bool)
  | int (i : Int)
  | str (x : Str)
  | tup (l : List D)
  | lst (l : List D)
  | ins (C : Addr) (ns : List Str) (ds : List D)
  | adr (a : Addr)
  | ty (n : String)
  | exc (a dx C : Addr) (ns : List Str) (ds : List D)
  | scr (l : List D)

/-- a list, a tuple that may be read for good -/
def LAt (_K : PySem.W.Frag) (G : Hp) (a : Addr) (xs : List V) : Prop := G a = some (.lst xs)
def TAt (K : PySem.W.Frag) (G : Hp) (a : Addr) (xs : List V) : Prop :=
  G a = some (.tup xs) ∨ ∃ o its n, List.lookup a K = some o ∧ o.cls = Value.type "tuple" ∧ o.data = Data.seq its n ∧ its.size ≤ sizeLine ∧ Vals xs its.toList

mutual
def Is (K : PySem.W.Frag) (G : Hp) : D → V → Prop
  | .non, v => v = .non
  | .bl b, v => v = .bl b
  | .int i, v => v = .int i
  | .str x, v => v = .str x
  | .tup ds, v => ∃ a xs, v = .ref a ∧ TAt K G a xs ∧ IsL K G ds xs
  | .lst ds, v => ∃ a xs, v = .ref a ∧ LAt K G a xs ∧ IsL K G ds xs
  | .ins C ns ds, v => ∃ a dx xs, v = .ref a ∧ G a = some (.ins C dx (ns.zip xs)) ∧ ns.length = ds.length ∧ IsL K G ds xs
  | .adr a, v => v = .ref a
  | .ty n, v => v = .ty n
  | .exc a dx C ns ds, v => ∃ xs, v = .ref a ∧ G dx = some (.xd (ns.zip xs)) ∧ ns.length = ds.length ∧ IsL K G ds xs
  | .scr ds, v => ∃ a xs, v = .ref a ∧ SqL K G a xs ∧ IsL K G ds xs
def IsL (K : PySem.W.Frag) (G : Hp) : List D → List V → Prop
  | [], xs => xs = []
  | d :: ds, xs => ∃ x r, xs = x :: r ∧ Is K G d x ∧ IsL K G ds r
end

section
variable {K : PySem.W.Frag} {G G' H H' : Hp}
theorem LAt.mono (e : Ex G G') {a : Addr} {xs : List V} (h : LAt K G a xs) : LAt K G' a xs := e _ _ h
theorem TAt.mono (e : Ex G G') {a : Addr} {xs : List V} (h : TAt K G a xs) : TAt K G' a xs := h.imp (e _ _) id
theorem LAt.sq (e : Ex G H) {a : Addr} {xs : List V} (h : LAt K G a xs) : SqL K H a xs := .inl (.inl (e _ _ h))
theorem TAt.sq (e : Ex G H) {a : Addr} {xs : List V} (h : TAt K G a xs) : SqT K H a xs := h.elim (fun z => .inl (.inl (e _ _ z))) .inr
mutual
theorem Is.mono (e : Ex G G') : ∀ (d : D) {v : V}, Is K G d v → Is K G' d v
  | .non, _, h => h
  | .bl _, _, h => h
  | .int _, _, h => h
  | .str _, _, h => h
  | .adr _, _, h => h
  | .ty _, _, h => h
  | .tup ds, _, ⟨a, xs, p, q, r⟩ => ⟨a, xs, p, q.mono e, IsL.mono e ds r⟩
  | .lst ds, _, ⟨a, xs, p, q, r⟩ => ⟨a, xs, p, q.mono e, IsL.mono e ds r⟩
  | .ins C ns ds, _, ⟨a, dx, xs, p, q, z, r⟩ => ⟨a, dx, xs, p, e _ _ q, z, IsL.mono e ds r⟩
  | .exc a dx C ns ds, _, ⟨xs, p, q, z, r⟩ => ⟨xs, p, e _ _ q, z, IsL.mono e ds r⟩
  | .scr ds, _, ⟨a, xs, p, q, r⟩ => ⟨a, xs, p, q.imp (fun q => q.imp (e _ _) fun ⟨o, z⟩ => ⟨o, e _ _ z⟩) id, IsL.mono e ds r⟩
theorem IsL.mono (e : Ex G G') : ∀ (ds : List D) {xs : List V}, IsL K G ds xs → IsL K G' ds xs
  | [], _, h => h
  | d :: ds, _, ⟨x, r, p, q, t⟩ => ⟨x, r, p, Is.mono e d q, IsL.mono e ds t⟩
end
theorem IsL.len : ∀ {ds : List D} {xs : List V}, IsL K G ds xs → xs.length = ds.length
  | [], _, h => by cases (show _ = [] from h); rfl
  | d :: ds, _, ⟨x, r, p, q, t⟩ => by rw [p, List.length_cons, List.length_cons, IsL.len t]
theorem IsL.get : ∀ {ds : List D} {xs : List V} {i : Nat} {d : D}, IsL K G ds xs → ds[i]? = some d → ∃ x, xs[i]? = some x ∧ Is K G d x
  | [], _, i, _, _, h => by simp at h
  | e :: ds, _, 0, d, ⟨x, r, p, q, t⟩, h => by
    have z : e = d := by simpa using h
    subst z; exact ⟨x, by rw [p]; rfl, q⟩
  | e :: ds, _, i + 1, d, ⟨x, r, p, q, t⟩, h => by
    obtain ⟨y, a, b⟩ := IsL.get (i := i) t (by simpa using h)
    exact ⟨y, by rw [p]; simpa using a, b⟩
theorem IsL.back : ∀ {ds : List D} {xs : List V} {i : Nat} {x : V}, IsL K G ds xs → xs[i]? = some x → ∃ d, ds[i]? = some d ∧ Is K G d x
  | [], _, i, x, h, k => by cases (show _ = [] from h); simp at k
  | e :: ds, _, 0, x, ⟨y, r, p, q, t⟩, h => by
    rw [p] at h
    have z : y = x := by simpa using h
    subst z; exact ⟨e, rfl, q⟩
  | e :: ds, _, i + 1, x, ⟨y, r, p, q, t⟩, h => by
    rw [p] at h
    obtain ⟨d, a, b⟩ := IsL.back (i := i) t (by simpa using h)
    exact ⟨d, by simpa using a, b⟩
theorem IsL.app : ∀ {ds es : List D} {xs ys : List V}, IsL K G ds xs → IsL K G es ys → IsL K G (ds ++ es) (xs ++ ys)
  | [], _, _, _, h, k => by cases (show _ = [] from h); exact k
  | d :: ds, es, _, ys, ⟨x, r, p, q, t⟩, k => ⟨x, r ++ ys, by rw [p]; rfl, q, IsL.app t k⟩
theorem IsL.one {d : D} {v : V} (h : Is K G d v) : IsL K G [d] [v] := ⟨v, [], rfl, h, rfl⟩
theorem IsL.take : ∀ {ds : List D} {xs : List V} (n : Nat), IsL K G ds xs → IsL K G (ds.take n) (xs.take n)
  | ds, xs, 0, h => rfl
  | [], _, n + 1, h => by cases (show _ = [] from h); exact rfl
  | d :: ds, _, n + 1, ⟨x, r, p, q, t⟩ => ⟨x, r.take n, by rw [p]; rfl, q, IsL.take n t⟩
theorem IsL.drop : ∀ {ds : List D} {xs : List V} (n : Nat), IsL K G ds xs → IsL K G (ds.drop n) (xs.drop n)
  | ds, xs, 0, h => h
  | [], _, n + 1, h => by cases (show _ = [] from h); exact rfl
  | d :: ds, _, n + 1, ⟨x, r, p, q, t⟩ => by rw [p]; exact IsL.drop n t
end

/-! ### the world: what may be written while all else stands -/
structure Wd where
  M : Addr → Prop
  J : Hp → Hp → Prop
  stb : ∀ {G H G' H' : Hp}, J G H → Ex G G' → (∀ a, M a → H' a = H a) → J G' H'
/-- nothing is written -/
def W0 : Wd := ⟨fun _ => False, fun _ _ => True, fun _ _ _ => trivial⟩
structure Ok (W : Wd) (G H : Hp) : Prop where
  sub : Ex G H
  cln : ∀ a, W.M a → G a = none
  liv : ∀ a, W.M a → ∃ o, H a = some o
  inv : W.J G H
structure Stp (W : Wd) (G H G' H' : Hp) : Prop where
  ok : Ok W G' H'
  ex : Ex G G'
  fresh : ∀ a o, G' a = some o → G a = some o ∨ H a = none
  kp : ∀ a o, ¬ W.M a → H a = some o → H' a = some o
  th : ∀ a o, H a = some o → ∃ o', H' a = some o'
section
variable {W : Wd} {G H G1 H1 G2 H2 G0 H0 : Hp} {p : Addr} {o : HO}
theorem Stp.refl (h : Ok W G H) : Stp W G H G H := ⟨h, Ex.refl G, fun _ _ e => .inl e, fun _ _ _ e => e, fun _ o e => ⟨o, e⟩⟩
theorem none_of_th {H H' : Hp} (th : ∀ a o, H a = some o → ∃ o', H' a = some o') {a : Addr} (h : H' a = none) : H a = none := by
  cases e : H a with
  | none => rfl
  | some o => obtain ⟨o', z⟩ := th a o e; rw [h] at z; cases z
theorem Stp.trans (s : Stp W G H G1 H1) (t : Stp W G1 H1 G2 H2) : Stp W G H G2 H2 :=
  ⟨t.ok, s.ex.trans t.ex, fun a o e => (t.fresh a o e).elim (fun z => s.fresh a o z) fun z => .inr (none_of_th s.th z), fun a o n e => t.kp a o n (s.kp a o n e), fun a o e => let ⟨o1, e1⟩ := s.th a o e; t.th a o1 e1⟩
theorem Ok.notM (h : Ok W G H) (e : H p = none) : ¬ W.M p := fun m => by obtain ⟨o, z⟩ := h.liv p m; rw [e] at z; cases z
theorem Ex.upd2 (e : Ex G H) (h : H p = none) : Ex (upd G p o) (upd H p o) := fun a u q => by
  by_cases z : a = p
  · subst z; rw [upd_same] at q ⊢; exact q
  · rw [upd_ne z] at q ⊢; exact e a u q
/-- a new object, kept for good -/
theorem Stp.lay (s : Stp W G0 H0 G H) (h : H p = none) : Stp W G0 H0 (upd G p o) (upd H p o) where
  ok := ⟨Ex.upd2 s.ok.sub h, fun a m => by
      have z : a ≠ p := fun e => s.ok.notM h (e ▸ m)
      rw [upd_ne z]; exact s.ok.cln a m, fun a m => by
      have z : a ≠ p := fun e => s.ok.notM h (e ▸ m)
      rw [upd_ne z]; exact s.ok.liv a m, W.stb s.ok.inv (Ex.new (none_of_th (fun a o e => ⟨o, s.ok.sub a o e⟩) h)) fun a m => upd_ne fun e => s.ok.notM h (e ▸ m)⟩
  ex := s.ex.trans (Ex.new (none_of_th (fun a o e => ⟨o, s.ok.sub a o e⟩) h))
  fresh := fun a u e => by
    by_cases z : a = p
    · subst z; exact .inr (none_of_th s.th h)
    · rw [upd_ne z] at e; exact s.fresh a u e
  kp := fun a u n e => by
    have z : a ≠ p := fun q => by
      have := none_of_th s.th h
      rw [q, this] at e; cases e
    rw [upd_ne z]; exact s.kp a u n e
  th := fun a u e => by
    by_cases z : a = p
    · subst z; exact ⟨o, upd_same⟩
    · rw [upd_ne z]; exact s.th a u e
/-- an own object is written (or a new one made), not kept for good -/
theorem Stp.put (s : Stp W G0 H0 G H) (h0 : H0 p = none) (hg : G p = none) (hm : ¬ W.M p) : Stp W G0 H0 G (upd H p o) where
  ok := ⟨fun a u e => by
      have z : a ≠ p := fun q => by rw [q, hg] at e; cases e
      rw [upd_ne z]; exact s.ok.sub a u e, s.ok.cln, fun a m => by
      have z : a ≠ p := fun e => hm (e ▸ m)
      rw [upd_ne z]; exact s.ok.liv a m, W.stb s.ok.inv (Ex.refl G) fun a m => upd_ne fun e => hm (e ▸ m)⟩
  ex := s.ex
  fresh := s.fresh
  kp := fun a u n e => by
    have z : a ≠ p := fun q => by rw [q, h0] at e; cases e
    rw [upd_ne z]; exact s.kp a u n e
  th := fun a u e => by
    have z : a ≠ p := fun q => by rw [q, h0] at e; cases e
    rw [upd_ne z]; exact s.th a u e
/-- an own object is kept for good from here on -/
theorem Stp.keep (s : Stp W G0 H0 G H) (h0 : H0 p = none) (hg : G p = none) (hh : H p = some o) (hm : ¬ W.M p) : Stp W G0 H0 (upd G p o) H where
  ok := ⟨fun a u e => by
      by_cases z : a = p
      · subst z; rw [upd_same] at e; cases e; exact hh
      · rw [upd_ne z] at e; exact s.ok.sub a u e, fun a m => by
      have z : a ≠ p := fun e => hm (e ▸ m)
      rw [upd_ne z]; exact s.ok.cln a m, s.ok.liv, W.stb s.ok.inv (fun a u e => by
        by_cases z : a = p
        · subst z
          have := s.ok.sub _ _ e
          rw [hh] at this; cases this
          exact upd_same
        · rw [upd_ne z]; exact e) fun a m => rfl⟩
  ex := fun a u e => by
    have z : a ≠ p := fun q => by
      have e1 := s.ex a u e
      rw [q, hg] at e1; cases e1
    rw [upd_ne z]; exact s.ex a u e
  fresh := fun a u e => by
    by_cases z : a = p
    · subst z; exact .inr h0
    · rw [upd_ne z] at e; exact s.fresh a u e
  kp := s.kp
  th := s.th
end
end Dz

set_option Elab.async false
set_option linter.all false
set_option maxRecDepth 100000
namespace Dz
open L2 PySem PyProof.Rows PySem.Spec

/-- what is known of a name: nothing; a datum; a list that this run alone holds -/
inductive Sl where
  | unk
  | dat (d : D)
  | own (p : Addr) (ds : List D)

structure Rel (K : PySem.W.Frag) (W : Wd) (H0 G H : Hp) (s : L2.St) (q : List Sl) : Prop where
  len : s.length = q.length
  dat : ∀ (i : Nat) (d : D), q[i]? = some (Sl.dat d) → ∃ v, s[i]? = some (some v) ∧ Is K G d v
  own : ∀ (i : Nat) (p : Addr) (ds : List D), q[i]? = some (Sl.own p ds) → ∃ xs, s[i]? = some (some (.ref p)) ∧ H p = some (.lst xs) ∧ G p = none ∧ H0 p = none ∧ ¬ W.M p ∧ IsL K G ds xs
  sep : ∀ (i j : Nat) (a b : List D) (p : Addr), i ≠ j → q[i]? = some (Sl.own p a) → q[j]? = some (Sl.own p b) → False
section
variable {K : PySem.W.Frag} {W : Wd} {G0 H0 G H G' H' : Hp} {s : L2.St} {q : List Sl} {v : V} {d : D} {i : Nat} {p : Addr}
theorem set_get {α : Type} {l : List α} {i j : Nat} {x y : α} (h : (l.set i x)[j]? = some y) : (i = j ∧ x = y) ∨ (i ≠ j ∧ l[j]? = some y) := by
  by_cases e : i = j
  · subst e
    by_cases hi : i < l.length
    · rw [List.getElem?_set_self hi] at h; exact .inl ⟨rfl, Option.some.inj h⟩
    · rw [List.getElem?_eq_none (by simpa using hi)] at h; cases h
  · rw [List.getElem?_set_ne e] at h; exact .inr ⟨e, h⟩
theorem Rel.step (r : Rel K W H0 G H s q) (t : Stp W G H G' H') : Rel K W H0 G' H' s q where
  len := r.len
  dat := fun i d e => let ⟨v, a, b⟩ := r.dat i d e; ⟨v, a, Is.mono t.ex d b⟩
  own := fun i p ds e => by
    obtain ⟨xs, a, b, cc, d, m, f⟩ := r.own i p ds e
    refine ⟨xs, a, t.kp p _ m b, ?_, d, m, IsL.mono t.ex ds f⟩
    cases z : G' p with
    | none => rfl
    | some o =>
      rcases t.fresh p o z with y | y
      · rw [cc] at y; cases y
      · rw [b] at y; cases y
  sep := r.sep
theorem Rel.setD (r : Rel K W H0 G H s q) (h : Is K G d v) (hi : i < q.length) : Rel K W H0 G H (s.set i (some v)) (q.set i (.dat d)) where
  len := by simp [r.len]
  dat := fun j e z => by
    rcases set_get z with ⟨a, b⟩ | ⟨a, b⟩
    · subst a; cases b
      exact ⟨v, List.getElem?_set_self (by rw [r.len]; exact hi), h⟩
    · rw [List.getElem?_set_ne a]; exact r.dat j e b
  own := fun j p e z => by
    rcases set_get z with ⟨a, b⟩ | ⟨a, b⟩
    · cases b
    · rw [List.getElem?_set_ne a]; exact r.own j p e b
  sep := fun j k a b p n za zb => (set_get za).elim (fun ⟨_, b⟩ => by cases b) fun ⟨_, e2⟩ => (set_get zb).elim (fun ⟨_, b⟩ => by cases b) fun ⟨_, e4⟩ => r.sep j k a b p n e2 e4
theorem Rel.setN (r : Rel K W H0 G H s q) : Rel K W H0 G H (s.set i none) (q.set i .unk) where
  len := by simp [r.len]
  dat := fun j e z => by
    rcases set_get z with ⟨a, b⟩ | ⟨a, b⟩
    · cases b
    · rw [List.getElem?_set_ne a]; exact r.dat j e b
  own := fun j p e z => by
    rcases set_get z with ⟨a, b⟩ | ⟨a, b⟩
    · cases b
    · rw [List.getElem?_set_ne a]; exact r.own j p e b
  sep := fun j k a b p n za zb => (set_get za).elim (fun ⟨_, b⟩ => by cases b) fun ⟨_, e2⟩ => (set_get zb).elim (fun ⟨_, b⟩ => by cases b) fun ⟨_, e4⟩ => r.sep j k a b p n e2 e4
/-- a slot's knowledge is dropped -/
theorem Rel.drop (r : Rel K W H0 G H s q) : Rel K W H0 G H s (q.set i .unk) where
  len := by simp [r.len]
  dat := fun j e z => (set_get z).elim (fun ⟨_, b⟩ => by cases b) fun ⟨_, b⟩ => r.dat j e b
  own := fun j p e z => (set_get z).elim (fun ⟨_, b⟩ => by cases b) fun ⟨_, b⟩ => r.own j p e b
  sep := fun j k a b p n za zb => (set_get za).elim (fun ⟨_, b⟩ => by cases b) fun ⟨_, e2⟩ => (set_get zb).elim (fun ⟨_, b⟩ => by cases b) fun ⟨_, e4⟩ => r.sep j k a b p n e2 e4
/-- a new own list -/
theorem Rel.setO (r : Rel K W H0 G H s q) (hp : H p = none) (h0 : H0 p = none) (hg : G p = none) (hm : ¬ W.M p) {xs : List V} {ds : List D} (hl : IsL K G ds xs) (hi : i < q.length) :
    Rel K W H0 G (upd H p (.lst xs)) (s.set i (some (.ref p))) (q.set i (.own p ds)) where
  len := by simp [r.len]
  dat := fun j e z => by
    rcases set_get z with ⟨a, b⟩ | ⟨a, b⟩
    · cases b
    · rw [List.getElem?_set_ne a]; exact r.dat j e b
  own := fun j p' e z => by
    rcases set_get z with ⟨a, b⟩ | ⟨a, b⟩
    · subst a; cases b
      exact ⟨xs, List.getElem?_set_self (by rw [r.len]; exact hi), upd_same, hg, h0, hm, hl⟩
    · rw [List.getElem?_set_ne a]
      obtain ⟨xs', q1, q2, q3, q4, q5, q6⟩ := r.own j p' e b
      exact ⟨xs', q1, by rw [upd_ne (ne_of_none q2 hp)]; exact q2, q3, q4, q5, q6⟩
  sep := fun j k a b p' n za zb => by
    have no : ∀ {k : Nat} {b : List D}, q[k]? = some (Sl.own p b) → False := fun {k b} e => by
      obtain ⟨xs2, q1, q2, _⟩ := r.own k p b e
      rw [hp] at q2; cases q2
    rcases set_get za with ⟨e1, e2⟩ | ⟨e1, e2⟩
    · subst e1; cases e2
      rcases set_get zb with ⟨e3, e4⟩ | ⟨e3, e4⟩
      · exact n e3
      · exact no e4
    · rcases set_get zb with ⟨e3, e4⟩ | ⟨e3, e4⟩
      · subst e3; cases e4
        exact no e2
      · exact r.sep j k a b p' n e2 e4
/-- an own list is written -/
theorem Rel.putO (r : Rel K W H0 G H s q) {ds es : List D} {ys : List V} (hi : q[i]? = some (.own p ds)) (hl : IsL K G es ys) :
    Rel K W H0 G (upd H p (.lst ys)) s (q.set i (.own p es)) where
  len := by simp [r.len]
  dat := fun j e z => by
    rcases set_get z with ⟨a, b⟩ | ⟨a, b⟩
    · cases b
    · exact r.dat j e b
  own := fun j p' e z => by
    rcases set_get z with ⟨a, b⟩ | ⟨a, b⟩
    · subst a; cases b
      obtain ⟨xs', q1, q2, q3, q4, q5, q6⟩ := r.own i p ds hi
      exact ⟨ys, q1, upd_same, q3, q4, q5, hl⟩
    · obtain ⟨xs', q1, q2, q3, q4, q5, q6⟩ := r.own j p' e b
      refine ⟨xs', q1, ?_, q3, q4, q5, q6⟩
      rw [upd_ne (show p' ≠ p from fun z => r.sep i j ds e p a hi (by rw [← z]; exact b))]
      exact q2
  sep := fun j k a b p' n za zb => by
    have f : ∀ {j p2 a}, (q.set i (Sl.own p es))[j]? = some (Sl.own p2 a) → ∃ a', q[j]? = some (Sl.own p2 a') := fun {j p2 a} z => by
      rcases set_get z with ⟨e1, e2⟩ | ⟨e1, e2⟩
      · cases e2; exact ⟨ds, e1 ▸ hi⟩
      · exact ⟨a, e2⟩
    obtain ⟨a', ea⟩ := f za
    obtain ⟨b', eb⟩ := f zb
    exact r.sep j k a' b' p' n ea eb
/-- an own list is kept for good from here on -/
theorem Rel.keepO (r : Rel K W H0 G H s q) (t : Stp W G0 H0 G H) {ds : List D} (hi : q[i]? = some (.own p ds)) : ∃ G', Ex G G' ∧ Stp W G0 H0 G' H ∧ Rel K W H0 G' H s (q.set i (.dat (.lst ds))) := by
  obtain ⟨xs, q1, q2, q3, q4, q5, q6⟩ := r.own i p ds hi
  have e : Ex G (upd G p (.lst xs)) := Ex.new q3
  have hl : i < q.length := (List.getElem?_eq_some_iff.mp hi).1
  refine ⟨upd G p (.lst xs), e, t.keep q4 q3 q2 q5, ⟨by simp [r.len], fun j d' z => ?_, fun j p' e' z => ?_, fun j k a b p' n za zb => (set_get za).elim (fun ⟨_, b⟩ => by cases b) fun ⟨_, e2⟩ => (set_get zb).elim (fun ⟨_, b⟩ => by cases b) fun ⟨_, e4⟩ => r.sep j k a b p' n e2 e4⟩⟩
  · rcases set_get z with ⟨a, b⟩ | ⟨a, b⟩
    · subst a; cases b
      exact ⟨_, q1, p, xs, rfl, upd_same, IsL.mono e ds q6⟩
    · obtain ⟨v, a1, a2⟩ := r.dat j d' b
      exact ⟨v, a1, Is.mono e d' a2⟩
  · rcases set_get z with ⟨a, b⟩ | ⟨a, b⟩
    · cases b
    · obtain ⟨xs', w1, w2, w3, w4, w5, w6⟩ := r.own j p' e' b
      refine ⟨xs', w1, w2, ?_, w4, w5, IsL.mono e e' w6⟩
      rw [upd_ne (show p' ≠ p from fun z => r.sep i j ds e' p a hi (by rw [← z]; exact b))]
      exact w3
end

/-! ### what is fixed within a def's run -/
structure Cn where
  K : PySem.W.Frag
  W : Wd
  G0 : Hp
  H0 : Hp
abbrev Cn.S (c : Cn) (G H : Hp) : Prop := Stp c.W c.G0 c.H0 G H
abbrev Cn.R (c : Cn) (G H : Hp) (s : L2.St) (q : List Sl) : Prop := Rel c.K c.W c.H0 G H s q
def wpE (c : Cn) (te : TE) (q : List Sl) (P : D → Prop) : Prop :=
  ∀ G H s, c.S G H → c.R G H s q → ∀ Q : VK, (∀ G' H' v d, P d → Stp c.W G H G' H' → Is c.K G' d v → Q v H') → te s H Q
def wpT (c : Cn) (tt : TT) (q : List Sl) (P : Bool → Prop) : Prop :=
  ∀ G H s, c.S G H → c.R G H s q → ∀ Q : Bool → Hp → Prop, (∀ G' H' b, P b → Stp c.W G H G' H' → Q b H') → tt s H Q
def wpA (c : Cn) (ta : TA) (q : List Sl) (P : List D → Prop) : Prop :=
  ∀ G H s, c.S G H → c.R G H s q → ∀ Q : List V → Hp → Prop, (∀ G' H' vs ds, P ds → Stp c.W G H G' H' → IsL c.K G' ds vs → Q vs H') → ta s H Q
def wpO (c : Cn) (to : TO) (q : List Sl) (P : Option Int → Prop) : Prop :=
  ∀ G H s, c.S G H → c.R G H s q → ∀ Q : Option Int → Hp → Prop, (∀ G' H' o, P o → Stp c.W G H G' H' → Q o H') → to s H Q
structure Fn where
  nx : List Sl → Prop
  rt : List Sl → D → Prop
  bk : List Sl → Prop := fun _ => False
  ct : List Sl → Prop := fun _ => False
structure Post (c : Cn) (D' : Ends) (F : Fn) (G : Hp) : Prop where
  nx : ∀ s' H' G' q', F.nx q' → Ex G G' → c.S G' H' → c.R G' H' s' q' → D'.nx s' H'
  rt : ∀ v H' G' d s' q', F.rt q' d → Ex G G' → c.S G' H' → Is c.K G' d v → c.R G' H' s' q' → D'.rt v H'
  bk : ∀ s' H' G' q', F.bk q' → Ex G G' → c.S G' H' → c.R G' H' s' q' → D'.bk s' H'
  ct : ∀ s' H' G' q', F.ct q' → Ex G G' → c.S G' H' → c.R G' H' s' q' → D'.ct s' H'
def wpS (c : Cn) (ts : TS) (q : List Sl) (F : Fn) : Prop :=
  ∀ (D' : Ends) s G H, c.S G H → c.R G H s q → Post c D' F G → ts D' s H
def wpG (c : Cn) (g : TG) (d : D) (q : List Sl) (N : List Sl → Prop) : Prop :=
  ∀ G H s v, c.S G H → c.R G H s q → Is c.K G d v → ∀ Q : L2.St → Hp → Prop, (∀ s' H' G' q', N q' → Ex G G' → c.S G' H' → c.R G' H' s' q' → Q s' H') → g v s H Q
def wpGs (c : Cn) (g : TGs) (ds : List D) (q : List Sl) (N : List Sl → Prop) : Prop :=
  ∀ G H s vs, c.S G H → c.R G H s q → IsL c.K G ds vs → ∀ Q : L2.St → Hp → Prop, (∀ s' H' G' q', N q' → Ex G G' → c.S G' H' → c.R G' H' s' q' → Q s' H') → g vs s H Q
/-- an operation upon two values, upon one, upon some -/
def opD (c : Cn) (r : R2) (x y : D) (P : D → Prop) : Prop :=
  ∀ G H vx vy, Ok c.W G H → Is c.K G x vx → Is c.K G y vy → ∀ Q : VK, (∀ G' H' v d, P d → Stp c.W G H G' H' → Is c.K G' d v → Q v H') → r vx vy H Q
def unD (c : Cn) (r : V → Hp → VK → Prop) (x : D) (P : D → Prop) : Prop :=
  ∀ G H vx, Ok c.W G H → Is c.K G x vx → ∀ Q : VK, (∀ G' H' v d, P d → Stp c.W G H G' H' → Is c.K G' d v → Q v H') → r vx H Q
def cbD (c : Cn) (r : List V → Hp → VK → Prop) (ds : List D) (P : D → Prop) : Prop :=
  ∀ G H vs, Ok c.W G H → IsL c.K G ds vs → ∀ Q : VK, (∀ G' H' v d, P d → Stp c.W G H G' H' → Is c.K G' d v → Q v H') → r vs H Q

section
variable {c : Cn} {q : List Sl} {P : D → Prop} {ta tb te : TE} {t u : TT}
theorem wp_var {i : Nat} {d : D} (h : q[i]? = some (.dat d)) (k : P d) : wpE c (tVar i) q P := fun G H s S R Q hq =>
  let ⟨v, e, h1⟩ := R.dat i d h
  ⟨v, e, hq G H v d k (Stp.refl S.ok) h1⟩
theorem wp_int {i : Int} (k : P (.int i)) : wpE c (tC (.int i)) q P := fun G H s S R Q hq => hq G H _ _ k (Stp.refl S.ok) rfl
theorem wp_bl {b : Bool} (k : P (.bl b)) : wpE c (tC (.bl b)) q P := fun G H s S R Q hq => hq G H _ _ k (Stp.refl S.ok) rfl
theorem wp_str {x : Str} (k : P (.str x)) : wpE c (tC (.str x)) q P := fun G H s S R Q hq => hq G H _ _ k (Stp.refl S.ok) rfl
theorem wp_ty {n : String} (k : P (.ty n)) : wpE c (tC (.ty n)) q P := fun G H s S R Q hq => hq G H _ _ k (Stp.refl S.ok) rfl
theorem wp_non (k : P .non) : wpE c (tC .non) q P := fun G H s S R Q hq => hq G H _ _ k (Stp.refl S.ok) rfl
theorem wp_ref {a : Addr} {d : D} (h : ∀ G, Is c.K G d (.ref a)) (k : P d) : wpE c (tC (.ref a)) q P := fun G H s S R Q hq => hq G H _ _ k (Stp.refl S.ok) (h G)
theorem wp_op {r : R2} (h : wpE c ta q fun x => wpE c tb q fun y => opD c r x y P) : wpE c (tOp r ta tb) q P := fun G H s S R Q hq =>
  h G H s S R _ fun G1 H1 vx x h1 T1 i1 => h1 G1 H1 s (S.trans T1) (R.step T1) _ fun G2 H2 vy y h2 T2 i2 =>
    h2 G2 H2 vx vy T2.ok (Is.mono T2.ex x i1) i2 Q fun G3 H3 v d p T3 i3 => hq G3 H3 v d p ((T1.trans T2).trans T3) i3
theorem wp_un {r : V → Hp → VK → Prop} (h : wpE c ta q fun x => unD c r x P) : wpE c (tUn r ta) q P := fun G H s S R Q hq =>
  h G H s S R _ fun G1 H1 vx x h1 T1 i1 => h1 G1 H1 vx T1.ok i1 Q fun G3 H3 v d p T3 i3 => hq G3 H3 v d p (T1.trans T3) i3
theorem wp_if (h : wpT c t q fun b => (b = true → wpE c ta q P) ∧ (b = false → wpE c tb q P)) : wpE c (tIf t ta tb) q P := fun G H s S R Q hq =>
  h G H s S R _ fun G1 H1 b h1 T1 => by
    cases b with
    | true => exact h1.1 rfl G1 H1 s (S.trans T1) (R.step T1) Q fun G2 H2 v d p T2 i => hq G2 H2 v d p (T1.trans T2) i
    | false => exact h1.2 rfl G1 H1 s (S.trans T1) (R.step T1) Q fun G2 H2 v d p T2 i => hq G2 H2 v d p (T1.trans T2) i
theorem wp_andV (h : wpE c ta q fun x => ∃ b, x = .bl b ∧ (b = true → wpE c tb q P) ∧ (b = false → P (.bl false))) : wpE c (tAndV ta tb) q P := fun G H s S R Q hq =>
  h G H s S R _ fun G1 H1 v x h1 T1 i1 => by
    obtain ⟨b, rfl, h2, h3⟩ := h1
    refine ⟨b, i1, ?_⟩
    cases b with
    | true => exact h2 rfl G1 H1 s (S.trans T1) (R.step T1) Q fun G2 H2 v d p T2 i => hq G2 H2 v d p (T1.trans T2) i
    | false => exact hq G1 H1 _ _ (h3 rfl) T1 rfl
theorem wp_orV (h : wpE c ta q fun x => ∃ b, x = .bl b ∧ (b = false → wpE c tb q P) ∧ (b = true → P (.bl true))) : wpE c (tOrV ta tb) q P := fun G H s S R Q hq =>
  h G H s S R _ fun G1 H1 v x h1 T1 i1 => by
    obtain ⟨b, rfl, h2, h3⟩ := h1
    refine ⟨b, i1, ?_⟩
    cases b with
    | false => exact h2 rfl G1 H1 s (S.trans T1) (R.step T1) Q fun G2 H2 v d p T2 i => hq G2 H2 v d p (T1.trans T2) i
    | true => exact hq G1 H1 _ _ (h3 rfl) T1 rfl
theorem wp_notV (h : wpE c ta q fun x => ∃ b, x = .bl b ∧ P (.bl (!b))) : wpE c (tNotV ta) q P := fun G H s S R Q hq =>
  h G H s S R _ fun G1 H1 v x h1 T1 i1 => by
    obtain ⟨b, rfl, h2⟩ := h1
    exact ⟨b, i1, hq G1 H1 _ _ h2 T1 rfl⟩
def D.isNon : D → Bool
  | .non => true
  | _ => false
theorem Is.non {K : PySem.W.Frag} {G : Hp} : ∀ {d : D} {v : V}, Is K G d v → decide (v = .non) = d.isNon
  | .non, _, h => by cases (show _ = V.non from h); rfl
  | .bl _, _, h => by cases (show _ = V.bl _ from h); rfl
  | .int _, _, h => by cases (show _ = V.int _ from h); rfl
  | .str _, _, h => by cases (show _ = V.str _ from h); rfl
  | .adr _, _, h => by cases (show _ = V.ref _ from h); rfl
  | .ty _, _, h => by cases (show _ = V.ty _ from h); rfl
  | .tup ds, _, ⟨a, xs, p, _⟩ => by rw [p]; rfl
  | .lst ds, _, ⟨a, xs, p, _⟩ => by rw [p]; rfl
  | .ins _ _ _, _, ⟨a, dx, xs, p, _⟩ => by rw [p]; rfl
  | .exc _ _ _ _ _, _, ⟨xs, p, _⟩ => by rw [p]; rfl
  | .scr _, _, ⟨a, xs, p, _⟩ => by rw [p]; rfl
theorem wp_isN (h : wpE c ta q fun x => P (.bl x.isNon)) : wpE c (tIsN ta) q P := fun G H s S R Q hq =>
  h G H s S R _ fun G1 H1 v x h1 T1 i1 => by rw [Is.non i1]; exact hq G1 H1 _ _ h1 T1 rfl
theorem wp_notN (h : wpE c ta q fun x => P (.bl (!x.isNon))) : wpE c (tNotN ta) q P := fun G H s S R Q hq =>
  h G H s S R _ fun G1 H1 v x h1 T1 i1 => by rw [Is.non i1]; exact hq G1 H1 _ _ h1 T1 rfl
theorem wp_nil {P : List D → Prop} (h : P []) : wpA c tNil q P := fun G H s S R Q hq => hq G H [] [] h (Stp.refl S.ok) rfl
theorem wp_cons {P : List D → Prop} {tr : TA} (h : wpE c ta q fun x => wpA c tr q fun xs => P (x :: xs)) : wpA c (tCons ta tr) q P := fun G H s S R Q hq =>
  h G H s S R _ fun G1 H1 v x h1 T1 i1 => h1 G1 H1 s (S.trans T1) (R.step T1) _ fun G2 H2 vs xs h2 T2 i2 =>
    hq G2 H2 _ _ h2 (T1.trans T2) ⟨v, vs, rfl, Is.mono T2.ex x i1, i2⟩
theorem none_of_sub {G H : Hp} (e : Ex G H) {p : Addr} (h : H p = none) : G p = none := none_of_th (fun a o z => ⟨o, e a o z⟩) h
theorem wp_tup {ta : TA} (h : wpA c ta q fun xs => xs.length ≤ 10000 ∧ P (.tup xs)) : wpE c (tTup ta) q P := fun G H s S R Q hq =>
  h G H s S R _ fun G1 H1 vs xs h1 T1 i1 => by
    refine ⟨by rw [IsL.len i1]; exact Nat.le_trans h1.1 (by decide), fun p hp => ?_⟩
    exact hq (upd G1 p (.tup vs)) _ _ _ h1.2 (T1.lay hp) ⟨p, vs, rfl, .inl upd_same, IsL.mono (Ex.new (none_of_sub T1.ok.sub hp)) xs i1⟩
theorem wp_lst {ta : TA} (h : wpA c ta q fun xs => xs.length ≤ 10000 ∧ P (.lst xs)) : wpE c (tLst ta) q P := fun G H s S R Q hq =>
  h G H s S R _ fun G1 H1 vs xs h1 T1 i1 => by
    refine ⟨by rw [IsL.len i1]; exact Nat.le_trans h1.1 (by decide), fun p hp => ?_⟩
    exact hq (upd G1 p (.lst vs)) _ _ _ h1.2 (T1.lay hp) ⟨p, vs, rfl, upd_same, IsL.mono (Ex.new (none_of_sub T1.ok.sub hp)) xs i1⟩
theorem wp_cb {r : List V → Hp → VK → Prop} {ta : TA} (h : wpA c ta q fun xs => cbD c r xs P) : wpE c (tCB r ta) q P := fun G H s S R Q hq =>
  h G H s S R _ fun G1 H1 vs xs h1 T1 i1 => h1 G1 H1 vs T1.ok i1 Q fun G3 H3 v d p T3 i3 => hq G3 H3 v d p (T1.trans T3) i3
theorem wp_mono {P' : D → Prop} (h : wpE c te q P) (k : ∀ d, P d → P' d) : wpE c te q P' := fun G H s S R Q hq => h G H s S R Q fun G' H' v d p => hq G' H' v d (k d p)
/-! tests -/
variable {B : Bool → Prop}
theorem wt_test (h : wpE c ta q fun x => ∃ b, x = .bl b ∧ B b) : wpT c (tTest ta) q B := fun G H s S R Q hq =>
  h G H s S R _ fun G1 H1 v x h1 T1 i1 => by
    obtain ⟨b, rfl, h2⟩ := h1
    exact ⟨b, i1, hq G1 H1 b h2 T1⟩
theorem wt_B (h : wpE c ta q fun x => ∃ b, x = .bl b ∧ B b) : wpT c (tB ta) q B := fun G H s S R Q hq =>
  h G H s S R _ fun G1 H1 v x h1 T1 i1 => by
    obtain ⟨b, rfl, h2⟩ := h1
    exact ⟨b, i1, hq G1 H1 b h2 T1⟩
theorem wt_and (h : wpT c t q fun a => (a = true → wpT c u q B) ∧ (a = false → B false)) : wpT c (tAnd t u) q B := fun G H s S R Q hq =>
  h G H s S R _ fun G1 H1 b h1 T1 => by
    cases b with
    | true => exact h1.1 rfl G1 H1 s (S.trans T1) (R.step T1) Q fun G2 H2 b p T2 => hq G2 H2 b p (T1.trans T2)
    | false => exact hq G1 H1 false (h1.2 rfl) T1
theorem wt_or (h : wpT c t q fun a => (a = false → wpT c u q B) ∧ (a = true → B true)) : wpT c (tOr t u) q B := fun G H s S R Q hq =>
  h G H s S R _ fun G1 H1 b h1 T1 => by
    cases b with
    | false => exact h1.1 rfl G1 H1 s (S.trans T1) (R.step T1) Q fun G2 H2 b p T2 => hq G2 H2 b p (T1.trans T2)
    | true => exact hq G1 H1 true (h1.2 rfl) T1
theorem wt_not (h : wpT c t q fun a => B (!a)) : wpT c (tNot t) q B := fun G H s S R Q hq =>
  h G H s S R _ fun G1 H1 b h1 T1 => hq G1 H1 _ h1 T1
theorem wt_mono {B' : Bool → Prop} (h : wpT c t q B) (k : ∀ b, B b → B' b) : wpT c t q B' := fun G H s S R Q hq => h G H s S R Q fun G' H' b p => hq G' H' b (k b p)
/-! statements -/
variable {F : Fn} {ts tu tw : TS} {g : TG}
theorem Post.more {D' : Ends} {G G' : Hp} (p : Post c D' F G) (e : Ex G G') : Post c D' F G' :=
  ⟨fun s H G1 q a b => p.nx s H G1 q a (e.trans b), fun v H G1 d s' q' a b => p.rt v H G1 d s' q' a (e.trans b), fun s H G1 q a b => p.bk s H G1 q a (e.trans b), fun s H G1 q a b => p.ct s H G1 q a (e.trans b)⟩
theorem ws_seq (h : wpS c ts q { F with nx := fun q' => wpS c tu q' F }) : wpS c (tSeq ts tu) q F := fun D' s G H S R p =>
  h { D' with nx := tu D' } s G H S R ⟨fun s' H' G' q' a b S' R' => a D' s' G' H' S' R' (p.more b), p.rt, p.bk, p.ct⟩
theorem ws_next (h : F.nx q) : wpS c tNext q F := fun D' s G H S R p => p.nx s H G q h (Ex.refl G) S R
theorem ws_brk (h : F.bk q) : wpS c tBreak q F := fun D' s G H S R p => p.bk s H G q h (Ex.refl G) S R
theorem ws_cont (h : F.ct q) : wpS c tCont q F := fun D' s G H S R p => p.ct s H G q h (Ex.refl G) S R
theorem ws_asg (h : wpE c te q fun d => wpG c g d q F.nx) : wpS c (tAsg te g) q F := fun D' s G H S R p =>
  h G H s S R _ fun G1 H1 v d h1 T1 i1 => h1 G1 H1 s v (S.trans T1) (R.step T1) i1 _ fun s' H' G' q' a b => p.nx s' H' G' q' a (T1.ex.trans b)
theorem ws_ret (h : wpE c te q (F.rt q)) : wpS c (tRet te) q F := fun D' s G H S R p =>
  h G H s S R _ fun G1 H1 v d h1 T1 i1 => p.rt v H1 G1 d s q h1 T1.ex (S.trans T1) i1 (R.step T1)
theorem ws_retN (h : F.rt q .non) : wpS c tRetN q F := fun D' s G H S R p => p.rt .non H G .non s q h (Ex.refl G) S rfl R
theorem ws_drop (h : wpE c te q fun _ => F.nx q) : wpS c (tDrop te) q F := fun D' s G H S R p =>
  h G H s S R _ fun G1 H1 v d h1 T1 i1 => p.nx s H1 G1 q h1 T1.ex (S.trans T1) (R.step T1)
theorem ws_if (h : wpT c t q fun b => (b = true → wpS c ts q F) ∧ (b = false → wpS c tu q F)) : wpS c (tIfS t ts tu) q F := fun D' s G H S R p =>
  h G H s S R _ fun G1 H1 b h1 T1 => by
    cases b with
    | true => exact h1.1 rfl D' s G1 H1 (S.trans T1) (R.step T1) (p.more T1.ex)
    | false => exact h1.2 rfl D' s G1 H1 (S.trans T1) (R.step T1) (p.more T1.ex)
theorem ws_imp {F' : Fn} (h : wpS c ts q F') (k1 : ∀ q', F'.nx q' → F.nx q') (k2 : ∀ q' d, F'.rt q' d → F.rt q' d) (k3 : ∀ q', F'.bk q' → F.bk q') (k4 : ∀ q', F'.ct q' → F.ct q') : wpS c ts q F := fun D' s G H S R p =>
  h D' s G H S R ⟨fun a b d e f => p.nx a b d e (k1 _ f), fun a b d e m n f => p.rt a b d e m n (k2 _ _ f), fun a b d e f => p.bk a b d e (k3 _ f), fun a b d e f => p.ct a b d e (k4 _ f)⟩
/-- a word between a statement and the rest -/
theorem ws_cut (Mid : List Sl → Prop) (h : wpS c ts q { F with nx := Mid }) (k : ∀ q', Mid q' → wpS c tu q' F) : wpS c (tSeq ts tu) q F :=
  ws_seq (ws_imp h k (fun _ _ z => z) (fun _ z => z) fun _ z => z)
theorem ws_keep {i : Nat} {a : Addr} {ds : List D} (hi : q[i]? = some (.own a ds)) (h : wpS c ts (q.set i (.dat (.lst ds))) F) : wpS c ts q F := fun D' s G H S R p => by
  obtain ⟨G', e, S', R'⟩ := R.keepO S hi
  exact h D' s G' H S' R' (p.more e)
theorem wg_name {i : Nat} {d : D} {N : List Sl → Prop} (hi : i < q.length) (h : N (q.set i (.dat d))) : wpG c (gName i) d q N := fun G H s v S R hv Q hq =>
  hq _ _ G _ h (Ex.refl G) S (R.setD hv hi)
theorem wg_nil {N : List Sl → Prop} (h : N q) : wpGs c gNil [] q N := fun G H s vs S R hv Q hq => ⟨hv, hq _ _ G _ h (Ex.refl G) S R⟩
theorem wg_cons {gs : TGs} {d : D} {ds : List D} {N : List Sl → Prop} (h : wpG c g d q fun q' => wpGs c gs ds q' N) : wpGs c (gCons g gs) (d :: ds) q N := fun G H s vs S R hv Q hq => by
  obtain ⟨x, r, rfl, h1, h2⟩ := hv
  exact ⟨x, r, rfl, h G H s x S R h1 _ fun s' H' G' q' a e S' R' => a G' H' s' r S' R' (IsL.mono e ds h2) Q fun s2 H2 G2 q2 b e2 => hq s2 H2 G2 q2 b (e.trans e2)⟩
theorem wg_tup {gs : TGs} {n : Nat} {ds : List D} {N : List Sl → Prop} (hn : ds.length = n) (h : wpGs c gs ds q N) : wpG c (gTup c.K n gs) (.tup ds) q N := fun G H s v S R hv Q hq => by
  obtain ⟨a, xs, rfl, h1, h2⟩ := hv
  exact ⟨a, xs, rfl, h1.sq S.ok.sub, by rw [IsL.len h2, hn], h G H s xs S R h2 Q hq⟩
end
end Dz

set_option Elab.async false
set_option linter.all false
set_option maxRecDepth 100000
namespace Dz
open L2 PySem PyProof.Rows PySem.Spec

mutual
def D.py : D → PyData
  | .bl b => .bool b
  | .int i => .int i
  | .str x => .str x
  | .tup l => .tuple (D.pyL l)
  | .lst l => .list (D.pyL l)
  | _ => .none
def D.pyL : List D → List PyData
  | [] => []
  | d :: r => D.py d :: D.pyL r
end
mutual
/-- data of numbers, texts, tuples, lists alone -/
def D.pur : D → Bool
  | .non => true
  | .bl _ => true
  | .int _ => true
  | .str x => PySem.PyData.strOk x
  | .tup l => D.purL l
  | .lst l => D.purL l
  | _ => false
def D.purL : List D → Bool
  | [] => true
  | d :: r => D.pur d && D.purL r
end
mutual
def D.dep : D → Nat
  | .tup l => D.depL l + 1
  | .lst l => D.depL l + 1
  | _ => 0
def D.depL : List D → Nat
  | [] => 0
  | d :: r => max (D.dep d) (D.depL r)
end
section
variable {K : PySem.W.Frag} {G H : Hp}
mutual
theorem Is.dp (e : Ex G H) : ∀ (d : D) {v : V}, D.pur d = true → Is K G d v → L2.Dp K H v d.py
  | .non, _, _, h => by cases (show _ = V.non from h); exact .non
  | .bl b, _, _, h => by cases (show _ = V.bl b from h); exact .bl b
  | .int b, _, _, h => by cases (show _ = V.int b from h); exact .int b
  | .str b, _, _, h => by cases (show _ = V.str b from h); exact .str b
  | .tup ds, _, p, ⟨a, xs, e1, h1, h2⟩ => by
    rw [e1]; exact .tup (h1.sq e) (IsL.dp e ds p h2)
  | .lst ds, _, p, ⟨a, xs, e1, h1, h2⟩ => by
    rw [e1]; exact .lst (h1.sq e) (IsL.dp e ds p h2)
  | .ins _ _ _, _, p, _ => by cases p
  | .adr _, _, p, _ => by cases p
  | .ty _, _, p, _ => by cases p
  | .exc _ _ _ _ _, _, p, _ => by cases p
theorem IsL.dp (e : Ex G H) : ∀ (ds : List D) {xs : List V}, D.purL ds = true → IsL K G ds xs → L2.DpAll K H xs (D.pyL ds)
  | [], _, _, h => by cases (show _ = [] from h); exact .nil
  | d :: ds, _, p, ⟨x, r, e1, h1, h2⟩ => by
    have q := Bool.and_eq_true_iff.mp (show (D.pur d && D.purL ds) = true from p)
    rw [e1]; exact .cons (Is.dp e d q.1 h1) (IsL.dp e ds q.2 h2)
end
mutual
theorem D.lay : ∀ (d : D), D.pur d = true → d.py.canLay0 = true
  | .non, _ => rfl
  | .bl b, _ => rfl
  | .int b, _ => rfl
  | .str b, p => p
  | .tup ds, p => D.layL ds p
  | .lst ds, p => D.layL ds p
  | .ins _ _ _, p => by cases p
  | .adr _, p => by cases p
  | .ty _, p => by cases p
  | .exc _ _ _ _ _, p => by cases p
theorem D.layL : ∀ (ds : List D), D.purL ds = true → PyData.canLayAll0 (D.pyL ds) = true
  | [], _ => rfl
  | d :: ds, p => by
    have q := Bool.and_eq_true_iff.mp (show (D.pur d && D.purL ds) = true from p)
    show (d.py.canLay0 && PyData.canLayAll0 (D.pyL ds)) = true
    rw [D.lay d q.1, D.layL ds q.2]; rfl
end
mutual
theorem D.deq : ∀ (d : D), d.py.depth = d.dep
  | .non => rfl
  | .bl b => rfl
  | .int b => rfl
  | .str b => rfl
  | .tup ds => congrArg (· + 1) (D.deqL ds)
  | .lst ds => congrArg (· + 1) (D.deqL ds)
  | .ins _ _ _ => rfl
  | .adr _ => rfl
  | .ty _ => rfl
  | .exc _ _ _ _ _ => rfl
  | .scr _ => rfl
theorem D.deqL : ∀ (ds : List D), PyData.depthAll (D.pyL ds) = D.depL ds
  | [] => rfl
  | d :: ds => by
    show max d.py.depth (PyData.depthAll (D.pyL ds)) = max d.dep (D.depL ds)
    rw [D.deq d, D.deqL ds]
end
/-- what == may be asked of -/
def D.cmp (d : D) : Bool := D.pur d && decide (d.dep ≤ 64)
theorem D.shp {d : D} (h : D.cmp d = true) : SeqAt.shaped d.py = true := by
  have q := Bool.and_eq_true_iff.mp h
  show (d.py.canLay0 && decide (d.py.depth ≤ 64)) = true
  rw [D.lay d q.1, D.deq d, q.2]; rfl
def D.eqv (x y : D) : Bool := PyData.eqv x.py y.py
end

section
variable {c : Cn} {q : List Sl} {P : D → Prop} {ta tb te : TE} {t u : TT}
theorem od_eq {x y : D} (hx : D.cmp x = true) (hy : D.cmp y = true) (k : P (.bl (D.eqv x y))) : opD c (rEqD c.K) x y P := fun G H vx vy o i j Q hq =>
  ⟨x.py, y.py, Is.dp o.sub x (Bool.and_eq_true_iff.mp hx).1 i, Is.dp o.sub y (Bool.and_eq_true_iff.mp hy).1 j, D.shp hx, D.shp hy, hq G H _ _ k (Stp.refl o) rfl⟩
theorem od_ne {x y : D} (hx : D.cmp x = true) (hy : D.cmp y = true) (k : P (.bl (!D.eqv x y))) : opD c (rNeD c.K) x y P := fun G H vx vy o i j Q hq =>
  ⟨x.py, y.py, Is.dp o.sub x (Bool.and_eq_true_iff.mp hx).1 i, Is.dp o.sub y (Bool.and_eq_true_iff.mp hy).1 j, D.shp hx, D.shp hy, hq G H _ _ k (Stp.refl o) rfl⟩
theorem od_i {f : Int → Int → Int} {i j : Int} (k : P (.int (f i j))) : opD c (rI0 fun i j => .int (f i j)) (.int i) (.int j) P := fun G H vx vy o a b Q hq => by
  cases (show vx = V.int i from a); cases (show vy = V.int j from b)
  exact ⟨i, j, rfl, rfl, hq G H _ _ k (Stp.refl o) rfl⟩
theorem od_b {f : Int → Int → Bool} {i j : Int} (k : P (.bl (f i j))) : opD c (rI0 fun i j => .bl (f i j)) (.int i) (.int j) P := fun G H vx vy o a b Q hq => by
  cases (show vx = V.int i from a); cases (show vy = V.int j from b)
  exact ⟨i, j, rfl, rfl, hq G H _ _ k (Stp.refl o) rfl⟩
theorem od_ci {C : Int → Int → Prop} {f : Int → Int → Int} {i j : Int} (h : C i j) (k : P (.int (f i j))) : opD c (rI C fun i j => .int (f i j)) (.int i) (.int j) P := fun G H vx vy o a b Q hq => by
  cases (show vx = V.int i from a); cases (show vy = V.int j from b)
  exact ⟨i, j, rfl, rfl, h, hq G H _ _ k (Stp.refl o) rfl⟩
theorem atI_is {K : PySem.W.Frag} {G : Hp} {ds : List D} {xs : List V} (h : IsL K G ds xs) {i : Int} {d : D} (e : atI ds i = some d) : ∃ x, atI xs i = some x ∧ Is K G d x := by
  unfold atI at e ⊢
  rw [IsL.len h]
  cases z : ixN ds.length i with
  | none => rw [z] at e; cases e
  | some j =>
    rw [z] at e
    exact IsL.get h e
theorem od_ixT {ds : List D} {i : Int} {d : D} (e : atI ds i = some d) (k : P d) : opD c (rIx c.K) (.tup ds) (.int i) P := fun G H vx vy o a b Q hq => by
  obtain ⟨p, xs, rfl, h1, h2⟩ := a
  cases (show vy = V.int i from b)
  obtain ⟨x, e2, h3⟩ := atI_is h2 e
  exact .inr (.inl ⟨p, xs, i, x, rfl, rfl, h1.sq o.sub, e2, hq G H _ d k (Stp.refl o) h3⟩)
theorem od_ixL {ds : List D} {i : Int} {d : D} (e : atI ds i = some d) (k : P d) : opD c (rIx c.K) (.lst ds) (.int i) P := fun G H vx vy o a b Q hq => by
  obtain ⟨p, xs, rfl, h1, h2⟩ := a
  cases (show vy = V.int i from b)
  obtain ⟨x, e2, h3⟩ := atI_is h2 e
  exact .inl ⟨p, xs, i, x, rfl, rfl, h1.sq o.sub, e2, hq G H _ d k (Stp.refl o) h3⟩
theorem IsL.isNil {K : PySem.W.Frag} {G : Hp} {ds : List D} {xs : List V} (h : IsL K G ds xs) : xs = [] ↔ ds = [] := by
  have := IsL.len h
  constructor
  · intro e; rw [e] at this; exact List.length_eq_zero_iff.mp this.symm
  · intro e; rw [e] at this; exact List.length_eq_zero_iff.mp this
theorem od_catL {ds es : List D} (hl : ds.length + es.length ≤ 10000) (k : P (.lst (ds ++ es))) : opD c rCat (.lst ds) (.lst es) P := fun G H vx vy o a b Q hq => by
  obtain ⟨p, xs, rfl, h1, h2⟩ := a
  obtain ⟨p', ys, rfl, h3, h4⟩ := b
  refine ⟨p, p', xs, ys, rfl, rfl, o.sub _ _ h1, o.sub _ _ h3, by rw [IsL.len h2, IsL.len h4]; exact Nat.le_trans hl (by decide), fun n hn => ?_⟩
  exact hq _ _ _ _ k ((Stp.refl o).lay hn) ⟨n, _, rfl, upd_same, IsL.mono (Ex.new (none_of_sub o.sub hn)) _ (IsL.app h2 h4)⟩
theorem od_catT {ds es : List D} (hl : ds.length + es.length ≤ 10000) (k : P (.tup (ds ++ es))) : opD c (rCatA c.K) (.tup ds) (.tup es) P := fun G H vx vy o a b Q hq => by
  obtain ⟨p, xs, rfl, h1, h2⟩ := a
  obtain ⟨p', ys, rfl, h3, h4⟩ := b
  refine ⟨p, p', xs, ys, rfl, rfl, h1.sq o.sub, h3.sq o.sub, by rw [IsL.len h2, IsL.len h4]; exact Nat.le_trans hl (by decide), fun e => ?_, fun e1 e2 => ?_, fun e1 e2 n hn => ?_⟩
  · refine hq G H _ _ k (Stp.refl o) ⟨p', ys, rfl, h3, ?_⟩
    rw [(IsL.isNil h2).mp e]; exact h4
  · refine hq G H _ _ k (Stp.refl o) ⟨p, xs, rfl, h1, ?_⟩
    rw [(IsL.isNil h4).mp e2, List.append_nil]; exact h2
  · exact hq _ _ _ _ k ((Stp.refl o).lay hn) ⟨n, _, rfl, .inl upd_same, IsL.mono (Ex.new (none_of_sub o.sub hn)) _ (IsL.app h2 h4)⟩
theorem ud_neg {f : Int → Int} {i : Int} (k : P (.int (f i))) : unD c (rU fun i => .int (f i)) (.int i) P := fun G H vx o a Q hq => by
  cases (show vx = V.int i from a)
  exact ⟨i, rfl, hq G H _ _ k (Stp.refl o) rfl⟩
theorem IsL.one_of {K : PySem.W.Frag} {G : Hp} {d : D} {vs : List V} (h : IsL K G [d] vs) : ∃ v, vs = [v] ∧ Is K G d v := by
  obtain ⟨x, r, rfl, h1, h2⟩ := h
  cases (show r = [] from h2)
  exact ⟨x, rfl, h1⟩
theorem IsL.two_of {K : PySem.W.Frag} {G : Hp} {d e : D} {vs : List V} (h : IsL K G [d, e] vs) : ∃ v w, vs = [v, w] ∧ Is K G d v ∧ Is K G e w := by
  obtain ⟨x, r, rfl, h1, h2⟩ := h
  obtain ⟨y, rfl, h3⟩ := IsL.one_of h2
  exact ⟨x, y, rfl, h1, h3⟩
theorem cb_lenT {ds : List D} (k : P (.int ds.length)) : cbD c (fun zs H Q => ∃ p ys, zs = [.ref p] ∧ (SqL c.K H p ys ∨ SqT c.K H p ys) ∧ Q (.int ys.length) H) [.tup ds] P := fun G H vs o a Q hq => by
  obtain ⟨v, rfl, p, xs, rfl, h1, h2⟩ := IsL.one_of a
  refine ⟨p, xs, rfl, .inr (h1.sq o.sub), ?_⟩
  rw [IsL.len h2]; exact hq G H _ _ k (Stp.refl o) rfl
theorem cb_lenL {ds : List D} (k : P (.int ds.length)) : cbD c (fun zs H Q => ∃ p ys, zs = [.ref p] ∧ (SqL c.K H p ys ∨ SqT c.K H p ys) ∧ Q (.int ys.length) H) [.lst ds] P := fun G H vs o a Q hq => by
  obtain ⟨v, rfl, p, xs, rfl, h1, h2⟩ := IsL.one_of a
  refine ⟨p, xs, rfl, .inl (h1.sq o.sub), ?_⟩
  rw [IsL.len h2]; exact hq G H _ _ k (Stp.refl o) rfl
theorem cb_abs {i : Int} (k : P (.int (if i < 0 then -i else i))) : cbD c (fun zs H Q => ∃ i, zs = [.int i] ∧ Q (.int (if i < 0 then -i else i)) H) [.int i] P := fun G H vs o a Q hq => by
  obtain ⟨v, rfl, h⟩ := IsL.one_of a
  cases (show v = V.int i from h)
  exact ⟨i, rfl, hq G H _ _ k (Stp.refl o) rfl⟩
theorem cb_int {i : Int} (k : P (.int i)) : cbD c (fun zs H Q => (∃ i, zs = [.int i] ∧ Q (.int i) H) ∨ ∃ k, zs = [.bl k] ∧ Q (.int (if k then 1 else 0)) H) [.int i] P := fun G H vs o a Q hq => by
  obtain ⟨v, rfl, h⟩ := IsL.one_of a
  cases (show v = V.int i from h)
  exact .inl ⟨i, rfl, hq G H _ _ k (Stp.refl o) rfl⟩
theorem cb_gcd {i j : Int} (k : P (.int ((Nat.gcd i.natAbs j.natAbs : Nat) : Int))) : cbD c rGcd [.int i, .int j] P := fun G H vs o a Q hq => by
  obtain ⟨v, w, rfl, h, h'⟩ := IsL.two_of a
  cases (show v = V.int i from h); cases (show w = V.int j from h')
  exact ⟨i, j, rfl, hq G H _ _ k (Stp.refl o) rfl⟩
theorem cb_min {i j : Int} (k : P (.int (if j < i then j else i))) : cbD c (fun zs H Q => ∃ i j, zs = [.int i, .int j] ∧ Q (.int (if j < i then j else i)) H) [.int i, .int j] P := fun G H vs o a Q hq => by
  obtain ⟨v, w, rfl, h, h'⟩ := IsL.two_of a
  cases (show v = V.int i from h); cases (show w = V.int j from h')
  exact ⟨i, j, rfl, hq G H _ _ k (Stp.refl o) rfl⟩
theorem cb_max {i j : Int} (k : P (.int (if j > i then j else i))) : cbD c (fun zs H Q => ∃ i j, zs = [.int i, .int j] ∧ Q (.int (if j > i then j else i)) H) [.int i, .int j] P := fun G H vs o a Q hq => by
  obtain ⟨v, w, rfl, h, h'⟩ := IsL.two_of a
  cases (show v = V.int i from h); cases (show w = V.int j from h')
  exact ⟨i, j, rfl, hq G H _ _ k (Stp.refl o) rfl⟩
/-- list(..), tuple(..) of a list or a tuple -/
theorem cb_listT {ds : List D} (k : P (.lst ds)) : cbD c (fun zs H Q => ∃ p ys, zs = [.ref p] ∧ (SqL c.K H p ys ∨ SqT c.K H p ys) ∧ ∀ l, H l = none → Q (.ref l) (upd H l (.lst ys))) [.tup ds] P := fun G H vs o a Q hq => by
  obtain ⟨v, rfl, p, xs, rfl, h1, h2⟩ := IsL.one_of a
  exact ⟨p, xs, rfl, .inr (h1.sq o.sub), fun n hn => hq _ _ _ _ k ((Stp.refl o).lay hn) ⟨n, xs, rfl, upd_same, IsL.mono (Ex.new (none_of_sub o.sub hn)) _ h2⟩⟩
theorem cb_listL {ds : List D} (k : P (.lst ds)) : cbD c (fun zs H Q => ∃ p ys, zs = [.ref p] ∧ (SqL c.K H p ys ∨ SqT c.K H p ys) ∧ ∀ l, H l = none → Q (.ref l) (upd H l (.lst ys))) [.lst ds] P := fun G H vs o a Q hq => by
  obtain ⟨v, rfl, p, xs, rfl, h1, h2⟩ := IsL.one_of a
  exact ⟨p, xs, rfl, .inl (h1.sq o.sub), fun n hn => hq _ _ _ _ k ((Stp.refl o).lay hn) ⟨n, xs, rfl, upd_same, IsL.mono (Ex.new (none_of_sub o.sub hn)) _ h2⟩⟩
theorem cb_tupT {ds : List D} (k : P (.tup ds)) : cbD c (fun zs H Q => ∃ p ys, zs = [.ref p] ∧ ((SqL c.K H p ys ∧ ∀ l, H l = none → Q (.ref l) (upd H l (.tup ys))) ∨ (SqT c.K H p ys ∧ Q (.ref p) H))) [.tup ds] P := fun G H vs o a Q hq => by
  obtain ⟨v, rfl, p, xs, rfl, h1, h2⟩ := IsL.one_of a
  exact ⟨p, xs, rfl, .inr ⟨h1.sq o.sub, hq G H _ _ k (Stp.refl o) ⟨p, xs, rfl, h1, h2⟩⟩⟩
theorem cb_tupL {ds : List D} (k : P (.tup ds)) : cbD c (fun zs H Q => ∃ p ys, zs = [.ref p] ∧ ((SqL c.K H p ys ∧ ∀ l, H l = none → Q (.ref l) (upd H l (.tup ys))) ∨ (SqT c.K H p ys ∧ Q (.ref p) H))) [.lst ds] P := fun G H vs o a Q hq => by
  obtain ⟨v, rfl, p, xs, rfl, h1, h2⟩ := IsL.one_of a
  exact ⟨p, xs, rfl, .inl ⟨h1.sq o.sub, fun n hn => hq _ _ _ _ k ((Stp.refl o).lay hn) ⟨n, xs, rfl, .inl upd_same, IsL.mono (Ex.new (none_of_sub o.sub hn)) _ h2⟩⟩⟩
/-! isinstance -/
def D.tyn : D → Option String
  | .non => some "NoneType"
  | .bl _ => some "bool"
  | .int _ => some "int"
  | .str _ => some "str"
  | .tup _ => some "tuple"
  | .lst _ => some "list"
  | _ => none
theorem Is.ty {K : PySem.W.Frag} {G H : Hp} (e : Ex G H) : ∀ {d : D} {v : V} {n : String}, D.tyn d = some n → Is K G d v → TyX K H v (.type n)
  | .non, _, _, h, i => by cases h; cases (show _ = V.non from i); exact .base .non
  | .bl b, _, _, h, i => by cases h; cases (show _ = V.bl b from i); exact .base (.bl b)
  | .int b, _, _, h, i => by cases h; cases (show _ = V.int b from i); exact .base (.int b)
  | .str b, _, _, h, i => by cases h; cases (show _ = V.str b from i); exact .base (.str b)
  | .tup ds, _, _, h, ⟨a, xs, e1, h1, h2⟩ => by
    cases h; rw [e1]
    rcases h1 with h1 | ⟨o, its, n, h1, h3, _⟩
    · exact .base (.tup (e _ _ h1))
    · exact .kTuple h1 h3
  | .lst ds, _, _, h, ⟨a, xs, e1, h1, h2⟩ => by
    cases h; rw [e1]; exact .base (.lst (e _ _ h1))
theorem cb_isi {d : D} {t n : String} {b : Bool} (ht : D.tyn d = some t) (hk : kitB t n = some b) (k : P (.bl b)) : cbD c (rIsi c.K) [d, .ty n] P := fun G H vs o a Q hq => by
  obtain ⟨v, w, rfl, h, h'⟩ := IsL.two_of a
  cases (show w = V.ty n from h')
  exact ⟨v, _, _, _, b, rfl, .ty n, Is.ty o.sub ht h, kit_ty hk, hq G H _ _ k (Stp.refl o) rfl⟩
theorem kany2 {K : PySem.W.Frag} {t n1 n2 : String} {b1 b2 : Bool} (h1 : kitB t n1 = some b1) (h2 : kitB t n2 = some b2) : PySem.W.kitAny K (.type t) [.type n1, .type n2] = some (b1 || b2) := by
  refine kitAny_cons (kit_ty h1) (fun e => ?_) fun e => by rw [e]; rfl
  rw [e]
  refine kitAny_cons (kit_ty h2) (fun e2 => ?_) fun e2 => by rw [e2]; rfl
  rw [e2]; exact kitAny_nil
/-- isinstance(e, (T1, T2)), the tuple written there -/
theorem wp_isi2 {n1 n2 : String} (h : wpE c ta q fun d => ∃ t b1 b2, D.tyn d = some t ∧ kitB t n1 = some b1 ∧ kitB t n2 = some b2 ∧ P (.bl (b1 || b2))) :
    wpE c (tCB (rIsiT c.K) (tCons ta (tCons (tTup (tCons (tC (.ty n1)) (tCons (tC (.ty n2)) tNil))) tNil))) q P := fun G H s S R Q hq =>
  h G H s S R _ fun G1 H1 v d h1 T1 i1 => by
    obtain ⟨t, b1, b2, ht, k1, k2, hp⟩ := h1
    refine ⟨(by decide : 2 ≤ sizeLine), fun p hp0 => ?_⟩
    have T2 := T1.lay (o := .tup [.ty n1, .ty n2]) hp0
    exact ⟨v, p, _, _, _, _, rfl, upd_same, .cons (.ty n1) (.cons (.ty n2) .nil), Is.ty (Ex.trans T1.ok.sub (Ex.new hp0)) ht i1, kany2 k1 k2, hq _ _ _ _ hp T2 rfl⟩
/-! slices -/
theorem wo_none {B : Option Int → Prop} (h : B none) : wpO c tNoPart q B := fun G H s S R Q hq => hq G H none h (Stp.refl S.ok)
theorem wo_some {B : Option Int → Prop} (h : wpE c te q fun x => ∃ i, x = .int i ∧ B (some i)) : wpO c (tPart te) q B := fun G H s S R Q hq =>
  h G H s S R _ fun G1 H1 v d h1 T1 i1 => by
    obtain ⟨i, rfl, h2⟩ := h1
    exact ⟨i, i1, hq G1 H1 _ h2 T1⟩
def cutD (xs : List D) (lo hi : Option Int) : List D := (xs.drop (HT.sIx xs.length 0 lo)).take (HT.sIx xs.length xs.length hi - HT.sIx xs.length 0 lo)
theorem IsL.cut {K : PySem.W.Frag} {G : Hp} {ds : List D} {xs : List V} (h : IsL K G ds xs) (lo hi : Option Int) : IsL K G (cutD ds lo hi) (cutV xs lo hi) := by
  unfold cutD cutV
  rw [IsL.len h]
  exact IsL.take _ (IsL.drop _ h)
theorem wp_slL {tl th : TO} (h : wpE c te q fun x => wpO c tl q fun lo => wpO c th q fun hi => ∃ ds, x = .lst ds ∧ P (.lst (cutD ds lo hi))) : wpE c (tSl (rSlL c.K) te tl th) q P := fun G H s S R Q hq =>
  h G H s S R _ fun G1 H1 v d h1 T1 i1 => h1 G1 H1 s (S.trans T1) (R.step T1) _ fun G2 H2 lo h2 T2 => h2 G2 H2 s ((S.trans T1).trans T2) ((R.step T1).step T2) _ fun G3 H3 hi h3 T3 => by
    obtain ⟨ds, rfl, hp⟩ := h3
    obtain ⟨a, xs, rfl, a1, a2⟩ := i1
    have e := T2.ex.trans T3.ex
    refine ⟨a, xs, rfl, (a1.mono e).sq T3.ok.sub, fun p hp0 => ?_⟩
    have T := ((T1.trans T2).trans T3).lay (o := .lst (cutV xs lo hi)) hp0
    exact hq _ _ _ _ hp T ⟨p, _, rfl, upd_same, IsL.mono (Ex.new (none_of_sub T3.ok.sub hp0)) _ (IsL.mono e _ (IsL.cut a2 lo hi))⟩
theorem IsL.whole {K : PySem.W.Frag} {G : Hp} {ds : List D} {xs : List V} (h : IsL K G ds xs) {lo hi : Option Int} (e1 : HT.sIx xs.length 0 lo = 0) (e2 : HT.sIx xs.length xs.length hi = xs.length) : cutD ds lo hi = ds := by
  unfold cutD
  rw [← IsL.len h, e1, e2, List.drop_zero, Nat.sub_zero, IsL.len h, List.take_length]
theorem wp_slT {tl th : TO} (h : wpE c te q fun x => wpO c tl q fun lo => wpO c th q fun hi => ∃ ds, x = .tup ds ∧ P (.tup (cutD ds lo hi))) : wpE c (tSl (rSlA c.K) te tl th) q P := fun G H s S R Q hq =>
  h G H s S R _ fun G1 H1 v d h1 T1 i1 => h1 G1 H1 s (S.trans T1) (R.step T1) _ fun G2 H2 lo h2 T2 => h2 G2 H2 s ((S.trans T1).trans T2) ((R.step T1).step T2) _ fun G3 H3 hi h3 T3 => by
    obtain ⟨ds, rfl, hp⟩ := h3
    obtain ⟨a, xs, rfl, a1, a2⟩ := i1
    have e := T2.ex.trans T3.ex
    have TT := (T1.trans T2).trans T3
    refine ⟨a, xs, rfl, (a1.mono e).sq T3.ok.sub, fun z => ?_, fun _ p hp0 => ?_⟩
    · rw [IsL.whole a2 z.1 z.2] at hp
      exact hq _ _ _ _ hp TT ⟨a, xs, rfl, a1.mono e, IsL.mono e _ a2⟩
    · exact hq _ _ _ _ hp (TT.lay hp0) ⟨p, _, rfl, .inl upd_same, IsL.mono (Ex.new (none_of_sub T3.ok.sub hp0)) _ (IsL.mono e _ (IsL.cut a2 lo hi))⟩
/-- e is True, e is not False, of truth values -/
theorem od_bb {f : Bool → Bool → Bool} {a b : Bool} (k : P (.bl (f a b))) : opD c (fun x y H Q => ∃ a b, x = .bl a ∧ y = .bl b ∧ Q (.bl (f a b)) H) (.bl a) (.bl b) P := fun G H vx vy o i j Q hq => by
  cases (show vx = V.bl a from i); cases (show vy = V.bl b from j)
  exact ⟨a, b, rfl, rfl, hq G H _ _ k (Stp.refl o) rfl⟩
theorem wp_chain {r r' : R2} {tc : TE} (h : wpE c ta q fun x => wpE c tb q fun y => opD c r x y fun z => ∃ b, z = .bl b ∧ (b = true → wpE c tc q fun w => opD c r' y w P) ∧ (b = false → P (.bl false))) : wpE c (tChain r r' ta tb tc) q P := fun G H s S R Q hq =>
  h G H s S R _ fun G1 H1 vx x h1 T1 i1 => h1 G1 H1 s (S.trans T1) (R.step T1) _ fun G2 H2 vy y h2 T2 i2 =>
    h2 G2 H2 vx vy T2.ok (Is.mono T2.ex x i1) i2 _ fun G3 H3 v d p T3 i3 => by
      obtain ⟨b, rfl, k1, k2⟩ := p
      have T := (T1.trans T2).trans T3
      refine ⟨b, i3, ?_⟩
      cases b with
      | false =>
        first
          | exact hq G3 H3 _ _ (k2 rfl) T rfl
          | (rw [if_neg (by decide)]; exact hq G3 H3 _ _ (k2 rfl) T rfl)
          | (rw [if_pos (by decide)]; exact hq G3 H3 _ _ (k2 rfl) T rfl)
      | true =>
        have g := k1 rfl G3 H3 s (S.trans T) (R.step T) (fun w H4 => r' vy w H4 Q) fun G4 H4 vw w h4 T4 i4 =>
          h4 G4 H4 vy vw T4.ok (Is.mono (T3.ex.trans T4.ex) y i2) i4 Q fun G5 H5 v5 d5 p5 T5 i5 => hq G5 H5 v5 d5 p5 ((T.trans T4).trans T5) i5
        first
          | exact g
          | (rw [if_neg (by decide)]; exact g)
          | (rw [if_pos (by decide)]; exact g)
end
end Dz

set_option Elab.async false
set_option linter.all false
set_option maxRecDepth 100000
namespace Dz
open L2 PySem PyProof.Rows PySem.Spec

section
variable {c : Cn} {q : List Sl} {P : D → Prop} {ta tb te : TE} {t u : TT} {F : Fn} {ts tu tw : TS} {g : TG}
/-! ### loops -/
/-- a state of a loop: some slots by the loop's word, what was kept at G1 kept -/
def LpAt (c : Cn) (G1 : Hp) (I : List Sl → Prop) (s : L2.St) (H : Hp) : Prop := ∃ G q', I q' ∧ Ex G1 G ∧ c.S G H ∧ c.R G H s q'
theorem turn_at {tb : TS} {I J : List Sl → Prop} {G1 : Hp} {D' : Ends} {x : D} {v : V} {s : L2.St} {H G : Hp} {q' : List Sl} (p : Post c D' F G1) (e : Ex G1 G) (S : c.S G H) (R : c.R G H s q') (iv : Is c.K G x v)
    (h : wpG c g x q' fun q2 => wpS c tb q2 { F with nx := I, ct := J, bk := F.nx }) : g v s H fun s2 H2 => tb { D' with nx := LpAt c G1 I, ct := LpAt c G1 J, bk := D'.nx } s2 H2 :=
  h G H s v S R iv _ fun s2 H2 G2 q2 w e2 S2 R2 => w _ s2 G2 H2 S2 R2
    ⟨fun s3 H3 G3 q3 a b S3 R3 => ⟨G3, q3, a, (e.trans e2).trans b, S3, R3⟩, fun v H3 G3 d m n a b => p.rt v H3 G3 d m n a ((e.trans e2).trans b), fun s3 H3 G3 q3 a b => p.nx s3 H3 G3 q3 a ((e.trans e2).trans b), fun s3 H3 G3 q3 a b S3 R3 => ⟨G3, q3, a, (e.trans e2).trans b, S3, R3⟩⟩
theorem ws_forL {tb : TS} (h : wpE c ta q fun d => ∃ ds, d = .lst ds ∧ ∃ I : Nat → List Sl → Prop, I 0 q ∧
      (∀ i x q', ds[i]? = some x → I i q' → wpG c g x q' fun q2 => wpS c tb q2 { F with nx := I (i + 1), ct := I (i + 1), bk := F.nx }) ∧ ∀ q', I ds.length q' → F.nx q') :
    wpS c (tFor (iList c.K ta) g tb) q F := fun D' s G H S R p =>
  h G H s S R _ fun G1 H1 v d h1 T1 i1 => by
    obtain ⟨ds, rfl, I, h0, hs, hd⟩ := h1
    obtain ⟨a, xs, rfl, l1, l2⟩ := i1
    have p1 := p.more T1.ex
    refine ⟨a, rfl, ⟨xs, l1.sq T1.ok.sub⟩, for_list (xs := xs) (fun i => LpAt c G1 (I i)) ⟨G1, q, h0, Ex.refl G1, S.trans T1, R.step T1⟩ (fun i s' H' _ z => ?_) (fun i x s' H' e z => ?_) fun s' H' z => ?_⟩
    · obtain ⟨G2, q2, _, e2, S2, _⟩ := z
      exact (l1.mono e2).sq S2.ok.sub
    · obtain ⟨G2, q2, w, e2, S2, R2⟩ := z
      obtain ⟨d, ed, id⟩ := IsL.back l2 e
      exact turn_at p1 e2 S2 R2 (Is.mono e2 d id) (hs i d q2 ed w)
    · obtain ⟨G2, q2, w, e2, S2, R2⟩ := z
      rw [IsL.len l2] at w
      exact p1.nx s' H' G2 q2 (hd q2 w) e2 S2 R2
theorem ws_forT {tb : TS} (h : wpE c ta q fun d => ∃ ds, d = .tup ds ∧ ∃ I : Nat → List Sl → Prop, I 0 q ∧
      (∀ i x q', ds[i]? = some x → I i q' → wpG c g x q' fun q2 => wpS c tb q2 { F with nx := I (i + 1), ct := I (i + 1), bk := F.nx }) ∧ ∀ q', I ds.length q' → F.nx q') :
    wpS c (tFor (iTup c.K ta) g tb) q F := fun D' s G H S R p =>
  h G H s S R _ fun G1 H1 v d h1 T1 i1 => by
    obtain ⟨ds, rfl, I, h0, hs, hd⟩ := h1
    obtain ⟨a, xs, rfl, l1, l2⟩ := i1
    have p1 := p.more T1.ex
    refine ⟨a, rfl, ⟨xs, l1.sq T1.ok.sub⟩, for_tup (xs := xs) (fun i => LpAt c G1 (I i)) ⟨G1, q, h0, Ex.refl G1, S.trans T1, R.step T1⟩ (fun i s' H' _ z => ?_) (fun i x s' H' e z => ?_) fun s' H' z => ?_⟩
    · obtain ⟨G2, q2, _, e2, S2, _⟩ := z
      exact (l1.mono e2).sq S2.ok.sub
    · obtain ⟨G2, q2, w, e2, S2, R2⟩ := z
      obtain ⟨d, ed, id⟩ := IsL.back l2 e
      exact turn_at p1 e2 S2 R2 (Is.mono e2 d id) (hs i d q2 ed w)
    · obtain ⟨G2, q2, w, e2, S2, R2⟩ := z
      rw [IsL.len l2] at w
      exact p1.nx s' H' G2 q2 (hd q2 w) e2 S2 R2
theorem ws_forR1 {tb : TS} {ta : TA} (h : wpA c ta q fun ds => ∃ n : Int, ds = [.int n] ∧ -(2 ^ 62) ≤ n ∧ n < 2 ^ 62 ∧ ∃ I : Nat → List Sl → Prop, I 0 q ∧
      (∀ (i : Nat) q', (i : Int) < n → I i q' → wpG c g (.int i) q' fun q2 => wpS c tb q2 { F with nx := I (i + 1), ct := I (i + 1), bk := F.nx }) ∧ ∀ q', I n.toNat q' → F.nx q') :
    wpS c (tFor (iRng1 ta) g tb) q F := fun D' s G H S R p =>
  h G H s S R _ fun G1 H1 vs ds h1 T1 i1 => by
    obtain ⟨n, rfl, n1, n2, I, h0, hs, hd⟩ := h1
    obtain ⟨v, rfl, iv⟩ := IsL.one_of i1
    cases (show v = V.int n from iv)
    have p1 := p.more T1.ex
    refine ⟨n, rfl, n1, n2, for_range (lo := 0) (n := n.toNat) (fun i => LpAt c G1 (I i)) ⟨G1, q, h0, Ex.refl G1, S.trans T1, R.step T1⟩ (fun i s' H' hi z => ?_) fun s' H' z => ?_⟩
    · obtain ⟨G2, q2, w, e2, S2, R2⟩ := z
      rw [show (0 : Int) + (i : Int) = (i : Int) from Int.zero_add _]
      exact turn_at p1 e2 S2 R2 (show Is c.K G2 (.int (i : Int)) (V.int (i : Int)) from rfl) (hs i q2 (by omega) w)
    · obtain ⟨G2, q2, w, e2, S2, R2⟩ := z
      exact p1.nx s' H' G2 q2 (hd q2 w) e2 S2 R2
theorem ws_forR2 {tb : TS} {ta : TA} (h : wpA c ta q fun ds => ∃ lo n : Int, ds = [.int lo, .int n] ∧ (-(2 ^ 62) ≤ lo ∧ lo < 2 ^ 62 ∧ -(2 ^ 62) ≤ n ∧ n < 2 ^ 62) ∧ ∃ I : Nat → List Sl → Prop, I 0 q ∧
      (∀ (i : Nat) q', lo + (i : Int) < n → I i q' → wpG c g (.int (lo + i)) q' fun q2 => wpS c tb q2 { F with nx := I (i + 1), ct := I (i + 1), bk := F.nx }) ∧ ∀ q', I (n - lo).toNat q' → F.nx q') :
    wpS c (tFor (iRng2 ta) g tb) q F := fun D' s G H S R p =>
  h G H s S R _ fun G1 H1 vs ds h1 T1 i1 => by
    obtain ⟨lo, n, rfl, hb, I, h0, hs, hd⟩ := h1
    obtain ⟨v, w, rfl, iv, iw⟩ := IsL.two_of i1
    cases (show v = V.int lo from iv)
    cases (show w = V.int n from iw)
    have p1 := p.more T1.ex
    refine ⟨lo, n, rfl, hb, for_range (lo := lo) (n := (n - lo).toNat) (fun i => LpAt c G1 (I i)) ⟨G1, q, h0, Ex.refl G1, S.trans T1, R.step T1⟩ (fun i s' H' hi z => ?_) fun s' H' z => ?_⟩
    · obtain ⟨G2, q2, w, e2, S2, R2⟩ := z
      exact turn_at p1 e2 S2 R2 (show Is c.K G2 (.int (lo + (i : Int))) (V.int (lo + (i : Int))) from rfl) (hs i q2 (by omega) w)
    · obtain ⟨G2, q2, w, e2, S2, R2⟩ := z
      exact p1.nx s' H' G2 q2 (hd q2 w) e2 S2 R2
theorem ws_while {tb : TS} (I : Nat → List Sl → Prop) (h0 : ∃ m, I m q) (h : ∀ m q', I m q' → wpT c t q' fun b =>
      (b = true → wpS c tb q' { F with nx := fun q2 => ∃ m', m' < m ∧ I m' q2, ct := fun q2 => ∃ m', m' < m ∧ I m' q2, bk := F.nx }) ∧ (b = false → F.nx q')) : wpS c (tWhile t tb) q F := fun D' s G H S R p => by
  obtain ⟨m, h0⟩ := h0
  refine ⟨fun m => LpAt c G (I m), ⟨m, G, q, h0, Ex.refl G, S, R⟩, fun m s1 H1 w => ?_⟩
  obtain ⟨G1, q1, w, e1, S1, R1⟩ := w
  refine h m q1 w G1 H1 s1 S1 R1 _ fun G2 H2 b h2 T2 => ?_
  cases b with
  | false =>
    have z := p.nx s1 H2 G2 q1 (h2.2 rfl) (e1.trans T2.ex) (S1.trans T2) (R1.step T2)
    first
      | exact z
      | (rw [if_neg (by decide)]; exact z)
  | true =>
    have z : ∃ N : L2.St → Hp → Prop, (∀ s' H', N s' H' → ∃ m', m' < m ∧ LpAt c G (I m') s' H') ∧ tb { D' with nx := N, ct := N, bk := D'.nx } s1 H2 := by
      refine ⟨fun s' H' => ∃ m', m' < m ∧ LpAt c G (I m') s' H', fun _ _ z => z, ?_⟩
      refine h2.1 rfl _ s1 G2 H2 (S1.trans T2) (R1.step T2) ⟨fun s3 H3 G3 q3 a b S3 R3 => ?_, fun v H3 G3 d m n a b => p.rt v H3 G3 d m n a ((e1.trans T2.ex).trans b), fun s3 H3 G3 q3 a b => p.nx s3 H3 G3 q3 a ((e1.trans T2.ex).trans b), fun s3 H3 G3 q3 a b S3 R3 => ?_⟩
      · obtain ⟨m', lt, a⟩ := a
        exact ⟨m', lt, G3, q3, a, (e1.trans T2.ex).trans b, S3, R3⟩
      · obtain ⟨m', lt, a⟩ := a
        exact ⟨m', lt, G3, q3, a, (e1.trans T2.ex).trans b, S3, R3⟩
    first
      | exact z
      | (rw [if_pos rfl]; exact z)
theorem ws_par {i j : Nat} {ta : TA} (h : wpA c ta q fun ds => ∃ x y, ds = [x, y] ∧ i < q.length ∧ j < q.length ∧ F.nx ((q.set i (.dat x)).set j (.dat y))) : wpS c (tPar i j ta) q F := fun D' s G H S R p =>
  h G H s S R _ fun G1 H1 vs ds h1 T1 i1 => by
    obtain ⟨x, y, rfl, hi, hj, k⟩ := h1
    obtain ⟨v, w, rfl, iv, iw⟩ := IsL.two_of i1
    exact ⟨v, w, rfl, p.nx _ _ G1 _ k T1.ex (S.trans T1) (((R.step T1).setD iv hi).setD iw (by simpa using hj))⟩
/-! ### own lists -/
/-- a new list that nobody else holds -/
def wpF (c : Cn) (te : TE) (q : List Sl) (P : List D → Prop) : Prop :=
  ∀ G H s, c.S G H → c.R G H s q → ∀ Q : VK, (∀ G' H1 p xs ds, P ds → Stp c.W G H G' H1 → H1 p = none → IsL c.K G' ds xs → Q (.ref p) (upd H1 p (.lst xs))) → te s H Q
theorem wf_lst {ta : TA} {P : List D → Prop} (h : wpA c ta q fun xs => xs.length ≤ 10000 ∧ P xs) : wpF c (tLst ta) q P := fun G H s S R Q hq =>
  h G H s S R _ fun G1 H1 vs xs h1 T1 i1 => ⟨by rw [IsL.len i1]; exact Nat.le_trans h1.1 (by decide), fun p hp => hq G1 H1 p vs xs h1.2 T1 hp i1⟩
theorem wf_listT {ta : TA} {P : List D → Prop} (h : wpA c ta q fun xs => ∃ ds, (xs = [.tup ds] ∨ xs = [.lst ds]) ∧ P ds) : wpF c (tCB (fun zs H Q => ∃ p ys, zs = [.ref p] ∧ (SqL c.K H p ys ∨ SqT c.K H p ys) ∧ ∀ l, H l = none → Q (.ref l) (upd H l (.lst ys))) ta) q P := fun G H s S R Q hq =>
  h G H s S R _ fun G1 H1 vs xs h1 T1 i1 => by
    obtain ⟨ds, e, k⟩ := h1
    rcases e with rfl | rfl
    · obtain ⟨v, rfl, p, ys, rfl, h2, h3⟩ := IsL.one_of i1
      exact ⟨p, ys, rfl, .inr (h2.sq T1.ok.sub), fun l hl => hq G1 H1 l ys ds k T1 hl h3⟩
    · obtain ⟨v, rfl, p, ys, rfl, h2, h3⟩ := IsL.one_of i1
      exact ⟨p, ys, rfl, .inl (h2.sq T1.ok.sub), fun l hl => hq G1 H1 l ys ds k T1 hl h3⟩
theorem ws_asgF {i : Nat} (hl : i < q.length) (h : wpF c te q fun ds => ∀ a, F.nx (q.set i (.own a ds))) : wpS c (tAsg te (gName i)) q F := fun D' s G H S R p =>
  h G H s S R _ fun G1 H1 a xs ds h1 T1 hn hx => by
    have S1 := S.trans T1
    have hg := none_of_sub T1.ok.sub hn
    exact p.nx _ _ G1 _ (h1 a) T1.ex (S1.put (none_of_th S1.th hn) hg (T1.ok.notM hn)) ((R.step T1).setO hn (none_of_th S1.th hn) hg (T1.ok.notM hn) hx hl)
theorem ws_app {i : Nat} {a : Addr} {ds : List D} (hi : q[i]? = some (.own a ds)) (h : wpE c te q fun d => ds.length ≤ 10000 ∧ F.nx (q.set i (.own a (ds ++ [d])))) : wpS c (tDrop (tBM c.K "list" rAppend (tVar i) (tCons te tNil))) q F := fun D' s G H S R p => by
  obtain ⟨xs, e1, e2, e3, e4, e5, e6⟩ := R.own i a ds hi
  refine ⟨_, e1, Or.inl ⟨rfl, _, Or.inl (Or.inl e2)⟩, ?_⟩
  refine h G H s S R _ fun G1 H1 v d h1 T1 i1 => ?_
  exact ⟨a, xs, v, rfl, rfl, T1.kp a _ e5 e2, by rw [IsL.len e6]; exact Nat.lt_of_le_of_lt h1.1 (by decide), p.nx _ _ G1 _ h1.2 T1.ex ((S.trans T1).put e4 ((R.step T1).own i a ds hi).choose_spec.2.2.1 e5) ((R.step T1).putO hi (IsL.app (IsL.mono T1.ex _ e6) (IsL.one i1)))⟩
theorem ixN_lt {n : Nat} {i : Int} {j : Nat} (h : ixN n i = some j) : j < n := (ixN_seq h).2.1
theorem IsL.set {K : PySem.W.Frag} {G : Hp} {d : D} {v : V} (hv : Is K G d v) : ∀ {ds : List D} {xs : List V} (j : Nat), IsL K G ds xs → IsL K G (ds.set j d) (xs.set j v)
  | [], _, j, h => by cases (show _ = [] from h); exact rfl
  | e :: ds, _, 0, ⟨x, r, p, a, b⟩ => ⟨v, r, by rw [p]; rfl, hv, b⟩
  | e :: ds, _, j + 1, ⟨x, r, p, a, b⟩ => ⟨x, r.set j v, by rw [p]; rfl, a, IsL.set hv j b⟩
/-- an index that may be read, stored at -/
def IxD (x : D) (ds : List D) (P : D → Prop) : Prop := ∃ k d, x = .int k ∧ atI ds k = some d ∧ P d
def StD (x : D) (n : Nat) (P : Nat → Prop) : Prop := ∃ k j, x = .int k ∧ ixN n k = some j ∧ P j
theorem ix_of {ds : List D} {P : D → Prop} {k : Int} {d : D} (h : atI ds k = some d) (p : P d) : IxD (.int k) ds P := ⟨k, d, rfl, h, p⟩
theorem st_of {n : Nat} {P : Nat → Prop} {k : Int} {j : Nat} (h : ixN n k = some j) (p : P j) : StD (.int k) n P := ⟨k, j, rfl, h, p⟩
theorem ws_setO {i : Nat} {a : Addr} {ds : List D} {ti : TE} (hi : q[i]? = some (.own a ds)) (h : wpE c te q fun d => wpE c ti q fun x => StD x ds.length fun j => F.nx (q.set i (.own a (ds.set j d)))) : wpS c (tAsg te (gSub (tVar i) ti rSetL)) q F := fun D' s G H S R p => by
  refine h G H s S R _ fun G1 H1 v d h1 T1 i1 => ?_
  have R1 := R.step T1
  obtain ⟨xs, e1, e2, e3, e4, e5, e6⟩ := R1.own i a ds hi
  refine ⟨_, e1, h1 G1 H1 s (S.trans T1) R1 _ fun G2 H2 v2 d2 h2 T2 i2 => ?_⟩
  obtain ⟨k, j, rfl, ej, hn⟩ := h2
  have R2 := R1.step T2
  obtain ⟨xs', f1, f2, f3, f4, f5, f6⟩ := R2.own i a ds hi
  refine ⟨a, xs', k, j, rfl, i2, f2, by rw [IsL.len f6]; exact ej, ?_⟩
  exact p.nx _ _ G2 _ hn (T1.ex.trans T2.ex) (((S.trans T1).trans T2).put f4 f3 f5) (R2.putO hi (IsL.set (Is.mono T2.ex d i1) j f6))
/-- len, an item of an own list -/
theorem wp_lenO {i : Nat} {a : Addr} {ds : List D} (hi : q[i]? = some (.own a ds)) (k : P (.int ds.length)) : wpE c (tCB (fun zs H Q => ∃ p ys, zs = [.ref p] ∧ (SqL c.K H p ys ∨ SqT c.K H p ys) ∧ Q (.int ys.length) H) (tCons (tVar i) tNil)) q P := fun G H s S R Q hq => by
  obtain ⟨xs, e1, e2, e3, e4, e5, e6⟩ := R.own i a ds hi
  refine ⟨_, e1, a, xs, rfl, .inl (.inl (.inl e2)), ?_⟩
  rw [IsL.len e6]; exact hq G H _ _ k (Stp.refl S.ok) rfl
theorem wp_ixO {i : Nat} {a : Addr} {ds : List D} (hi : q[i]? = some (.own a ds)) (h : wpE c te q fun x => IxD x ds P) : wpE c (tOp (rIx c.K) (tVar i) te) q P := fun G H s S R Q hq => by
  obtain ⟨xs, e1, e2, e3, e4, e5, e6⟩ := R.own i a ds hi
  refine ⟨_, e1, h G H s S R _ fun G1 H1 v d h1 T1 i1 => ?_⟩
  obtain ⟨k, d2, rfl, hk, hp⟩ := h1
  obtain ⟨xs', f1, f2, f3, f4, f5, f6⟩ := (R.step T1).own i a ds hi
  obtain ⟨x, e7, h3⟩ := atI_is f6 hk
  exact .inl ⟨a, xs', k, x, rfl, i1, .inl (.inl f2), e7, hq G1 H1 _ d2 hp T1 h3⟩
theorem wp_tupO {i : Nat} {a : Addr} {ds : List D} (hi : q[i]? = some (.own a ds)) (k : P (.tup ds)) : wpE c (tCB (fun zs H Q => ∃ p ys, zs = [.ref p] ∧ ((SqL c.K H p ys ∧ ∀ l, H l = none → Q (.ref l) (upd H l (.tup ys))) ∨ (SqT c.K H p ys ∧ Q (.ref p) H))) (tCons (tVar i) tNil)) q P := fun G H s S R Q hq => by
  obtain ⟨xs, e1, e2, e3, e4, e5, e6⟩ := R.own i a ds hi
  exact ⟨_, e1, a, xs, rfl, .inl ⟨.inl (.inl e2), fun n hn => hq _ _ _ _ k ((Stp.refl S.ok).lay hn) ⟨n, xs, rfl, .inl upd_same, IsL.mono (Ex.new (none_of_sub S.ok.sub hn)) _ e6⟩⟩⟩

/-! ### comprehensions -/
def wipeS (q : List Sl) : List Nat → List Sl
  | [] => q
  | v :: vs => (wipeS q vs).set v .unk
theorem Rel.wipe {K : PySem.W.Frag} {W : Wd} {H0 G H : Hp} {s : L2.St} (R : Rel K W H0 G H s q) : ∀ vs, Rel K W H0 G H (L2.wipe s vs) (wipeS q vs)
  | [] => R
  | v :: vs => (Rel.wipe R vs).setN
def wpW (c : Cn) (g : TG) (vs : List Nat) (d : D) (q : List Sl) (N : List Sl → Prop) : Prop :=
  ∀ G H s v, Ok c.W G H → c.R G H s q → Is c.K G d v → ∀ Q : L2.St → Hp → Prop, (∀ s' q', N q' → L2.wipe s' vs = L2.wipe s vs → c.R G H s' q' → Q s' H) → g v s H Q
def wpWs (c : Cn) (g : TGs) (vs : List Nat) (ds : List D) (q : List Sl) (N : List Sl → Prop) : Prop :=
  ∀ G H s xs, Ok c.W G H → c.R G H s q → IsL c.K G ds xs → ∀ Q : L2.St → Hp → Prop, (∀ s' q', N q' → L2.wipe s' vs = L2.wipe s vs → c.R G H s' q' → Q s' H) → g xs s H Q
theorem set_wipe {s : L2.St} {j : Nat} {x : Option V} : ∀ {vs : List Nat}, j ∈ vs → L2.wipe (s.set j x) vs = L2.wipe s vs
  | v :: vs, h => by
    have c0 : ∀ (ws : List Nat), L2.wipe (s.set j x) ws = (if j ∈ ws then L2.wipe s ws else (L2.wipe s ws).set j x) := by
      intro ws
      induction ws with
      | nil => simp [L2.wipe]
      | cons w ws ih =>
        show (L2.wipe (s.set j x) ws).set w none = _
        rw [ih]
        by_cases e : j = w
        · subst e
          by_cases m : j ∈ ws <;> simp [m, L2.wipe, List.set_set]
        · by_cases m : j ∈ ws
          · simp [m, L2.wipe]
          · have : ¬ (j ∈ w :: ws) := by simp [e, m]
            rw [if_neg m, if_neg this]
            show _ = ((L2.wipe s ws).set w none).set j x
            rw [List.set_comm _ _ e]
    rw [c0, if_pos h]
theorem wipe_wipe {s : L2.St} : ∀ {vs ws : List Nat}, (∀ v ∈ vs, v ∈ ws) → L2.wipe (L2.wipe s vs) ws = L2.wipe s ws
  | [], ws, _ => rfl
  | v :: vs, ws, h => by
    show L2.wipe ((L2.wipe s vs).set v none) ws = _
    rw [set_wipe (h v (by simp)), wipe_wipe fun u hu => h u (by simp [hu])]
theorem ww_name {vs : List Nat} {j : Nat} {d : D} {N : List Sl → Prop} (hj : j ∈ vs) (hl : j < q.length) (h : N (q.set j (.dat d))) : wpW c (gName j) vs d q N := fun G H s v S R hv Q hq =>
  hq _ _ h (set_wipe hj) (R.setD hv hl)
theorem ww_nil {vs : List Nat} {N : List Sl → Prop} (h : N q) : wpWs c gNil vs [] q N := fun G H s xs S R hv Q hq => ⟨hv, hq _ _ h rfl R⟩
theorem ww_cons {vs : List Nat} {gs : TGs} {d : D} {ds : List D} {N : List Sl → Prop} (h : wpW c g vs d q fun q' => wpWs c gs vs ds q' N) : wpWs c (gCons g gs) vs (d :: ds) q N := fun G H s xs S R hv Q hq => by
  obtain ⟨x, r, rfl, h1, h2⟩ := hv
  exact ⟨x, r, rfl, h G H s x S R h1 _ fun s' q' a e R' => a G H s' r S R' h2 Q fun s2 q2 b e2 R2 => hq s2 q2 b (e2.trans e) R2⟩
theorem ww_tup {vs : List Nat} {gs : TGs} {n : Nat} {ds : List D} {N : List Sl → Prop} (hn : ds.length = n) (h : wpWs c gs vs ds q N) : wpW c (gTup c.K n gs) vs (.tup ds) q N := fun G H s v S R hv Q hq => by
  obtain ⟨a, xs, rfl, h1, h2⟩ := hv
  exact ⟨a, xs, rfl, h1.sq S.sub, by rw [IsL.len h2, hn], h G H s xs S R h2 Q hq⟩
/-- a turn's state: the list that is made stands at A -/
def LcAt (c : Cn) (G1 H1 : Hp) (A : Addr) (i : Nat) (I : List D → Prop) (H : Hp) : Prop := ∃ G acc xs, I acc ∧ acc.length ≤ i ∧ Stp c.W G1 H1 G H ∧ H A = some (.lst xs) ∧ G A = none ∧ IsL c.K G acc xs
/-- what a turn asks -/
def lcTurn (c : Cn) (g : TG) (tt : TT) (te : TE) (vs : List Nat) (q : List Sl) (x : D) (acc : List D) (J : List D → Prop) : Prop :=
  wpW c g vs x (wipeS q vs) fun q2 => wpT c tt q2 fun b => (b = true → wpE c te q2 fun y => J (acc ++ [y])) ∧ (b = false → J acc)
theorem lc_turn {tt : TT} {vs : List Nat} {G1 H1 H : Hp} {A : Addr} {i : Nat} {I J : List D → Prop} {s : L2.St} (hA : H1 A = none) (S : c.S G1 H1) (R : c.R G1 H1 s q) (hi : i ≤ 10000) (w : LcAt c G1 H1 A i I H)
    {x : D} {v : V} (iv : Is c.K G1 x v) (h : ∀ acc, I acc → lcTurn c g tt te vs q x acc J) :
    g v (L2.wipe s vs) H fun s2 H2 => L2.wipe s2 vs = L2.wipe s vs ∧ tt s2 H2 fun b H3 => if b = true then te s2 H3 fun y H4 => ∃ acc, H4 A = some (.lst acc) ∧ acc.length < sizeLine ∧ LcAt c G1 H1 A (i + 1) J (upd H4 A (.lst (acc ++ [y]))) else LcAt c G1 H1 A (i + 1) J H3 := by
  obtain ⟨G, acc, xs, ha, hl, T, a1, a2, a3⟩ := w
  have mA : ¬ c.W.M A := S.ok.notM hA
  have hold : ∀ {G' H' : Hp}, Stp c.W G H G' H' → H' A = some (.lst xs) ∧ G' A = none ∧ IsL c.K G' acc xs := fun {G' H'} T' => by
    refine ⟨T'.kp A _ mA a1, ?_, IsL.mono T'.ex _ a3⟩
    cases z : G' A with
    | none => rfl
    | some o =>
      rcases T'.fresh A o z with y | y
      · rw [a2] at y; cases y
      · rw [a1] at y; cases y
  refine h acc ha G H _ v T.ok ((R.step T).wipe vs) (Is.mono T.ex x iv) _ fun s2 q2 h2 e2 R2 => ⟨by rw [e2, wipe_wipe fun _ z => z], ?_⟩
  refine h2 G H s2 (S.trans T) R2 _ fun G3 H3 b h3 T3 => ?_
  obtain ⟨b1, b2, b3⟩ := hold T3
  cases b with
  | false =>
    have z : LcAt c G1 H1 A (i + 1) J H3 := ⟨G3, acc, xs, h3.2 rfl, Nat.le_succ_of_le hl, T.trans T3, b1, b2, b3⟩
    first
      | exact z
      | (rw [if_neg (by decide)]; exact z)
  | true =>
    have z : te s2 H3 fun y H4 => ∃ acc, H4 A = some (.lst acc) ∧ acc.length < sizeLine ∧ LcAt c G1 H1 A (i + 1) J (upd H4 A (.lst (acc ++ [y]))) := by
      refine h3.1 rfl G3 H3 s2 ((S.trans T).trans T3) (R2.step T3) _ fun G4 H4 y d h4 T4 i4 => ?_
      obtain ⟨c1, c2, c3⟩ := hold (T3.trans T4)
      refine ⟨xs, c1, by rw [IsL.len a3]; exact Nat.lt_of_le_of_lt (Nat.le_trans hl hi) (by decide), G4, acc ++ [d], xs ++ [y], h4, by simpa using hl, ((T.trans T3).trans T4).put hA c2 mA, upd_same, c2, IsL.app c3 (IsL.one i4)⟩
    first
      | exact z
      | (rw [if_pos rfl]; exact z)
theorem lc_end {G1 H1 H : Hp} {A : Addr} {i : Nat} {I : List D → Prop} (hA : H1 A = none) (ok : Ok c.W G1 H1) (w : LcAt c G1 H1 A i I H) {Q : VK} (hq : ∀ G' v acc, I acc → Stp c.W G1 H1 G' H → Is c.K G' (.lst acc) v → Q v H) : Q (.ref A) H := by
  obtain ⟨G, acc, xs, ha, hl, T, a1, a2, a3⟩ := w
  exact hq _ _ acc ha (T.keep hA a2 a1 (ok.notM hA)) ⟨A, xs, rfl, upd_same, IsL.mono (Ex.new a2) _ a3⟩
theorem wp_lcL {tt : TT} {vs : List Nat} (h : wpE c ta q fun d => ∃ ds, d = .lst ds ∧ ds.length ≤ 10000 ∧ ∃ I : Nat → List D → Prop, I 0 [] ∧
      (∀ i x acc, ds[i]? = some x → I i acc → lcTurn c g tt te vs q x acc (I (i + 1))) ∧ ∀ acc, I ds.length acc → P (.lst acc)) : wpE c (tLc (iList c.K ta) g tt te vs) q P := fun G H s S R Q hq =>
  h G H s S R _ fun G1 H1 v d h1 T1 i1 => by
    obtain ⟨ds, rfl, hz, I, h0, hs, hd⟩ := h1
    obtain ⟨a, xs, rfl, l1, l2⟩ := i1
    refine ⟨a, rfl, ⟨xs, l1.sq T1.ok.sub⟩, fun A hA => lc_list (xs := xs) (fun i => LcAt c G1 H1 A i (I i)) ?_ (fun i H' _ w => ?_) (fun i x H' e w => ?_) fun H' w => ?_⟩
    · exact ⟨G1, [], [], h0, Nat.le_refl 0, (Stp.refl T1.ok).put hA (none_of_sub T1.ok.sub hA) (T1.ok.notM hA), upd_same, none_of_sub T1.ok.sub hA, rfl⟩
    · obtain ⟨G2, acc, ys, _, _, T2, _⟩ := w
      exact (l1.mono T2.ex).sq T2.ok.sub
    · obtain ⟨d, ed, id⟩ := IsL.back l2 e
      have : i < ds.length := (List.getElem?_eq_some_iff.mp ed).1
      exact lc_turn hA (S.trans T1) (R.step T1) (by omega) w id fun acc ha => hs i d acc ed ha
    · rw [IsL.len l2] at w
      exact lc_end hA T1.ok w fun G' v acc ha T' iv => hq G' H' v _ (hd acc ha) (T1.trans T') iv
theorem wp_lcT {tt : TT} {vs : List Nat} (h : wpE c ta q fun d => ∃ ds, d = .tup ds ∧ ds.length ≤ 10000 ∧ ∃ I : Nat → List D → Prop, I 0 [] ∧
      (∀ i x acc, ds[i]? = some x → I i acc → lcTurn c g tt te vs q x acc (I (i + 1))) ∧ ∀ acc, I ds.length acc → P (.lst acc)) : wpE c (tLc (iTup c.K ta) g tt te vs) q P := fun G H s S R Q hq =>
  h G H s S R _ fun G1 H1 v d h1 T1 i1 => by
    obtain ⟨ds, rfl, hz, I, h0, hs, hd⟩ := h1
    obtain ⟨a, xs, rfl, l1, l2⟩ := i1
    refine ⟨a, rfl, ⟨xs, l1.sq T1.ok.sub⟩, fun A hA => lc_tup (xs := xs) (fun i => LcAt c G1 H1 A i (I i)) ?_ (fun i H' _ w => ?_) (fun i x H' e w => ?_) fun H' w => ?_⟩
    · exact ⟨G1, [], [], h0, Nat.le_refl 0, (Stp.refl T1.ok).put hA (none_of_sub T1.ok.sub hA) (T1.ok.notM hA), upd_same, none_of_sub T1.ok.sub hA, rfl⟩
    · obtain ⟨G2, acc, ys, _, _, T2, _⟩ := w
      exact (l1.mono T2.ex).sq T2.ok.sub
    · obtain ⟨d, ed, id⟩ := IsL.back l2 e
      have : i < ds.length := (List.getElem?_eq_some_iff.mp ed).1
      exact lc_turn hA (S.trans T1) (R.step T1) (by omega) w id fun acc ha => hs i d acc ed ha
    · rw [IsL.len l2] at w
      exact lc_end hA T1.ok w fun G' v acc ha T' iv => hq G' H' v _ (hd acc ha) (T1.trans T') iv
theorem wp_lcR1 {tt : TT} {vs : List Nat} {ta : TA} (h : wpA c ta q fun ds => ∃ n : Int, ds = [.int n] ∧ -10000 ≤ n ∧ n ≤ 10000 ∧ ∃ I : Nat → List D → Prop, I 0 [] ∧
      (∀ (i : Nat) acc, (i : Int) < n → I i acc → lcTurn c g tt te vs q (.int i) acc (I (i + 1))) ∧ ∀ acc, I n.toNat acc → P (.lst acc)) : wpE c (tLc (iRng1 ta) g tt te vs) q P := fun G H s S R Q hq =>
  h G H s S R _ fun G1 H1 vs' ds h1 T1 i1 => by
    obtain ⟨n, rfl, n1, n2, I, h0, hs, hd⟩ := h1
    obtain ⟨v, rfl, iv⟩ := IsL.one_of i1
    cases (show v = V.int n from iv)
    refine ⟨n, rfl, by omega, by omega, fun A hA => lc_range (lo := 0) (n := n.toNat) (fun i => LcAt c G1 H1 A i (I i)) ?_ (fun i H' hi w => ?_) fun H' w => ?_⟩
    · exact ⟨G1, [], [], h0, Nat.le_refl 0, (Stp.refl T1.ok).put hA (none_of_sub T1.ok.sub hA) (T1.ok.notM hA), upd_same, none_of_sub T1.ok.sub hA, rfl⟩
    · have e0 : (0 : Int) + (i : Int) = (i : Int) := Int.zero_add _
      rw [e0]
      exact lc_turn (x := .int i) hA (S.trans T1) (R.step T1) (by omega) w rfl fun acc ha => hs i acc (by omega) ha
    · exact lc_end hA T1.ok w fun G' v acc ha T' iv => hq G' H' v _ (hd acc ha) (T1.trans T') iv
theorem wp_lcR2 {tt : TT} {vs : List Nat} {ta : TA} (h : wpA c ta q fun ds => ∃ lo n : Int, ds = [.int lo, .int n] ∧ -10000 ≤ n ∧ n ≤ 10000 ∧ 0 ≤ lo ∧ lo ≤ 10000 ∧ ∃ I : Nat → List D → Prop, I 0 [] ∧
      (∀ (i : Nat) acc, lo + (i : Int) < n → I i acc → lcTurn c g tt te vs q (.int (lo + i)) acc (I (i + 1))) ∧ ∀ acc, I (n - lo).toNat acc → P (.lst acc)) : wpE c (tLc (iRng2 ta) g tt te vs) q P := fun G H s S R Q hq =>
  h G H s S R _ fun G1 H1 vs' ds h1 T1 i1 => by
    obtain ⟨lo, n, rfl, n1, n2, n3, n4, I, h0, hs, hd⟩ := h1
    obtain ⟨v, w, rfl, iv, iw⟩ := IsL.two_of i1
    cases (show v = V.int lo from iv)
    cases (show w = V.int n from iw)
    refine ⟨lo, n, rfl, ⟨by omega, by omega, by omega, by omega⟩, fun A hA => lc_range (lo := lo) (n := (n - lo).toNat) (fun i => LcAt c G1 H1 A i (I i)) ?_ (fun i H' hi w => ?_) fun H' w => ?_⟩
    · exact ⟨G1, [], [], h0, Nat.le_refl 0, (Stp.refl T1.ok).put hA (none_of_sub T1.ok.sub hA) (T1.ok.notM hA), upd_same, none_of_sub T1.ok.sub hA, rfl⟩
    · exact lc_turn (x := .int (lo + i)) hA (S.trans T1) (R.step T1) (by omega) w rfl fun acc ha => hs i acc (by omega) ha
    · exact lc_end hA T1.ok w fun G' v acc ha T' iv => hq G' H' v _ (hd acc ha) (T1.trans T') iv
theorem wt_yes {B : Bool → Prop} (h : B true) : wpT c tYes q B := fun G H s S R Q hq => hq G H true h (Stp.refl S.ok)
end
end Dz

set_option Elab.async false
set_option linter.all false
set_option maxRecDepth 100000
namespace Dz
open L2 PySem PyProof.Rows PySem.Spec

/-! ### promises upon data -/
/-- what a def wants of the world and its arguments, what it gives, what it lets out: class, names of fields, fields -/
structure Pm where
  pre : Wd → List D → Prop
  post : List D → D → Prop
  exn : List D → Addr → List Str → List D → Prop := fun _ _ _ _ => False
def spD (K : PySem.W.Frag) (p : Pm) : Sp := fun vs H Q E => ∃ W G ds, Ok W G H ∧ IsL K G ds vs ∧ p.pre W ds ∧
  (∀ G' H' v d, p.post ds d → Stp W G H G' H' → Is K G' d v → Q v H') ∧
  (∀ G' H' C dx ns es xs, p.exn ds C ns es → Stp W G H G' H' → G' dx = some (.xd (ns.zip xs)) → ns.length = es.length → IsL K G' es xs → E (.ref C) (some dx) H')
/-- what is let out is taken -/
def XA (c : Cn) (E : XK) (Z : Addr → List Str → List D → Prop) : Prop :=
  ∀ G' H' C dx ns es xs, Z C ns es → c.S G' H' → G' dx = some (.xd (ns.zip xs)) → ns.length = es.length → IsL c.K G' es xs → E (.ref C) (some dx) H'
def WA (c : Cn) (Wx : WX) (Z : List Sl → Addr → List Str → List D → Prop) : Prop :=
  ∀ q' G' H' s' C dx ns es xs, Z q' C ns es → c.S G' H' → c.R G' H' s' q' → G' dx = some (.xd (ns.zip xs)) → ns.length = es.length → IsL c.K G' es xs → Wx (.ref C) (some dx) s' H'
section
variable {c : Cn} {q : List Sl} {P : D → Prop} {ta tb te : TE} {t u : TT} {F : Fn} {ts tu tw : TS} {g : TG}
/-- a call of a def that lets nothing out -/
theorem wp_call {p : Pm} {dvs : List V} {dd : List D} {E : XK} {ta : TA} (hd : ∀ G, IsL c.K G dd dvs) (h : wpA c ta q fun ds => p.pre c.W (ds ++ dd) ∧ (∀ d, p.post (ds ++ dd) d → P d) ∧ ∀ C ns es, ¬ p.exn (ds ++ dd) C ns es) :
    wpE c (tCall (spD c.K p) dvs E ta) q P := fun G H s S R Q hq =>
  h G H s S R _ fun G1 H1 vs ds h1 T1 i1 =>
    ⟨c.W, G1, ds ++ dd, T1.ok, IsL.app i1 (hd G1), h1.1, fun G2 H2 v d a T2 i2 => hq G2 H2 v d (h1.2.1 d a) (T1.trans T2) i2, fun G2 H2 C dx ns es xs a => (h1.2.2 C ns es a).elim⟩
/-- .. that may let something out of the caller, too -/
theorem wp_callX {p : Pm} {dvs : List V} {dd : List D} {E : XK} {Z : Addr → List Str → List D → Prop} {ta : TA} (hE : XA c E Z) (hd : ∀ G, IsL c.K G dd dvs)
    (h : wpA c ta q fun ds => p.pre c.W (ds ++ dd) ∧ (∀ d, p.post (ds ++ dd) d → P d) ∧ ∀ C ns es, p.exn (ds ++ dd) C ns es → Z C ns es) :
    wpE c (tCall (spD c.K p) dvs E ta) q P := fun G H s S R Q hq =>
  h G H s S R _ fun G1 H1 vs ds h1 T1 i1 =>
    ⟨c.W, G1, ds ++ dd, T1.ok, IsL.app i1 (hd G1), h1.1, fun G2 H2 v d a T2 i2 => hq G2 H2 v d (h1.2.1 d a) (T1.trans T2) i2,
      fun G2 H2 C dx ns es xs a T2 e1 e2 e3 => hE G2 H2 C dx ns es xs (h1.2.2 C ns es a) ((S.trans T1).trans T2) e1 e2 e3⟩
/-- .. within a try -/
theorem wp_callS {p : Pm} {dvs : List V} {dd : List D} {Wx : WX} {Z : List Sl → Addr → List Str → List D → Prop} {ta : TA} (hW : WA c Wx Z) (hd : ∀ G, IsL c.K G dd dvs)
    (h : wpA c ta q fun ds => p.pre c.W (ds ++ dd) ∧ (∀ d, p.post (ds ++ dd) d → P d) ∧ ∀ C ns es, p.exn (ds ++ dd) C ns es → Z q C ns es) :
    wpE c (tCallSD (spD c.K p) dvs (WE Wx) ta) q P := fun G H s S R Q hq =>
  h G H s S R _ fun G1 H1 vs ds h1 T1 i1 =>
    ⟨c.W, G1, ds ++ dd, T1.ok, IsL.app i1 (hd G1), h1.1, fun G2 H2 v d a T2 i2 => hq G2 H2 v d (h1.2.1 d a) (T1.trans T2) i2,
      fun G2 H2 C dx ns es xs a T2 e1 e2 e3 => hW q G2 H2 s C dx ns es xs (h1.2.2 C ns es a) ((S.trans T1).trans T2) ((R.step T1).step T2) e1 e2 e3⟩
/-- with keywords: n positional, m by keyword, gD puts them in order -/
theorem wp_callN {p : Pm} {n m : Nat} {gV : List V → List V → List V} {gD : List D → List D → List D} {E : XK} {Z : Addr → List Str → List D → Prop} {ta tk : TA} (hE : XA c E Z)
    (hg : ∀ G ds es xs ys, ds.length = n → es.length = m → IsL c.K G ds xs → IsL c.K G es ys → IsL c.K G (gD ds es) (gV xs ys))
    (h : wpA c ta q fun ds => wpA c tk q fun es => ds.length = n ∧ es.length = m ∧ p.pre c.W (gD ds es) ∧ (∀ d, p.post (gD ds es) d → P d) ∧ ∀ C ns zs, p.exn (gD ds es) C ns zs → Z C ns zs) :
    wpE c (tCallN n m (spD c.K p) gV E ta tk) q P := fun G H s S R Q hq =>
  h G H s S R _ fun G1 H1 vs ds h1 T1 i1 => h1 G1 H1 s (S.trans T1) (R.step T1) _ fun G2 H2 ws es h2 T2 i2 =>
    ⟨by rw [IsL.len i1]; exact h2.1, by rw [IsL.len i2]; exact h2.2.1, c.W, G2, gD ds es, T2.ok, hg G2 ds es vs ws h2.1 h2.2.1 (IsL.mono T2.ex _ i1) i2, h2.2.2.1,
      fun G3 H3 v d a T3 i3 => hq G3 H3 v d (h2.2.2.2.1 d a) ((T1.trans T2).trans T3) i3,
      fun G3 H3 C dx ns zs xs a T3 e1 e2 e3 => hE G3 H3 C dx ns zs xs (h2.2.2.2.2 C ns zs a) (((S.trans T1).trans T2).trans T3) e1 e2 e3⟩
/-! ### a def's start -/
theorem rel_start {K : PySem.W.Frag} {W : Wd} {H0 G H : Hp} {ds : List D} {vs : List V} (N : List Str) (h : IsL K G ds vs) : Rel K W H0 G H (L2.start N vs) (ds.map Sl.dat ++ List.replicate (N.length - ds.length) Sl.unk) where
  len := by simp [L2.start, IsL.len h]
  dat := fun i d e => by
    by_cases hi : i < ds.length
    · rw [List.getElem?_append_left (by simpa using hi), List.getElem?_map] at e
      cases z : ds[i]? with
      | none => rw [z] at e; cases e
      | some d' =>
        rw [z] at e; cases e
        obtain ⟨x, a, b⟩ := IsL.get h z
        refine ⟨x, ?_, b⟩
        unfold L2.start
        rw [List.getElem?_append_left (by simpa [IsL.len h] using hi), List.getElem?_map, a]; rfl
    · rw [List.getElem?_append_right (by simpa using Nat.le_of_not_lt hi)] at e
      have := List.mem_of_getElem? e
      rw [List.mem_replicate] at this
      cases this.2
  own := fun i p d e => by
    have := List.mem_of_getElem? e
    simp at this
  sep := fun i j a b p _ e => by
    have := List.mem_of_getElem? e
    simp at this
/-- what a def's body is to do -/
abbrev Pm.fn (p : Pm) (ds : List D) : Fn := ⟨fun _ => p.post ds .non, fun _ => p.post ds, fun _ => False, fun _ => False⟩
abbrev slots (ds : List D) (N : List Str) : List Sl := ds.map Sl.dat ++ List.replicate (N.length - ds.length) Sl.unk
theorem run_D {K : PySem.W.Frag} {p : Pm} {N : List Str} {vs : List V} {H : Hp} {Q : VK} {W : Wd} {G : Hp} {ds : List D} {ts : TS} (o : Ok W G H) (i : IsL K G ds vs)
    (hq : ∀ G' H' v d, p.post ds d → Stp W G H G' H' → Is K G' d v → Q v H') (h : wpS ⟨K, W, G, H⟩ ts (slots ds N) (p.fn ds)) :
    ts { nx := fun _ H' => Q .non H', rt := Q } (L2.start N vs) H :=
  h _ _ G H (Stp.refl o) (rel_start N i) ⟨fun s' H' G' q' a _ S' _ => hq G' H' .non .non a S' rfl, fun v H' G' d _ _ a _ S' i' _ => hq G' H' v d a S' i', fun _ _ _ _ a => a.elim, fun _ _ _ _ a => a.elim⟩
section
variable {Pg : Program} {w : World} {K : PySem.W.Frag} {mg : Str → Option Value} {base : Heap}
theorem spD_len {p : Pm} {ps : List Str} (hl : ∀ W ds, p.pre W ds → ds.length = ps.length) : ∀ vs H Q E, spD K p vs H Q E → vs.length = ps.length := fun vs H Q E ⟨W, G, ds, _, i, h, _⟩ => by rw [IsL.len i]; exact hl W ds h
/-- THE RULE: a def keeps its promise if its body does what it is to do upon the slots -/
theorem fn_D {x qual : Str} {st : Stmt} {f : Addr} {fd : FuncData} {N ps : List Str} {k : Nat} {p : Pm} (F : Fun K x qual st f fd) (S : FnScope N ps (defScope st)) (hl : ∀ W ds, p.pre W ds → ds.length = ps.length)
    (h : ∀ (cdv : Value) (A : Around) (outer : List Env) (s : Shared) (E : XK) (W : Wd) (G H : Hp) (ds : List D), Room k (A.deeper (envOfC qual (defScope st) s.heap.objs.size f cdv)) → Ok W G H → p.pre W ds → XA ⟨K, W, G, H⟩ E (p.exn ds) →
      ∃ t, PSs (cxOf (L2.CX Pg w) Pg w K mg base N qual (defScope st) f cdv A outer s H E) (defBody st) t ∧ wpS ⟨K, W, G, H⟩ t (slots ds N) (p.fn ds)) : FnOk Pg w K mg base (L2.CX Pg w) (k + 1) f fd ps (spD K p) := by
  refine F.okX S (spD_len hl) fun cdv A outer s H vs Q E hr h1 => ?_
  obtain ⟨W, G, ds, o, i, hp, hq, hx⟩ := h1
  obtain ⟨t, a, b⟩ := h cdv A outer s E W G H ds hr o hp fun G' H' C dx ns es xs z S' e1 e2 e3 => hx G' H' C dx ns es xs z S' e1 e2 e3
  exact ⟨t, a, run_D o i hq b⟩
theorem fn_DD {x qual : Str} {params : Arguments} {body : List Stmt} {scope : Scope} {dvs : List V} {kws : List (Str × V)} {f : Addr} {fd : FuncData} {N ps : List Str} {k : Nat} {p : Pm} (F : FunD K x qual params body scope dvs kws f fd) (S : FnScope N ps scope)
    (hl : ∀ W ds, p.pre W ds → ds.length = ps.length)
    (h : ∀ (cdv : Value) (A : Around) (outer : List Env) (s : Shared) (E : XK) (W : Wd) (G H : Hp) (ds : List D), Room k (A.deeper (envOfC qual scope s.heap.objs.size f cdv)) → Ok W G H → p.pre W ds → XA ⟨K, W, G, H⟩ E (p.exn ds) →
      ∃ t, PSs (cxOf (L2.CX Pg w) Pg w K mg base N qual scope f cdv A outer s H E) body t ∧ wpS ⟨K, W, G, H⟩ t (slots ds N) (p.fn ds)) : FnOk Pg w K mg base (L2.CX Pg w) (k + 1) f fd ps (spD K p) := by
  refine F.ok S (spD_len hl) fun cdv A outer s H vs Q E hr h1 => ?_
  obtain ⟨W, G, ds, o, i, hp, hq, hx⟩ := h1
  obtain ⟨t, a, b⟩ := h cdv A outer s E W G H ds hr o hp fun G' H' C dx ns es xs z S' e1 e2 e3 => hx G' H' C dx ns es xs z S' e1 e2 e3
  exact ⟨t, a, run_D o i hq b⟩
end
/-! ### own exceptions with one field, with two -/
/-- __init__ of an exception class at C: its fields, the last one first -/
def spEx (C : Addr) (mk : List V → List (Str × V)) (n : Nat) : Sp := fun vs H Q _ => ∃ (a : Addr) (ws : List V), vs = .ref a :: ws ∧ ws.length = n ∧ H a = some (exo a C none) ∧
  ∀ (d : Addr) (H' : Hp), H d = none → d ≠ a → H' a = some (exo a C (some d)) → H' d = some (exd d (mk ws)) → (∀ b, b ≠ a → b ≠ d → H' b = H b) → Q .non H'
theorem ws_raise {C : Addr} {ns : List Str} {n : Nat} {mk : List V → List (Str × V)} {ev : List V → List V} {ed : List D → List D} {E : XK} {Z : Addr → List Str → List D → Prop} {ta : TA} (hE : XA c E Z) (hn : n ≤ 100)
    (hmk : ∀ ws, mk ws = ns.zip (ev ws)) (hev : ∀ G ds ws, IsL c.K G ds ws → IsL c.K G (ed ds) (ev ws)) (h : wpA c ta q fun ds => ds.length = n ∧ ns.length = (ed ds).length ∧ Z C ns (ed ds)) :
    wpS c (fun _ σ H => tMkO C (spEx C mk n) [] ta σ H fun cls d H' => E cls d H') q F := fun D' s G H S R p =>
  h G H s S R _ fun G1 H1 vs ds h1 T1 i1 => by
    have lv := IsL.len i1
    refine ⟨by rw [lv, h1.1]; omega, fun a ha => ⟨a, vs ++ [], rfl, by rw [List.append_nil, lv, h1.1], upd_same, fun d H' nd da e1 e2 e3 => ⟨rfl, d, mk (vs ++ []), e1, e2, ?_, ?_⟩⟩⟩
    · rw [upd_ne da] at nd; exact nd
    · have nd' : H1 d = none := by rw [upd_ne da] at nd; exact nd
      have eH : upd (del H' a) d (.xd (mk (vs ++ []))) = upd H1 d (.xd (ns.zip (ev vs))) := by
        rw [List.append_nil, hmk]
        funext b
        by_cases h1 : b = d
        · rw [h1, upd_same, upd_same]
        · rw [upd_ne h1, upd_ne h1]
          by_cases h2 : b = a
          · rw [h2, del_same, ha]
          · rw [del_ne h2, e3 b h2 h1, upd_ne h2]
      rw [eH]
      have e4 : Ex G1 (upd G1 d (.xd (ns.zip (ev vs)))) := Ex.new (none_of_sub T1.ok.sub nd')
      exact hE _ _ C d ns (ed ds) (ev vs) h1.2.2 ((S.trans T1).lay nd') upd_same h1.2.1 (hev _ ds vs (IsL.mono e4 ds i1))
end
end Dz

set_option Elab.async false
set_option linter.all false
set_option maxRecDepth 100000
namespace Dz
open L2 PySem PyProof.Rows PySem.Spec

abbrev Clause := Value × Option Nat × (Addr → Value → Option Addr → TS)
def offI (D' : Ends) (i : Nat) : Ends := ⟨fun s h => D'.nx (s.set i none) h, D'.rt, fun s h => D'.bk (s.set i none) h, fun s h => D'.ct (s.set i none) h⟩
/-- what clauses, some with a name, wish of what the body lets out -/
def wTry (K : PySem.W.Frag) (Wout : WX) (D' : Ends) : List Clause → WX
  | [] => Wout
  | (cl, none, ts) :: r => fun cls d s H => ∃ b, PySem.W.exmOne K cls cl = some b ∧ (b = true → ∀ a, H a = none → ts a cls d D' s H) ∧ (b = false → wTry K Wout D' r cls d s H)
  | (cl, some i, ts) :: r => fun cls d s H => ∃ b, PySem.W.exmOne K cls cl = some b ∧ (b = true → ∀ a, H a = none → ts a cls d (offI D' i) (s.set i (some (.ref a))) H) ∧ (b = false → wTry K Wout D' r cls d s H)
abbrev SuiteOk (X : Cx) (body : List Stmt) (ts : Addr → Value → Option Addr → TS) : Prop :=
  ∀ (a : Addr) (oe : Obj) (cls : Value) (d : Option Addr) (pn : List (Addr × Obj)), Zc cls d oe → (∃ vs, oe.data = .fields vs) → PSs (X.suite a ((a, oe) :: pn)) body (ts a cls d)
inductive HdsN (X : Cx) : List ExceptHandler → List Clause → Prop
  | nil : HdsN X [] []
  | plain {x : Str} {cl : Value} {ts : Addr → Value → Option Addr → TS} {b0 : Stmt} {suite : List Stmt} {np p' : Pos} {hds : List ExceptHandler} {l : List Clause} (hc : Names X x cl) (hsu : SuiteOk X (b0 :: suite) ts) (r : HdsN X hds l) :
      HdsN X (.ExceptHandler (some (.Name x np)) none (b0 :: suite) p' :: hds) ((cl, none, ts) :: l)
  | named {x n : Str} {i : Nat} {cl : Value} {ts : Addr → Value → Option Addr → TS} {b0 : Stmt} {suite : List Stmt} {np p' : Pos} {hds : List ExceptHandler} {l : List Clause} (hc : Names X x cl) (hi : X.N[i]? = some n) (hln : X.env.kindOf n = some .local)
      (hsu : SuiteOk X (b0 :: suite) ts) (r : HdsN X hds l) : HdsN X (.ExceptHandler (some (.Name x np)) (some n) (b0 :: suite) p' :: hds) ((cl, some i, ts) :: l)
section
variable {X : Cx} {body : List Stmt} {h0 : ExceptHandler} {hds : List ExceptHandler} {l : List Clause} {pos : Pos} {tb : WX → TS} {Wout : WX}
theorem ps_tryN (hs : X.stack = X.env :: X.outer) (hf : X.env.frame = some X.env.locals) (hN : X.N.Nodup) (tk : Takes X Wout)
    (hb : ∀ (Wx : WX) (pn : List (Addr × Obj)) (xe : Value → Shared → Prop), Takes (X.tr pn xe) Wx → PassesOwn (model X.prog X.w) X.A X.env xe → PSs (X.tr pn xe) body (tb Wx))
    (hh : HdsN X (h0 :: hds) l) : PS X (.Try body (h0 :: hds) [] [] pos) (fun D' s H => tb (wTry X.K Wout D' l) D' s H) := by
  constructor
  intro pins s σ H D' I hw
  have ok := I.ok
  have frE : X.A.frames = some (X.env :: X.outer) := by rw [ok.frames, hs]
  refine wpAny_Try_except (wpAny_mono ((hb (wTry X.K Wout D' l) (X.pn ++ pins)
    (fun e s1 => wpAny (model X.prog X.w) X.A (noteFrame e X.env) (fun _ s2 => wpAny (model X.prog X.w) X.A (setFlight e none) (fun _ s3 => wpAny (model X.prog X.w) X.A (handleBy e X.env (h0 :: hds)) (SP X pins D') X.xe s3) X.xe s2) X.xe s1)
    (fun u s' xx => ?caught) PassesOwn.looking).run [] s σ H D' (I.toTry _) hw) (fun f s1 hsp => ?through) fun e s1 he => he)
  case through =>
    cases f with
    | next => obtain ⟨a, b, J, z⟩ := hsp; exact wpAny_execs_nil ⟨a, b, J.ofTry ok, z⟩
    | brk => obtain ⟨a, b, J, z⟩ := hsp; exact ⟨a, b, J.ofTry ok, z⟩
    | cont => obtain ⟨a, b, J, z⟩ := hsp; exact ⟨a, b, J.ofTry ok, z⟩
    | ret u => obtain ⟨v, a, b, J, r, z⟩ := hsp; exact ⟨v, a, b, J.ofTry ok, r, z⟩
  case caught =>
    obtain ⟨a, B, sI, pins', s2, H2, cls, d, rfl, J', nb, up, sky, na, os, ag, w⟩ := xx
    have J := J'.ofTry ok
    rw [hs] at sky
    show wpAny (model X.prog X.w) X.A (noteFrame (Value.ref a) X.env) _ _ _
    refine Sky.land Zc.steady frE hf sky fun g3 fl3 up3 => ?_
    have J3 : Inv X pins s2 H2 { s' with heap := g3 } := J.landed nb fl3.1 (up.trans up3) os ag
    obtain ⟨o3, v3, at3, z3, d3⟩ := fl3.there
    have nfr : a ∉ frs (X.env :: X.outer) := fun hm => by
      obtain ⟨_, o', e', hnf⟩ := fl3.2.2.1.mem hm
      rw [at3] at e'; cases e'; exact hnf _ d3
    have nL : a ≠ X.env.locals := fun z => nfr (List.mem_filterMap.mpr ⟨X.env, List.mem_cons_self, hf.trans (congrArg some z.symm)⟩)
    have nF : a ∉ X.fs := by
      intro hm
      obtain ⟨e, he, z⟩ := List.mem_filterMap.mp hm
      exact nfr (List.mem_filterMap.mpr ⟨e, .tail _ he, z⟩)
    have S3 := J3.suite at3 d3 na nL nF
    have test : ∀ {x : Str} {cl : Value} {np : Pos} {Q E : Value → Shared → Prop}, Names X x cl → Q cl { s' with heap := g3 } → wpAny (model X.prog X.w) (X.A.mark (some (.ref a))) (eval (.Name x np) X.env) Q E { s' with heap := g3 } := by
      intro x cl np Q E hc z
      obtain ⟨hg, hdb, hm | ⟨hm, hv, hnn⟩⟩ := hc
      · exact ld_glob (X := X.suite a ((a, o3) :: (X.pn ++ pins))) S3 hg hm z hdb
      · exact ld_blt (X := X.suite a ((a, o3) :: (X.pn ++ pins))) S3 hg hm hv z hnn hdb
    have kind : PySem.W.Looks (model X.prog X.w) g3 (typeOf (.ref a)) cls := fun A Q E s k z => wpAny_typeOf_ref (k _ _ at3) (by rw [z3.1]; exact z)
    have go : ∀ {hd2 : List ExceptHandler} {l2 : List Clause}, HdsN X hd2 l2 → wTry X.K Wout D' l2 cls d s2 H2 → wpAny (model X.prog X.w) X.A (handleBy (.ref a) X.env hd2) (SP X pins D') X.xe { s' with heap := g3 } := by
      intro hd2 l2 hk
      induction hk with
      | nil =>
        intro w
        refine wpAny_handleBy_nil ?_
        obtain ⟨_, _, _, oe, vs, T, oT, _, he, _, hd, h1, _⟩ := id fl3
        unfold PySem.passOn
        apply wpAny_bind (wpAny_field he hd h1 ?_)
        rw [if_neg (show ¬ ((Value.ref T == Value.none) = true) by simp)]
        have fin : wpAny (model X.prog X.w) X.A (setFlight (.ref a) X.env.frame) (fun _ s4 => wpAny (model X.prog X.w) X.A (throw (.ref a) : Sem Flow) (SP X pins D') X.xe s4) X.xe { s' with heap := g3 } := by
          rw [hf]
          exact HandSPX.setFlight_upZ fl3 fun g4 hh4 up4 => wpAny_throw (tk _ _ ⟨a, B, sI, pins, s2, H2, cls, d, rfl, J, nb, (up.trans up3).trans up4, .inr (.inr (by rw [hs]; exact hh4)), na, os, ag, w⟩)
        first
          | exact (wpAny_bind (wpAny_pure (wpAny_bind fin)))
          | exact wpAny_bind fin
      | @plain x cl ts b0 suite np p' hds2 l2 hc hsu r ih =>
        intro w
        obtain ⟨b, hb1, yes, no⟩ := w
        refine wpAny_handleBy_cons (codeAny_handlers_test (test hc ((PySem.W.exm_one (M := model X.prog X.w) J3.kIn kind hb1).here ?_))) (by intro z; cases z)
        cases b with
        | false => exact ih (no rfl)
        | true =>
          refine codeAny_handlers_suite (HandSPX.lands_againZ fl3 fun g4 fl4 up4 => ?_)
          have J4 : Inv X pins s2 H2 { s' with heap := g4 } := J.landed nb fl4.1 ((up.trans up3).trans up4) os ag
          obtain ⟨o4, v4, at4, z4, d4⟩ := fl4.there
          refine wpAny_mono ((hsu a o4 cls d (X.pn ++ pins) z4 ⟨_, d4⟩).run [] _ _ H2 _ (J4.suite at4 d4 na nL nF) (yes rfl a na)) (fun f s6 hsp => ?_) fun _ _ z => z.elim
          cases f with
          | next => obtain ⟨m, n, S6, z⟩ := hsp; exact ⟨_, _, S6.unsuite ok, z⟩
          | brk => obtain ⟨m, n, S6, z⟩ := hsp; exact ⟨_, _, S6.unsuite ok, z⟩
          | cont => obtain ⟨m, n, S6, z⟩ := hsp; exact ⟨_, _, S6.unsuite ok, z⟩
          | ret u => obtain ⟨v, m, n, S6, r6, z⟩ := hsp; exact ⟨_, _, _, S6.unsuite ok, r6, z⟩
      | @named x n i cl ts b0 suite np p' hds2 l2 hc hi hln hsu r ih =>
        intro w
        obtain ⟨b, hb1, yes, no⟩ := w
        refine wpAny_handleBy_cons (codeAny_handlers_test (test hc ((PySem.W.exm_one (M := model X.prog X.w) J3.kIn kind hb1).here ?_))) (by intro z; cases z)
        cases b with
        | false => exact ih (no rfl)
        | true =>
          refine codeAny_handlers_suite_as (HandSPX.lands_againZ fl3 fun g4 fl4 up4 => ?_)
          have J4 : Inv X pins s2 H2 { s' with heap := g4 } := J.landed nb fl4.1 ((up.trans up3).trans up4) os ag
          obtain ⟨o4, v4, at4, z4, d4⟩ := fl4.there
          refine store_ok (X := X.suite a ((a, o4) :: (X.pn ++ pins))) (v := .ref a) (J4.suite at4 d4 na nL nF) hN hi (Or.inl hln) rfl (fun s5 S5 => ?_) (.inr hln)
          refine wpAny_mono ((hsu a o4 cls d (X.pn ++ pins) z4 ⟨_, d4⟩).run [] s5 _ H2 _ S5 (yes rfl a na)) (fun f s6 hsp => ?_) fun _ _ z => z.elim
          have off : ∀ {t6 : L2.St} {H6 : Hp} {Q : Shared → Prop}, Inv (X.suite a ((a, o4) :: (X.pn ++ pins))) [] t6 H6 s6 → (∀ s7, Inv X pins (t6.set i none) H6 s7 → Q s7) →
              wpAny (model X.prog X.w) X.A (do bindName X.env n .none; unbindBehindTheSuite X.env n p') (fun _ s7 => Q s7) X.xe s6 := fun S6 k => gone_ok (S6.unsuite ok) hN hi hln k
          cases f with
          | next => obtain ⟨m, k, S6, z⟩ := hsp; exact off S6 fun s7 J7 => ⟨_, _, J7, z⟩
          | brk => obtain ⟨m, k, S6, z⟩ := hsp; exact off S6 fun s7 J7 => ⟨_, _, J7, z⟩
          | cont => obtain ⟨m, k, S6, z⟩ := hsp; exact off S6 fun s7 J7 => ⟨_, _, J7, z⟩
          | ret u => obtain ⟨v, m, k, S6, r6, z⟩ := hsp; exact off S6 fun s7 J7 => ⟨_, _, _, J7, r6, z⟩
    exact go hh w
end

/-! ### the same upon data -/
section
variable {c : Cn} {q : List Sl} {P : D → Prop} {ta tb te : TE} {t u : TT} {F : Fn} {ts tu tw : TS} {g : TG}
def offF (F : Fn) (i : Nat) : Fn := ⟨fun q => F.nx (q.set i .unk), F.rt, fun q => F.bk (q.set i .unk), fun q => F.ct (q.set i .unk)⟩
def hdD (c : Cn) (F : Fn) : List Clause → List Sl → Addr → List Str → List D → Prop
  | [], _, _, _, _ => False
  | (cl, none, ts) :: r, q, C, ns, es => ∃ b, PySem.W.exmOne c.K (.ref C) cl = some b ∧ (b = true → ∀ a dx, wpS c (ts a (.ref C) (some dx)) q F) ∧ (b = false → hdD c F r q C ns es)
  | (cl, some i, ts) :: r, q, C, ns, es => ∃ b, PySem.W.exmOne c.K (.ref C) cl = some b ∧
      (b = true → i < q.length ∧ ∀ a dx, wpS c (ts a (.ref C) (some dx)) (q.set i (.dat (.exc a dx C ns es))) (offF F i)) ∧ (b = false → hdD c F r q C ns es)
theorem Stp.base {W : Wd} {G0 H0 G H G' H' : Hp} (s : Stp W G0 H0 G H) (t : Stp W G0 H0 G' H') (e : Ex G G') : Stp W G H0 G' H' :=
  ⟨t.ok, e, fun a o z => (t.fresh a o z).imp (fun y => s.ex a o y) id, t.kp, t.th⟩
theorem Stp.unbase {W : Wd} {G0 H0 G H G' H' : Hp} (s : Stp W G0 H0 G H) (t : Stp W G H0 G' H') : Stp W G0 H0 G' H' :=
  ⟨t.ok, s.ex.trans t.ex, fun a o z => (t.fresh a o z).elim (fun y => s.fresh a o y) .inr, t.kp, t.th⟩
theorem ws_try {l : List Clause} {tb : WX → TS} {Wout : WX} (h : ∀ (G1 : Hp) (Wx : WX), WA { c with G0 := G1 } Wx (hdD { c with G0 := G1 } F l) → (∀ E Z, XA c E Z → XA { c with G0 := G1 } E Z) → wpS { c with G0 := G1 } (tb Wx) q F) :
    wpS c (fun D' s H => tb (wTry c.K Wout D' l) D' s H) q F := fun D' s G H S R p => by
  have base : Stp c.W G c.H0 G H := S.base S (Ex.refl G)
  have post : ∀ {G1 : Hp}, Ex G G1 → Post { c with G0 := G } D' F G1 := fun {G1} e =>
    ⟨fun s' H' G' q' a b S' R' => p.nx s' H' G' q' a (e.trans b) (S.unbase S') R', fun v H' G' d m n a b S' => p.rt v H' G' d m n a (e.trans b) (S.unbase S'),
      fun s' H' G' q' a b S' R' => p.bk s' H' G' q' a (e.trans b) (S.unbase S') R', fun s' H' G' q' a b S' R' => p.ct s' H' G' q' a (e.trans b) (S.unbase S') R'⟩
  refine h G (wTry c.K Wout D' l) (fun q' G' H' s' C dx ns es xs z S' R' e1 e2 e3 => ?_) (fun E Z x G' H' C dx ns es xs z S' => x G' H' C dx ns es xs z (S.unbase S')) D' s G H base R (post (Ex.refl G))
  clear h
  induction l with
  | nil => exact z.elim
  | cons k l ih =>
    obtain ⟨cl, oi, ts⟩ := k
    cases oi with
    | none =>
      obtain ⟨b, hb, yes, no⟩ := z
      exact ⟨b, hb, fun y a _ => yes y a dx D' s' G' H' S' R' (post S'.ex), fun n => ih (no n)⟩
    | some i =>
      obtain ⟨b, hb, yes, no⟩ := z
      refine ⟨b, hb, fun y a _ => ?_, fun n => ih (no n)⟩
      obtain ⟨hi, yes⟩ := yes y
      have pp := post S'.ex
      refine yes a dx (offI D' i) _ G' H' S' (R'.setD (d := .exc a dx C ns es) ⟨xs, rfl, e1, e2, e3⟩ hi) ?_
      exact ⟨fun s2 H2 G2 q2 a b S2 R2 => pp.nx _ H2 G2 _ a b S2 R2.setN, pp.rt, fun s2 H2 G2 q2 a b S2 R2 => pp.bk _ H2 G2 _ a b S2 R2.setN, fun s2 H2 G2 q2 a b S2 R2 => pp.ct _ H2 G2 _ a b S2 R2.setN⟩
theorem zip_at {K : PySem.W.Frag} {G : Hp} {f : Str} {e : D} : ∀ {ns : List Str} {es : List D} {xs : List V}, IsL K G es xs → (ns.zip es).lookup f = some e → ∃ v, (ns.zip xs).lookup f = some v ∧ Is K G e v
  | [], _, _, _, hh => by cases hh
  | n :: ns, [], _, _, h => by simp at h
  | n :: ns, e0 :: es, _, ⟨x, r, rfl, i1, i2⟩, h => by
    rw [List.zip_cons_cons, List.lookup_cons] at h ⊢
    cases z : f == n with
    | true =>
      rw [z] at h
      have : e0 = e := by simpa using h
      subst this
      exact ⟨x, rfl, i1⟩
    | false =>
      rw [z] at h
      exact zip_at i2 (by simpa using h)
/-- a field of the exception that the suite holds -/
theorem wp_xf {a dx C : Addr} {f : Str} (h : wpE c te q fun x => ∃ ns es e, x = .exc a dx C ns es ∧ (ns.zip es).lookup f = some e ∧ P e) : wpE c (tXf a (.ref C) (some dx) C f te) q P := fun G H s S R Q hq =>
  h G H s S R _ fun G1 H1 v d h1 T1 i1 => by
    obtain ⟨ns, es, e, rfl, hl, hp⟩ := h1
    obtain ⟨xs, rfl, e1, e2, e3⟩ := i1
    obtain ⟨v, l2, i2⟩ := zip_at e3 hl
    exact ⟨rfl, rfl, dx, _, v, rfl, T1.ok.sub _ _ e1, l2, hq G1 H1 v e hp T1 i2⟩
end
end Dz

set_option Elab.async false
set_option linter.all false
set_option maxRecDepth 100000
namespace Dz
open L2 PySem PyProof.Rows PySem.Spec
theorem hu64 {A : Around} {k : Nat} (h : Room k A) : A.units + 64 < cLine := by
  have := h.un
  omega
section
variable {X : Cx} {a : Expr} {ta : TE} {pos : Pos}
/-- the last part of a chain of and, of or, as a value -/
theorem pe_and1 (h : PE X a ta) : PE X (.BoolOp .And [a] pos) ta := ⟨fun pins s σ H Q I w => by
  have := h.run pins s σ H Q I w
  first
    | exact this
    | (unfold eval; exact this)⟩
theorem pe_or1 (h : PE X a ta) : PE X (.BoolOp .Or [a] pos) ta := ⟨fun pins s σ H Q I w => by
  have := h.run pins s σ H Q I w
  first
    | exact this
    | (unfold eval; exact this)⟩
end
/-! ### truth of lists -/
def D.emp : D → Option Bool
  | .lst l => some l.isEmpty
  | .tup l => some l.isEmpty
  | .non => some true
  | .bl b => some (!b)
  | .int i => some (i == 0)
  | _ => none
theorem Is.tru {K : PySem.W.Frag} {G H : Hp} (e : Ex G H) : ∀ {d : D} {v : V} {b : Bool}, D.emp d = some b → Is K G d v → TruV K v H (!b)
  | .lst l, v, b, hb, ⟨a, xs, p, h1, h2⟩ => by
    cases hb; rw [p]
    refine .inl ⟨xs, h1.sq e, ?_⟩
    have := IsL.len h2
    cases l <;> cases xs <;> first | rfl | cases this
  | .tup l, v, b, hb, ⟨a, xs, p, h1, h2⟩ => by
    cases hb; rw [p]
    refine .inr (.inl ⟨xs, h1.sq e, ?_⟩)
    have := IsL.len h2
    cases l <;> cases xs <;> first | rfl | cases this
  | .non, v, b, hb, h => by cases hb; cases (show _ = V.non from h); exact rfl
  | .bl x, v, b, hb, h => by cases hb; cases (show _ = V.bl x from h); exact (Bool.not_not x)
  | .int x, v, b, hb, h => by cases hb; cases (show _ = V.int x from h); exact rfl
section
variable {c : Cn} {q : List Sl} {P : D → Prop} {ta : TE} {B : Bool → Prop}
theorem wp_notT (h : wpE c ta q fun x => ∃ b, D.emp x = some b ∧ P (.bl b)) : wpE c (tNotT c.K ta) q P := fun G H s S R Q hq =>
  h G H s S R _ fun G1 H1 v x h1 T1 i1 => by
    obtain ⟨b, hb, hp⟩ := h1
    exact ⟨!b, Is.tru T1.ok.sub hb i1, by rw [Bool.not_not]; exact hq G1 H1 _ _ hp T1 rfl⟩
theorem wt_tru (h : wpE c ta q fun x => ∃ b, D.emp x = some b ∧ B (!b)) : wpT c (fun σ H Q => ta σ H fun x H' => ∃ k, TruV c.K x H' k ∧ Q k H') q B := fun G H s S R Q hq =>
  h G H s S R _ fun G1 H1 v x h1 T1 i1 => by
    obtain ⟨b, hb, hp⟩ := h1
    exact ⟨!b, Is.tru T1.ok.sub hb i1, hq G1 H1 _ hp T1⟩
end
end Dz

set_option Elab.async false
set_option linter.all false
namespace Dz
open L2 PySem PyProof.Rows PySem.Spec
theorem kit_NoneType_bool : kitB "NoneType" "bool" = some false := by decide +kernel
theorem kit_NoneType_int : kitB "NoneType" "int" = some false := by decide +kernel
theorem kit_NoneType_str : kitB "NoneType" "str" = some false := by decide +kernel
theorem kit_NoneType_tuple : kitB "NoneType" "tuple" = some false := by decide +kernel
theorem kit_NoneType_list : kitB "NoneType" "list" = some false := by decide +kernel
theorem kit_bool_bool : kitB "bool" "bool" = some true := by decide +kernel
theorem kit_bool_int : kitB "bool" "int" = some true := by decide +kernel
theorem kit_bool_str : kitB "bool" "str" = some false := by decide +kernel
theorem kit_bool_tuple : kitB "bool" "tuple" = some false := by decide +kernel
theorem kit_bool_list : kitB "bool" "list" = some false := by decide +kernel
theorem kit_int_bool : kitB "int" "bool" = some false := by decide +kernel
theorem kit_int_int : kitB "int" "int" = some true := by decide +kernel
theorem kit_int_str : kitB "int" "str" = some false := by decide +kernel
theorem kit_int_tuple : kitB "int" "tuple" = some false := by decide +kernel
theorem kit_int_list : kitB "int" "list" = some false := by decide +kernel
theorem kit_str_bool : kitB "str" "bool" = some false := by decide +kernel
theorem kit_str_int : kitB "str" "int" = some false := by decide +kernel
theorem kit_str_str : kitB "str" "str" = some true := by decide +kernel
theorem kit_str_tuple : kitB "str" "tuple" = some false := by decide +kernel
theorem kit_str_list : kitB "str" "list" = some false := by decide +kernel
theorem kit_tuple_bool : kitB "tuple" "bool" = some false := by decide +kernel
theorem kit_tuple_int : kitB "tuple" "int" = some false := by decide +kernel
theorem kit_tuple_str : kitB "tuple" "str" = some false := by decide +kernel
theorem kit_tuple_tuple : kitB "tuple" "tuple" = some true := by decide +kernel
theorem kit_tuple_list : kitB "tuple" "list" = some false := by decide +kernel
theorem kit_list_bool : kitB "list" "bool" = some false := by decide +kernel
theorem kit_list_int : kitB "list" "int" = some false := by decide +kernel
theorem kit_list_str : kitB "list" "str" = some false := by decide +kernel
theorem kit_list_tuple : kitB "list" "tuple" = some false := by decide +kernel
theorem kit_list_list : kitB "list" "list" = some true := by decide +kernel
end Dz
namespace Dz
theorem br_t {A B : Prop} (h : A) : (true = true → A) ∧ (true = false → B) := ⟨fun _ => h, fun e => Bool.noConfusion e⟩
theorem br_f {A B : Prop} (h : B) : (false = true → A) ∧ (false = false → B) := ⟨fun e => Bool.noConfusion e, fun _ => h⟩
theorem br_t2 {A B : Prop} (h : B) : (true = false → A) ∧ (true = true → B) := ⟨fun e => Bool.noConfusion e, fun _ => h⟩
theorem br_f2 {A B : Prop} (h : A) : (false = false → A) ∧ (false = true → B) := ⟨fun _ => h, fun e => Bool.noConfusion e⟩
theorem br_d {p : Prop} [Decidable p] {A B : Prop} (h1 : p → A) (h2 : ¬ p → B) : (decide p = true → A) ∧ (decide p = false → B) := ⟨fun e => h1 (of_decide_eq_true e), fun e => h2 (of_decide_eq_false e)⟩
theorem br_d2 {p : Prop} [Decidable p] {A B : Prop} (h1 : p → A) (h2 : ¬ p → B) : (decide p = false → B) ∧ (decide p = true → A) := ⟨fun e => h2 (of_decide_eq_false e), fun e => h1 (of_decide_eq_true e)⟩
theorem br_b {b : Bool} {A B : Prop} (h1 : b = true → A) (h2 : b = false → B) : (b = true → A) ∧ (b = false → B) := ⟨h1, h2⟩
theorem br_b2 {b : Bool} {A B : Prop} (h1 : b = true → A) (h2 : b = false → B) : (b = false → B) ∧ (b = true → A) := ⟨h2, h1⟩
end Dz

set_option Elab.async false
set_option linter.all false
set_option maxRecDepth 100000
namespace Dz
open L2 PySem PyProof.Rows PySem.Spec
/-! ### sizes of ints -/
def Bd (n : Nat) (i : Int) : Prop := i.natAbs < 2 ^ n
theorem Bd.mono {n m : Nat} {i : Int} (h : Bd n i) (e : n ≤ m) : Bd m i := Nat.lt_of_lt_of_le h (Nat.pow_le_pow_right (by decide) e)
theorem Bd.mul {n m : Nat} {i j : Int} (h : Bd n i) (k : Bd m j) : Bd (n + m) (i * j) := wide_lt h k
theorem Bd.add {n : Nat} {i j : Int} (h : Bd n i) (k : Bd n j) : Bd (n + 1) (i + j) := by
  unfold Bd at *
  have := Int.natAbs_add_le i j
  rw [Nat.pow_succ]; omega
theorem Bd.sub {n : Nat} {i j : Int} (h : Bd n i) (k : Bd n j) : Bd (n + 1) (i - j) := by
  unfold Bd at *
  have := Int.natAbs_sub_le i j
  rw [Nat.pow_succ]; omega
theorem Bd.neg {n : Nat} {i : Int} (h : Bd n i) : Bd n (-i) := by
  unfold Bd at *; rw [Int.natAbs_neg]; exact h
theorem Bd.ofLt {n : Nat} {i : Int} (h : i.natAbs < 2 ^ n) : Bd n i := h
theorem Bd.le {n : Nat} {i j : Int} (h : Bd n j) (e : i.natAbs ≤ j.natAbs) : Bd n i := Nat.lt_of_le_of_lt e h
theorem Bd.lg {n : Nat} {i : Int} (h : Bd n i) (h0 : 0 < n) : i.natAbs.log2 < n := PySem.Flt.log2_lt_of h0 h
theorem CMulW.of {n m : Nat} {i j : Int} (h : Bd n i) (k : Bd m j) (e : n + m ≤ 999000) : CMulW i j := by
  have h' := Bd.lg (h.mono (Nat.le_succ n)) (Nat.succ_pos n)
  have k' := Bd.lg (k.mono (Nat.le_succ m)) (Nat.succ_pos m)
  unfold CMulW
  omega
theorem CDivW.of {n : Nat} {i j : Int} (h : 0 < j) (k : Bd n j) (e : n ≤ 9000) : CDivW i j := by
  refine ⟨h, ?_⟩
  by_cases h0 : n = 0
  · subst h0
    unfold Bd at k
    have : j.natAbs < 1 := k
    omega
  · have := Bd.lg k (by omega)
    omega
/-- // by any divisor but 0 -/
def CDivZ (_ j : Int) : Prop := j ≠ 0 ∧ j.natAbs.log2 < 9000
theorem CDivZ.of {n : Nat} {i j : Int} (h : j ≠ 0) (k : Bd n j) (e : n ≤ 9000) : CDivZ i j := by
  refine ⟨h, ?_⟩
  by_cases h0 : n = 0
  · subst h0
    unfold Bd at k
    have : j.natAbs < 1 := k
    omega
  · have := Bd.lg k (by omega)
    omega
theorem op_fdivZ {X : Cx} : OpR X (binaryOp .FloorDiv) (rI CDivZ fun i j => .int (i.fdiv j)) := opI fun _ _ _ _ _ _ _ hc q => floordiv_int hc.1 q (.inl (PyProof.noPylong_of_log2 hc.2))
/-! ### couples of ints, as tuples or as lists -/
inductive Pair : D → Int → Int → Prop
  | t (a b : Int) : Pair (.tup [.int a, .int b]) a b
  | l (a b : Int) : Pair (.lst [.int a, .int b]) a b
end Dz
namespace Dz
open L2 PySem PyProof.Rows PySem.Spec
/-! ### promises of one, two, three arguments -/
abbrev X0 : List D → Addr → List Str → List D → Prop := fun _ _ _ _ => False
abbrev Pm.f1 (pre : Wd → D → Prop) (post : D → D → Prop) (exn : List D → Addr → List Str → List D → Prop := X0) : Pm :=
  { pre := fun W ds => match ds with | [a] => pre W a | _ => False, post := fun ds r => match ds with | [a] => post a r | _ => False, exn := exn }
abbrev Pm.f2 (pre : Wd → D → D → Prop) (post : D → D → D → Prop) (exn : List D → Addr → List Str → List D → Prop := X0) : Pm :=
  { pre := fun W ds => match ds with | [a, b] => pre W a b | _ => False, post := fun ds r => match ds with | [a, b] => post a b r | _ => False, exn := exn }
abbrev Pm.f3 (pre : Wd → D → D → D → Prop) (post : D → D → D → D → Prop) (exn : List D → Addr → List Str → List D → Prop := X0) : Pm :=
  { pre := fun W ds => match ds with | [a, b, c] => pre W a b c | _ => False, post := fun ds r => match ds with | [a, b, c] => post a b c r | _ => False, exn := exn }
theorem Pm.l1 {pre : Wd → D → Prop} {post : D → D → Prop} {exn : List D → Addr → List Str → List D → Prop} {W : Wd} {ds : List D} (h : (Pm.f1 pre post exn).pre W ds) : ∃ a, ds = [a] ∧ pre W a := by
  match ds, h with
  | [a], h => exact ⟨a, rfl, h⟩
theorem Pm.l2 {pre : Wd → D → D → Prop} {post : D → D → D → Prop} {exn : List D → Addr → List Str → List D → Prop} {W : Wd} {ds : List D} (h : (Pm.f2 pre post exn).pre W ds) : ∃ a b, ds = [a, b] ∧ pre W a b := by
  match ds, h with
  | [a, b], h => exact ⟨a, b, rfl, h⟩
theorem Pm.l3 {pre : Wd → D → D → D → Prop} {post : D → D → D → D → Prop} {exn : List D → Addr → List Str → List D → Prop} {W : Wd} {ds : List D} (h : (Pm.f3 pre post exn).pre W ds) : ∃ a b c, ds = [a, b, c] ∧ pre W a b c := by
  match ds, h with
  | [a, b, c], h => exact ⟨a, b, c, rfl, h⟩
/-- a default's datum -/
def dOf : V → D
  | .non => .non
  | .bl b => .bl b
  | .int i => .int i
  | .str x => .str x
  | _ => .non
def scaV : V → Bool
  | .non => true
  | .bl _ => true
  | .int _ => true
  | .str _ => true
  | _ => false
theorem isDef {K : PySem.W.Frag} {G : Hp} : ∀ {vs : List V}, vs.all scaV = true → IsL K G (vs.map dOf) vs
  | [], _ => rfl
  | v :: vs, h => by
    have h2 := Bool.and_eq_true_iff.mp (show (scaV v && vs.all scaV) = true from h)
    refine ⟨v, vs, rfl, ?_, isDef h2.2⟩
    cases v <;> first | exact rfl | cases h2.1
section
variable {c : Cn} {q : List Sl} {P : D → Prop} {ta : TA}
theorem wp_call0 {p : Pm} {dvs : List V} {E : XK} (hd : dvs.all scaV = true) (h : wpA c ta q fun ds => p.pre c.W (ds ++ dvs.map dOf) ∧ (∀ d, p.post (ds ++ dvs.map dOf) d → P d) ∧ ∀ C ns es, ¬ p.exn (ds ++ dvs.map dOf) C ns es) :
    wpE c (tCall (spD c.K p) dvs E ta) q P := wp_call (fun _ => isDef hd) h
theorem wp_callX0 {p : Pm} {dvs : List V} {E : XK} {Z : Addr → List Str → List D → Prop} (hE : XA c E Z) (hd : dvs.all scaV = true)
    (h : wpA c ta q fun ds => p.pre c.W (ds ++ dvs.map dOf) ∧ (∀ d, p.post (ds ++ dvs.map dOf) d → P d) ∧ ∀ C ns es, p.exn (ds ++ dvs.map dOf) C ns es → Z C ns es) :
    wpE c (tCall (spD c.K p) dvs E ta) q P := wp_callX hE (fun _ => isDef hd) h
theorem wp_callS0 {p : Pm} {dvs : List V} {Wx : WX} {Z : List Sl → Addr → List Str → List D → Prop} (hW : WA c Wx Z) (hd : dvs.all scaV = true)
    (h : wpA c ta q fun ds => p.pre c.W (ds ++ dvs.map dOf) ∧ (∀ d, p.post (ds ++ dvs.map dOf) d → P d) ∧ ∀ C ns es, p.exn (ds ++ dvs.map dOf) C ns es → Z q C ns es) :
    wpE c (tCallSD (spD c.K p) dvs (WE Wx) ta) q P := wp_callS hW (fun _ => isDef hd) h
end
end Dz
namespace Dz
open L2 PySem PyProof.Rows PySem.Spec
section
variable {c : Cn} {q : List Sl}
theorem wg_lst {gs : TGs} {n : Nat} {ds : List D} {N : List Sl → Prop} (hn : ds.length = n) (h : wpGs c gs ds q N) : wpG c (gLst c.K n gs) (.lst ds) q N := fun G H s v S R hv Q hq => by
  obtain ⟨a, xs, rfl, h1, h2⟩ := hv
  exact ⟨a, xs, rfl, h1.sq S.ok.sub, by rw [IsL.len h2, hn], h G H s xs S R h2 Q hq⟩
theorem ww_lst {vs : List Nat} {gs : TGs} {n : Nat} {ds : List D} {N : List Sl → Prop} (hn : ds.length = n) (h : wpWs c gs vs ds q N) : wpW c (gLst c.K n gs) vs (.lst ds) q N := fun G H s v S R hv Q hq => by
  obtain ⟨a, xs, rfl, h1, h2⟩ := hv
  exact ⟨a, xs, rfl, h1.sq S.sub, by rw [IsL.len h2, hn], h G H s xs S R h2 Q hq⟩
end
end Dz
namespace Dz
open L2 PySem PyProof.Rows PySem.Spec
theorem atI_cons0 {α : Type} {x : α} {xs : List α} : atI (x :: xs) 0 = some x := by
  unfold atI ixN
  rw [if_pos (Int.le_refl 0), if_pos (by rw [List.length_cons]; omega)]
  rfl
end Dz

set_option Elab.async false
set_option linter.all false
set_option maxRecDepth 100000
namespace Dz
open L2 PySem PyProof.Rows PySem.Spec
theorem Bd.lit {n : Nat} {i : Int} (h : decide (i.natAbs < 2 ^ n) = true) : Bd n i := by
  unfold Bd
  exact of_decide_eq_true h
theorem Bd.of_range {n : Nat} {i m : Int} (h0 : 0 ≤ i) (h : i < m) (k : Bd n m) : Bd n i := k.le (by omega)
section
variable {c : Cn} {P : D → Prop}
/-- a rest whose value does not matter -/
theorem od_modF {i j : Int} (hj : 0 < j) (k : ∀ m, 0 ≤ m → m < j → P (.int m)) : opD c (rI (fun _ j => 0 < j) fun i j => .int (i % j)) (.int i) (.int j) P :=
  od_ci hj (k _ (Int.emod_nonneg _ (by omega)) (Int.emod_lt_of_pos _ hj))
theorem od_divF {i j : Int} {n : Nat} (hj : 0 < j) (zj : Bd n j) (hn : n ≤ 9000) (k : ∀ m, (0 ≤ i → 0 ≤ m ∧ m ≤ i) → m.natAbs ≤ i.natAbs → P (.int m)) : opD c (rI CDivW fun i j => .int (i / j)) (.int i) (.int j) P :=
  od_ci (CDivW.of hj zj hn) (k _ (fun h => ⟨Int.ediv_nonneg h (by omega), Int.ediv_le_self _ h⟩) (Int.natAbs_ediv_le_natAbs _ _))
end
/-! ### a hand: a list of cells, a place in it, a rest, a total, all written by whoever draws -/
def handD (cells : List Int) (i r t : Int) : List D := [.lst (cells.map D.int), .int i, .int r, .int t]
structure HandOk (cells : List Int) (i r t : Int) : Prop where
  many : cells.length ≤ 63
  i0 : 0 ≤ i
  i1 : i ≤ (cells.length : Int)
  r0 : 0 ≤ r
  t0 : 0 ≤ t
  t1 : t < 2147483549
  c0 : ∀ x ∈ cells, 0 ≤ x
def HandW (K : PySem.W.Frag) (p : Addr) : Wd where
  M := fun a => a = p
  J := fun G H => ∃ xs cells i r t, H p = some (.lst xs) ∧ IsL K G (handD cells i r t) xs ∧ HandOk cells i r t
  stb := fun ⟨xs, cells, i, r, t, a, b, j⟩ e h => ⟨xs, cells, i, r, t, by rw [h p rfl]; exact a, IsL.mono e _ b, j⟩
/-- the heap but for one place -/
def butH (H : Hp) (p : Addr) : Hp := fun a => if a = p then none else H a
theorem butH_ne {H : Hp} {p a : Addr} (h : a ≠ p) : butH H p a = H a := if_neg h
theorem butH_eq {H : Hp} {p : Addr} : butH H p p = none := if_pos rfl
section
variable {K : PySem.W.Frag} {G H G' H' : Hp} {p : Addr}
theorem hand_start (o : Ok (HandW K p) G H) : Stp W0 G (butH H p) G H := by
  refine ⟨⟨o.sub, fun _ m => m.elim, fun _ m => m.elim, trivial⟩, Ex.refl G, fun _ _ e => .inl e, fun a u _ e => ?_, fun a u e => ?_⟩
  · by_cases z : a = p
    · rw [z, butH_eq] at e; cases e
    · rw [butH_ne z] at e; exact e
  · by_cases z : a = p
    · rw [z, butH_eq] at e; cases e
    · rw [butH_ne z] at e; exact ⟨u, e⟩
theorem hand_end (o : Ok (HandW K p) G H) (t : Stp W0 G (butH H p) G' H') (hg : G' p = none) (j : (HandW K p).J G' H') : Stp (HandW K p) G H G' H' := by
  obtain ⟨xs, cells, i, r, u, a, b, h⟩ := id j
  refine ⟨⟨t.ok.sub, fun a m => by cases (show a = p from m); exact hg, fun a m => by cases (show a = p from m); exact ⟨_, by assumption⟩, j⟩, t.ex, fun a u e => ?_, fun a u n e => ?_, fun a u e => ?_⟩
  · rcases t.fresh a u e with y | y
    · exact .inl y
    · by_cases z : a = p
      · rw [z, hg] at e; cases e
      · rw [butH_ne z] at y; exact .inr y
  · have z : a ≠ p := n
    exact t.kp a u id (by rw [butH_ne z]; exact e)
  · by_cases z : a = p
    · rw [z]; exact ⟨_, by assumption⟩
    · exact t.th a u (by rw [butH_ne z]; exact e)
end
end Dz
namespace Dz
open L2 PySem PyProof.Rows PySem.Spec
def HandIn (a : Addr) (q : List Sl) : Prop := ∃ cells i r t, q[0]? = some (.own a (handD cells i r t)) ∧ HandOk cells i r t
section
variable {Pg : Program} {w : World} {K : PySem.W.Frag} {mg : Str → Option Value} {base : Heap}
/-- a def that draws from a hand by itself: upon its slots the hand is a list of its own -/
theorem fn_hand {x qual : Str} {st : Stmt} {f : Addr} {fd : FuncData} {N ps : List Str} {k : Nat} {p : Pm} (F : Fun K x qual st f fd) (S : FnScope N ps (defScope st)) (hl : ∀ W ds, p.pre W ds → ds.length = ps.length)
    (hpre : ∀ W ds, p.pre W ds → ∃ a es, ds = .adr a :: es ∧ W = HandW K a)
    (h : ∀ (cdv : Value) (A : Around) (outer : List Env) (s : Shared) (E : XK) (G H : Hp) (a : Addr) (es : List D) (cells : List Int) (i r t : Int), Room k (A.deeper (envOfC qual (defScope st) s.heap.objs.size f cdv)) → p.pre (HandW K a) (.adr a :: es) → HandOk cells i r t →
      ∃ tm, PSs (cxOf (L2.CX Pg w) Pg w K mg base N qual (defScope st) f cdv A outer s H E) (defBody st) tm ∧
        wpS ⟨K, W0, G, butH H a⟩ tm (.own a (handD cells i r t) :: (es.map Sl.dat ++ List.replicate (N.length - (es.length + 1)) Sl.unk)) ⟨fun q => HandIn a q ∧ p.post (.adr a :: es) .non, fun q d => HandIn a q ∧ p.post (.adr a :: es) d, fun _ => False, fun _ => False⟩) :
    FnOk Pg w K mg base (L2.CX Pg w) (k + 1) f fd ps (spD K p) := by
  refine F.okX S (spD_len hl) fun cdv A outer s H vs Q E hr h1 => ?_
  obtain ⟨W, G, ds, o, iv, hp, hq, hx⟩ := h1
  obtain ⟨a, es, rfl, rfl⟩ := hpre W ds hp
  obtain ⟨xs, cells, i, r, t, ha, hi, ok⟩ := id o.inv
  obtain ⟨tm, d1, d2⟩ := h cdv A outer s E G H a es cells i r t hr hp ok
  obtain ⟨_, ys, rfl, e1, i2⟩ := iv
  cases (show _ = V.ref a from e1)
  have no : ∀ {j : Nat} {a' : Addr} {e : List D}, ((es.map Sl.dat ++ List.replicate (N.length - (es.length + 1)) Sl.unk))[j]? = some (Sl.own a' e) → False := fun {j a' e} z => by
    have := List.mem_of_getElem? z
    simp at this
  have fin : ∀ {G' H' : Hp} {s' : L2.St} {q' : List Sl}, Stp W0 G (butH H a) G' H' → Rel K W0 (butH H a) G' H' s' q' → HandIn a q' → Stp (HandW K a) G H G' H' := by
    intro G' H' s' q' t' r' hi
    obtain ⟨c', i', r2, t2, z, ok'⟩ := hi
    obtain ⟨xs', q1, q2, q3, q4, q5, q6⟩ := r'.own 0 a _ z
    exact hand_end o t' q3 ⟨xs', c', i', r2, t2, q2, q6, ok'⟩
  refine ⟨tm, d1, d2 _ _ G H (hand_start o) ?_ ⟨fun s' H' G' q' z _ S' R' => hq G' H' .non .non z.2 (fin S' R' z.1) rfl, fun v H' G' d s' q' z _ S' i' R' => hq G' H' v d z.2 (fin S' R' z.1) i', fun _ _ _ _ z => z.elim, fun _ _ _ _ z => z.elim⟩⟩
  have r0 : Rel K W0 (butH H a) G H (L2.start N (.ref a :: ys)) ((D.adr a :: es).map Sl.dat ++ List.replicate (N.length - (D.adr a :: es).length) Sl.unk) := rel_start N ⟨_, ys, rfl, rfl, i2⟩
  refine ⟨r0.len, fun j d e => ?_, fun j a' e z => ?_, fun j l a' b' p' n za zb => ?_⟩
  · cases j with
    | zero => cases e
    | succ j => exact r0.dat (j + 1) d e
  · cases j with
    | zero =>
      cases z
      exact ⟨xs, rfl, ha, o.cln a rfl, butH_eq, id, hi⟩
    | succ j => exact (no (j := j) z).elim
  · cases j with
    | zero =>
      cases l with
      | zero => exact n rfl
      | succ l => exact no (j := l) zb
    | succ j => exact no (j := j) za
end
end Dz
namespace Dz
open L2 PySem PyProof.Rows PySem.Spec
theorem od_pow {c : Cn} {P : D → Prop} {i j : Int} (h : decide (0 ≤ j ∧ j ≤ 1000000 ∧ i.natAbs < 2 ^ 64) = true) (k : P (.int (i ^ j.toNat))) : opD c (rI CPow fun i j => .int (i ^ j.toNat)) (.int i) (.int j) P :=
  od_ci (show 0 ≤ j ∧ j ≤ 1000000 ∧ i.natAbs < 2 ^ 64 from of_decide_eq_true h) k
end Dz

set_option Elab.async false
set_option linter.all false
set_option maxRecDepth 100000
namespace Dz
open L2 PySem PyProof.Rows PySem.Spec
/-- a body under the wishes of its clauses -/
def runTb (tb : WX → TS) (Wf : Ends → WX) : TS := fun D' s H => tb (Wf D') D' s H
theorem ps_tryR {X : Cx} {body : List Stmt} {h0 : ExceptHandler} {hds : List ExceptHandler} {l : List Clause} {pos : Pos} {tb : WX → TS} {Wout : WX} (hs : X.stack = X.env :: X.outer) (hf : X.env.frame = some X.env.locals) (hN : X.N.Nodup) (tk : Takes X Wout)
    (hb : ∀ (Wx : WX) (pn : List (Addr × Obj)) (xe : Value → Shared → Prop), Takes (X.tr pn xe) Wx → PassesOwn (model X.prog X.w) X.A X.env xe → PSs (X.tr pn xe) body (tb Wx))
    (hh : HdsN X (h0 :: hds) l) : PS X (.Try body (h0 :: hds) [] [] pos) (runTb tb fun D' => wTry X.K Wout D' l) := ps_tryN hs hf hN tk hb hh
theorem ws_tryR {c : Cn} {q : List Sl} {F : Fn} {l : List Clause} {tb : WX → TS} {Wout : WX} (h : ∀ (G1 : Hp) (Wx : WX), WA { c with G0 := G1 } Wx (hdD { c with G0 := G1 } F l) → (∀ E Z, XA c E Z → XA { c with G0 := G1 } E Z) → wpS { c with G0 := G1 } (tb Wx) q F) :
    wpS c (runTb tb fun D' => wTry c.K Wout D' l) q F := ws_try h
end Dz
namespace Dz
open L2 PySem PyProof.Rows PySem.Spec
theorem D.eqv_same {x : D} (h : D.cmp x = true) : D.eqv x x = true := PySem.SeqAt.eqv_refl _ (D.lay x (Bool.and_eq_true_iff.mp h).1)
section
variable {c : Cn} {P : D → Prop}
theorem od_ne_same {x : D} (h : D.cmp x = true) (k : P (.bl false)) : opD c (rNeD c.K) x x P := od_ne h h (by rw [D.eqv_same h]; exact k)
theorem od_eq_same {x : D} (h : D.cmp x = true) (k : P (.bl true)) : opD c (rEqD c.K) x x P := od_eq h h (by rw [D.eqv_same h]; exact k)
/-- two ints compared -/
theorem eqv_int (a b : Int) : D.eqv (.int a) (.int b) = decide (a = b) := rfl
theorem od_eqI {a b : Int} (k : P (.bl (decide (a = b)))) : opD c (rEqD c.K) (.int a) (.int b) P := od_eq rfl rfl k
theorem od_neI {a b : Int} (k : P (.bl (!decide (a = b)))) : opD c (rNeD c.K) (.int a) (.int b) P := od_ne rfl rfl k
end
theorem Bd.add2 {n m : Nat} {i j : Int} (h : Bd n i) (k : Bd m j) : Bd (n + m + 1) (i + j) := (h.mono (Nat.le_add_right n m)).add (k.mono (Nat.le_add_left m n))
theorem Bd.sub2 {n m : Nat} {i j : Int} (h : Bd n i) (k : Bd m j) : Bd (n + m + 1) (i - j) := (h.mono (Nat.le_add_right n m)).sub (k.mono (Nat.le_add_left m n))
theorem Bd.ediv {n : Nat} {i : Int} (h : Bd n i) (j : Int) : Bd n (i / j) := h.le (Int.natAbs_ediv_le_natAbs _ _)
theorem Bd.one : Bd 1 1 := by unfold Bd; decide
theorem br_nd {p : Prop} [Decidable p] {A B : Prop} (h1 : ¬ p → A) (h2 : p → B) : ((!decide p) = true → A) ∧ ((!decide p) = false → B) := ⟨fun e => h1 (by simpa using e), fun e => h2 (by simpa using e)⟩
theorem br_nd2 {p : Prop} [Decidable p] {A B : Prop} (h1 : ¬ p → A) (h2 : p → B) : ((!decide p) = false → B) ∧ ((!decide p) = true → A) := ⟨fun e => h2 (by simpa using e), fun e => h1 (by simpa using e)⟩
end Dz

set_option Elab.async false
set_option linter.all false
namespace Dz
open L2 PySem PyProof.Rows PySem.Spec
theorem call_list_ofK {X : Cx} {K : PySem.W.Frag} (e : X.K = K) : CallR X (.type "list") (fun xs H Q => ∃ p ys, xs = [.ref p] ∧ (SqL K H p ys ∨ SqT K H p ys) ∧ ∀ l, H l = none → Q (.ref l) (upd H l (.lst ys))) := by
  subst e; exact call_list_of
theorem wp_is {c : Cn} {te : TE} {q : List Sl} {P : D → Prop} (v : D) (h : wpE c te q fun d => d = v) (k : P v) : wpE c te q P := wp_mono h fun d e => e ▸ k
section
variable {c : Cn} {q : List Sl} {P : D → Prop} {ta te : TE} {F : Fn} {g : TG}
/-! ### the script: a list that stands for good -/
theorem rd_sq {K : PySem.W.Frag} {G H : Hp} (e : Ex G H) {a : Addr} {xs : List V} (h : SqL K G a xs) : SqL K H a xs := h.imp (fun h => h.imp (e _ _) fun ⟨o, z⟩ => ⟨o, e _ _ z⟩) id
theorem cb_lenS {ds : List D} (k : P (.int ds.length)) : cbD c (fun zs H Q => ∃ p ys, zs = [.ref p] ∧ (SqL c.K H p ys ∨ SqT c.K H p ys) ∧ Q (.int ys.length) H) [.scr ds] P := fun G H vs o a Q hq => by
  obtain ⟨v, rfl, p, xs, rfl, h1, h2⟩ := IsL.one_of a
  refine ⟨p, xs, rfl, .inl (rd_sq o.sub h1), ?_⟩
  rw [IsL.len h2]; exact hq G H _ _ k (Stp.refl o) rfl
theorem ws_forS {tb : TS} (h : wpE c ta q fun d => ∃ ds, d = .scr ds ∧ ∃ I : Nat → List Sl → Prop, I 0 q ∧
      (∀ i x q', ds[i]? = some x → I i q' → wpG c g x q' fun q2 => wpS c tb q2 { F with nx := I (i + 1), ct := I (i + 1), bk := F.nx }) ∧ ∀ q', I ds.length q' → F.nx q') :
    wpS c (tFor (iList c.K ta) g tb) q F := fun D' s G H S R p =>
  h G H s S R _ fun G1 H1 v d h1 T1 i1 => by
    obtain ⟨ds, rfl, I, h0, hs, hd⟩ := h1
    obtain ⟨a, xs, rfl, l1, l2⟩ := i1
    have p1 := p.more T1.ex
    refine ⟨a, rfl, ⟨xs, rd_sq T1.ok.sub l1⟩, for_list (xs := xs) (fun i => LpAt c G1 (I i)) ⟨G1, q, h0, Ex.refl G1, S.trans T1, R.step T1⟩ (fun i s' H' _ z => ?_) (fun i x s' H' e z => ?_) fun s' H' z => ?_⟩
    · obtain ⟨G2, q2, _, e2, S2, _⟩ := z
      exact rd_sq S2.ok.sub (rd_sq e2 l1)
    · obtain ⟨G2, q2, w, e2, S2, R2⟩ := z
      obtain ⟨d, ed, id⟩ := IsL.back l2 e
      exact turn_at p1 e2 S2 R2 (Is.mono e2 d id) (hs i d q2 ed w)
    · obtain ⟨G2, q2, w, e2, S2, R2⟩ := z
      rw [IsL.len l2] at w
      exact p1.nx s' H' G2 q2 (hd q2 w) e2 S2 R2
/-- a new list is given back, nobody else holds it: slot i tells of it -/
theorem ws_retF {i : Nat} (hl : i < q.length) (h : wpF c te q fun ds => ∀ a, F.rt (q.set i (.own a ds)) (.adr a)) : wpS c (tRet te) q F := fun D' s G H S R p =>
  h G H s S R _ fun G1 H1 a xs ds h1 T1 hn hx => by
    have S1 := S.trans T1
    have hg := none_of_sub T1.ok.sub hn
    exact p.rt _ _ G1 _ _ _ (h1 a) T1.ex (S1.put (none_of_th S1.th hn) hg (T1.ok.notM hn)) rfl ((R.step T1).setO hn (none_of_th S1.th hn) hg (T1.ok.notM hn) hx hl)
end
section
variable {Pg : Program} {w : World} {K : PySem.W.Frag} {mg : Str → Option Value} {base : Heap}
/-- the promise of the def that makes the hand -/
def spNew (K : PySem.W.Frag) : Sp := fun vs H Q _ => ∃ G, ∃ ns : List Int, Ok W0 G H ∧ IsL K G [.scr (ns.map D.int)] vs ∧ ns.length ≤ 63 ∧
  ∀ G' H' p, Ok (HandW K p) G' H' → Stp W0 G H G' H' → Q (.ref p) H'
/-- .. and of the law: a script in, True out -/
def spLaw (K : PySem.W.Frag) : Sp := fun vs H Q _ => ∃ G, ∃ ns : List Int, Ok W0 G H ∧ IsL K G [.scr (ns.map D.int)] vs ∧ ns.length ≤ 63 ∧ ∀ H', Q (.bl true) H'
def NewRt (q : List Sl) (d : D) : Prop := ∃ (i : Nat) (p : Addr) (cells : List Int) (t : Int), d = .adr p ∧ q[i]? = some (Sl.own p (handD cells 0 0 t)) ∧ HandOk cells 0 0 t
theorem fn_new {x qual : Str} {st : Stmt} {f : Addr} {fd : FuncData} {N ps : List Str} {k : Nat} (F : Fun K x qual st f fd) (S : FnScope N ps (defScope st)) (hl : ps.length = 1)
    (h : ∀ (cdv : Value) (A : Around) (outer : List Env) (s : Shared) (E : XK) (G H : Hp) (ns : List Int), Room k (A.deeper (envOfC qual (defScope st) s.heap.objs.size f cdv)) → ns.length ≤ 63 →
      ∃ tm, PSs (cxOf (L2.CX Pg w) Pg w K mg base N qual (defScope st) f cdv A outer s H E) (defBody st) tm ∧
        wpS ⟨K, W0, G, H⟩ tm (slots [.scr (ns.map D.int)] N) ⟨fun _ => False, NewRt, fun _ => False, fun _ => False⟩) :
    FnOk Pg w K mg base (L2.CX Pg w) (k + 1) f fd ps (spNew K) := by
  refine F.okX S (fun vs H Q E ⟨G, ns, _, i, _⟩ => by rw [IsL.len i, hl]; rfl) fun cdv A outer s H vs Q E hr h1 => ?_
  obtain ⟨G, ns, o, iv, hz, hq⟩ := h1
  obtain ⟨tm, d1, d2⟩ := h cdv A outer s E G H ns hr hz
  refine ⟨tm, d1, d2 _ _ G H (Stp.refl o) (rel_start N iv) ⟨fun _ _ _ _ z => z.elim, fun v H' G' d s' q' z e S' i' R' => ?_, fun _ _ _ _ z => z.elim, fun _ _ _ _ z => z.elim⟩⟩
  obtain ⟨i, p, cells, t, rfl, hi, ok⟩ := z
  cases (show v = V.ref p from i')
  obtain ⟨xs, q1, q2, q3, q4, q5, q6⟩ := R'.own i p _ hi
  exact hq G' H' p ⟨S'.ok.sub, fun a m => by cases (show a = p from m); exact q3, fun a m => by cases (show a = p from m); exact ⟨_, q2⟩, ⟨xs, cells, 0, 0, t, q2, q6, ok⟩⟩ S'
/-- the law: its first statement makes the hand -/
theorem fn_law {x qual : Str} {st : Stmt} {f fh : Addr} {fd : FuncData} {N ps : List Str} {k : Nat} (F : Fun K x qual st f fd) (S : FnScope N ps (defScope st)) (hl : ps.length = 1)
    (h : ∀ (cdv : Value) (A : Around) (outer : List Env) (s : Shared) (E : XK) (H0 : Hp), Room k (A.deeper (envOfC qual (defScope st) s.heap.objs.size f cdv)) →
      ∃ tm, PSs (cxOf (L2.CX Pg w) Pg w K mg base N qual (defScope st) f cdv A outer s H0 E) (defBody st) (tSeq (tAsg (tCall (spNew K) [] E0 (tCons (tVar 0) tNil)) (gName 1)) tm) ∧ 1 < N.length ∧
        ∀ (G H : Hp) (p : Addr) (d0 : D), wpS ⟨K, HandW K p, G, H⟩ tm ((slots [d0] N).set 1 (.dat (.adr p))) ⟨fun _ => False, fun _ d => d = .bl true, fun _ => False, fun _ => False⟩) :
    FnOk Pg w K mg base (L2.CX Pg w) (k + 1) f fd ps (spLaw K) := by
  refine F.okX S (fun vs H Q E ⟨G, ns, _, i, _⟩ => by rw [IsL.len i, hl]; rfl) fun cdv A outer s H vs Q E hr h1 => ?_
  obtain ⟨G, ns, o, iv, hz, hq⟩ := h1
  obtain ⟨tm, d1, hN, d2⟩ := h cdv A outer s E H hr
  refine ⟨_, d1, ?_⟩
  have iv0 := iv
  have R0 : Rel K W0 H G H (L2.start N vs) (slots [.scr (ns.map D.int)] N) := rel_start N iv
  obtain ⟨v', e0, i1⟩ := R0.dat 0 (.scr (ns.map D.int)) rfl
  refine ⟨v', e0, G, ns, o, ⟨v', [], rfl, i1, rfl⟩, hz, fun G' H' p o' T' => ?_⟩
  have hlen : 1 < (slots [D.scr (ns.map D.int)] N).length := by simp [slots]; omega
  have R1 := (R0.step T').setD (i := 1) (d := .adr p) (v := .ref p) rfl hlen
  have no : ∀ (i : Nat) (a : Addr) (ds : List D), ((slots [D.scr (ns.map D.int)] N).set 1 (.dat (.adr p)))[i]? = some (.own a ds) → False := fun i a ds z => by
    rcases set_get z with ⟨_, z⟩ | ⟨_, z⟩
    · cases z
    · have := List.mem_of_getElem? z
      simp at this
  refine d2 G' H' p _ _ _ G' H' (Stp.refl o') ⟨R1.len, R1.dat, fun i a ds z => (no i a ds z).elim, fun i j a b a' _ z _ => (no i a' a z).elim⟩
    ⟨fun _ _ _ _ z => z.elim, fun v H2 G2 d s' q' z _ _ i2 _ => ?_, fun _ _ _ _ z => z.elim, fun _ _ _ _ z => z.elim⟩
  cases z
  cases (show v = V.bl true from i2)
  exact hq H2
end
end Dz
namespace Dz
open L2 PySem PyProof.Rows PySem.Spec
/-! ### names whose lists are their own -/
def tAsgF (te : TE) (i : Nat) : TS := tAsg te (gName i)
theorem ps_own {X : Cx} {st : Stmt} {te : TE} {i : Nat} (h : PS X st (tAsg te (gName i))) : PS X st (tAsgF te i) := h
def tRetF (te : TE) : TS := tRet te
theorem ps_retF {X : Cx} {st : Stmt} {te : TE} (h : PS X st (tRet te)) : PS X st (tRetF te) := h
section
variable {c : Cn} {q : List Sl} {P : D → Prop} {ta te : TE} {F : Fn} {g : TG}
theorem ws_own {i : Nat} (hl : i < q.length) (h : wpF c te q fun ds => ∀ a, F.nx (q.set i (.own a ds))) : wpS c (tAsgF te i) q F := ws_asgF hl h
theorem ws_retO (i : Nat) (hl : i < q.length) (h : wpF c te q fun ds => ∀ a, F.rt (q.set i (.own a ds)) (.adr a)) : wpS c (tRetF te) q F := ws_retF hl h
end
theorem cut_one (ds : List D) : cutD ds none (some 1) = ds.take 1 := by
  unfold cutD
  cases ds with
  | nil => rfl
  | cons x r => simp [HT.sIx]
end Dz

set_option Elab.async false
set_option linter.all false
namespace Dz
open L2 PySem PyProof.Rows PySem.Spec
/-! ### the end: facts of the top, one by one -/
section
variable {K : PySem.W.Frag} {h : Heap} {mg : Str → Option Value} {Goal : Prop}
theorem def_elim {x : Str} {st : Stmt} {f : Addr} {oc kV doc pm cdv ct : Value} {od an : Option Addr} {osl : Array (Option Value)} (X : K.In h) (G : h.Ns mainGlobals mg)
    (a : PySem.W.nsIn K mainGlobals x = some (some (.ref f)))
    (l : K.lookup f = some ⟨oc, od, .func (PySem.W.fnOf x x (defArgs st) (defBody st) (defScope st) .none kV doc pm an cdv ct), osl⟩)
    (c : PySem.W.codeIn K cdv x = true) (k : PySem.W.keepIn K (.ref f) = true)
    (go : ∀ f fd, mg x = some (.ref f) → PySem.W.keepIn K (.ref f) = true → Fun K x x st f fd → Goal) : Goal :=
  go _ _ (PySem.W.mg_of X G a) k (fun_mk l c k)
theorem defD_elim {x : Str} {st : Stmt} {f T : Addr} {oc ot kV doc pm cdv ct : Value} {od odt an : Option Addr} {osl slt : Array (Option Value)} {its : List Value} {n : Nat} {dvs : List V} (X : K.In h) (G : h.Ns mainGlobals mg)
    (a : PySem.W.nsIn K mainGlobals x = some (some (.ref f)))
    (l : K.lookup f = some ⟨oc, od, .func (PySem.W.fnOf x x (defArgs st) (defBody st) (defScope st) (.ref T) kV doc pm an cdv ct), osl⟩)
    (c : PySem.W.codeIn K cdv x = true) (k : PySem.W.keepIn K (.ref f) = true)
    (t : K.lookup T = some ⟨ot, odt, .seq its.toArray n, slt⟩) (v : Vals dvs its) (hd : dvs ≠ [])
    (go : ∀ f fd, mg x = some (.ref f) → PySem.W.keepIn K (.ref f) = true → FunD K x x (defArgs st) (defBody st) (defScope st) dvs [] f fd → Goal) : Goal :=
  go _ _ (PySem.W.mg_of X G a) k ⟨⟨oc, od, .ref T, kV, doc, pm, an, cdv, ct, osl, rfl, l, c, .inr ⟨hd, T, _, its, n, rfl, t, rfl, v⟩, .inl rfl⟩, k⟩
theorem const_elim {x : Str} {a : Addr} {od : Option Addr} {sl : Array (Option Value)} {its : List Value} {n : Nat} {xs : List V} (X : K.In h) (G : h.Ns mainGlobals mg)
    (c : PySem.W.nsIn K mainGlobals x = some (some (.ref a))) (l : K.lookup a = some ⟨.type "tuple", od, .seq its.toArray n, sl⟩) (v : Vals xs its) (hs : xs.all scaV = true) (hz : xs.length ≤ 1000)
    (go : ∀ a, mg x = some (.ref a) → (∀ G, Is K G (.tup (xs.map dOf)) (.ref a)) → Goal) : Goal :=
  go a (PySem.W.mg_of X G c) fun G => ⟨a, xs, rfl, .inr ⟨_, its.toArray, n, l, rfl, rfl, by rw [List.size_toArray, ← v.length]; exact Nat.le_trans hz (by decide), v⟩, isDef hs⟩
theorem exm_at {A B : Addr} {r : Bool} (b : PySem.W.subIn K (.ref B) (.type "BaseException") = some true) (i : PySem.W.isClsIn K B = true) (t : PySem.W.typeIn K (.ref B) = some (.type "type")) (s : PySem.W.subIn K (.ref A) (.ref B) = some r) :
    PySem.W.exmOne K (.ref A) (.ref B) = some r := by
  have e1 : (PySem.W.subIn K (.ref B) (.type "BaseException") == some true) = true := by rw [b] <;> rfl
  have e2 : ((PySem.W.clsIn K B).isSome && PySem.W.typeIn K (.ref B) == some (.type "type")) = true := by
    have i' : (PySem.W.clsIn K B).isSome = true := i
    rw [i', t] <;> rfl
  show (if (PySem.W.subIn K (.ref B) (.type "BaseException") == some true) = true then (if ((PySem.W.clsIn K B).isSome && PySem.W.typeIn K (.ref B) == some (.type "type")) = true then PySem.W.subIn K (.ref A) (.ref B) else none) else none) = some r
  rw [if_pos e1, if_pos e2]
  exact s
/-- a class of errors: what the top says of it -/
theorem oex_at {C : Addr} {nm q : Str} {N : Addr} {bs bm : List Value} {sn : List Str} {sub : List Value} {ab : Bool} {col : Option Bool} {dd : Option Addr} {m0 m1 m2 m3 m5 : Option Value}
    (x : K.lookup C = some (excClassObj nm q C N bs bm true sn sub ab col dd m0 m1 m2 m3 m5 "ValueError.__new__")) (b : PySem.HandSPX.refsVE bm = true)
    (sa : PySem.W.findIn K (.ref C) "__setattr__" = some (some (.builtin "object.__setattr__"))) (ex : PySem.W.subIn K (.ref C) (.type "BaseException") = some true)
    (t : PySem.W.typeIn K (.ref C) = some (.type "type")) (k : PySem.W.keepIn K (.ref C) = true) : OexC K C :=
  ⟨⟨nm, q, N, bs, bm, sn, sub, ab, col, dd, m0, m1, m2, m3, m5, x, b⟩, sa, ex, t, k⟩
theorem valsI {vs : List V} {us : List Value} (hv : Vals vs us) (i : Nat) : Vals vs[i]?.toList us[i]?.toList := by
  induction hv generalizing i with
  | nil => simp; exact .nil
  | cons h t ih =>
    cases i with
    | zero => exact .cons h .nil
    | succ i => exact ih i
theorem law_binds {x : Str} {st : Stmt} {f : Addr} {fd : FuncData} {p : Str} (F : Fun K x x st f fd)
    (h : ∀ (kV doc pm : Value) (an : Option Addr) (cdv ct u : Value), bindArgs (PySem.W.fnOf x x (defArgs st) (defBody st) (defScope st) .none kV doc pm an cdv ct) ⟨[u], []⟩ = pure [(p, u)]) (s : Shared) (u : Value) : BindsTo s fd ⟨[u], []⟩ [(p, u)] := by
  obtain ⟨_, _, kV, doc, pm, an, cdv, ct, _, rfl, _⟩ := F.ex
  exact .of_eq (h kV doc pm an cdv ct u)
end
theorem isInts {K : PySem.W.Frag} {G : Hp} : ∀ ns : List Int, IsL K G (ns.map D.int) (ns.map V.int)
  | [] => rfl
  | n :: r => ⟨_, _, rfl, rfl, isInts r⟩
/-- the script, as the law's def gets it -/
theorem spLaw_of {K : PySem.W.Frag} {H : Hp} {a : Addr} {ns : List Int} (hl : ns.length ≤ 63) (hS : SqL K H a (ns.map V.int)) {E : XK} : spLaw K [.ref a] H (fun v _ => v = .bl true) E :=
  ⟨H, ns, ⟨Ex.refl H, fun _ m => m.elim, fun _ m => m.elim, trivial⟩, ⟨_, [], rfl, ⟨a, ns.map V.int, rfl, hS, isInts ns⟩, rfl⟩, hl, fun _ => rfl⟩
end Dz

set_option Elab.async false
set_option linter.all false
set_option maxRecDepth 100000
set_option maxHeartbeats 3999999
namespace K01
open L2 PySem PyProof.Rows PySem.Spec Dz
def g_is_whole_1_high {α : Type} (us ds ws : List α) : List α := us[0]?.toList ++ ds[0]?.toList ++ ws[0]?.toList
def g_is_whole_1_low_high {α : Type} (us ds ws : List α) : List α := us[0]?.toList ++ ws[0]?.toList ++ ws[1]?.toList
def g_make_ratio_1_bottom {α : Type} (us ds ws : List α) : List α := us[0]?.toList ++ ws[0]?.toList
def topS (i : Nat) : Stmt := PySem.Challenge.pw_tautparcel_k01_whole_ratios_in_lowest_te.main.body.getD i (.Pass ⟨0, 0, 0, 0⟩)
abbrev s_is_whole : Stmt := topS 8
abbrev s_is_sequence : Stmt := topS 9
abbrev s_is_ratio : Stmt := topS 10
abbrev s_make_ratio : Stmt := topS 11
abbrev s_lowest : Stmt := topS 12
abbrev s_plus : Stmt := topS 13
abbrev s_minus : Stmt := topS 14
abbrev s_times : Stmt := topS 15
abbrev s_over : Stmt := topS 16
abbrev s_negative : Stmt := topS 17
abbrev s_compare : Stmt := topS 18
abbrev s_sum_of : Stmt := topS 19
abbrev s_least_of : Stmt := topS 20
abbrev s_greatest_of : Stmt := topS 21
abbrev s_floor_of : Stmt := topS 22
abbrev s_broken_of : Stmt := topS 23
abbrev s__law_hand : Stmt := topS 25
abbrev s__law_mixed : Stmt := topS 26
abbrev s__law_take : Stmt := topS 27
abbrev s__law_common : Stmt := topS 28
abbrev s__law_ratio : Stmt := topS 29
abbrev s__law_tuples : Stmt := topS 30
abbrev s__law_drawn : Stmt := topS 31
abbrev s__law_made : Stmt := topS 32
abbrev s__law_parted : Stmt := topS 33
abbrev s__law_signed : Stmt := topS 34
abbrev s__law_pair : Stmt := topS 35
abbrev s__law_rows : Stmt := topS 36
abbrev s__law_odd_ones : Stmt := topS 37
abbrev s_law : Stmt := topS 38
abbrev s_BadRatio___init__ : Stmt := inClass (topS 3) 0
theorem sc_is_whole : FnScope ["thing", "low", "high"] ["thing", "low", "high"] (defScope s_is_whole) := ⟨rfl, rfl, rfl, by decide +kernel, rfl, by decide +kernel, by decide +kernel⟩
theorem sc_is_sequence : FnScope ["thing", "low", "high"] ["thing", "low", "high"] (defScope s_is_sequence) := ⟨rfl, rfl, rfl, by decide +kernel, rfl, by decide +kernel, by decide +kernel⟩
theorem sc_is_ratio : FnScope ["thing", "top", "bottom"] ["thing"] (defScope s_is_ratio) := ⟨rfl, rfl, rfl, by decide +kernel, rfl, by decide +kernel, by decide +kernel⟩
theorem sc_make_ratio : FnScope ["top", "bottom"] ["top", "bottom"] (defScope s_make_ratio) := ⟨rfl, rfl, rfl, by decide +kernel, rfl, by decide +kernel, by decide +kernel⟩
theorem sc_lowest : FnScope ["top", "bottom", "common"] ["top", "bottom"] (defScope s_lowest) := ⟨rfl, rfl, rfl, by decide +kernel, rfl, by decide +kernel, by decide +kernel⟩
theorem sc_plus : FnScope ["one", "other"] ["one", "other"] (defScope s_plus) := ⟨rfl, rfl, rfl, by decide +kernel, rfl, by decide +kernel, by decide +kernel⟩
theorem sc_minus : FnScope ["one", "other"] ["one", "other"] (defScope s_minus) := ⟨rfl, rfl, rfl, by decide +kernel, rfl, by decide +kernel, by decide +kernel⟩
theorem sc_times : FnScope ["one", "other"] ["one", "other"] (defScope s_times) := ⟨rfl, rfl, rfl, by decide +kernel, rfl, by decide +kernel, by decide +kernel⟩
theorem sc_over : FnScope ["one", "other"] ["one", "other"] (defScope s_over) := ⟨rfl, rfl, rfl, by decide +kernel, rfl, by decide +kernel, by decide +kernel⟩
theorem sc_negative : FnScope ["one"] ["one"] (defScope s_negative) := ⟨rfl, rfl, rfl, by decide +kernel, rfl, by decide +kernel, by decide +kernel⟩
theorem sc_compare : FnScope ["one", "other", "left", "right"] ["one", "other"] (defScope s_compare) := ⟨rfl, rfl, rfl, by decide +kernel, rfl, by decide +kernel, by decide +kernel⟩
theorem sc_sum_of : FnScope ["ratios", "total", "ratio"] ["ratios"] (defScope s_sum_of) := ⟨rfl, rfl, rfl, by decide +kernel, rfl, by decide +kernel, by decide +kernel⟩
theorem sc_least_of : FnScope ["ratios", "best", "ratio"] ["ratios"] (defScope s_least_of) := ⟨rfl, rfl, rfl, by decide +kernel, rfl, by decide +kernel, by decide +kernel⟩
theorem sc_greatest_of : FnScope ["ratios", "best", "ratio"] ["ratios"] (defScope s_greatest_of) := ⟨rfl, rfl, rfl, by decide +kernel, rfl, by decide +kernel, by decide +kernel⟩
theorem sc_floor_of : FnScope ["one"] ["one"] (defScope s_floor_of) := ⟨rfl, rfl, rfl, by decide +kernel, rfl, by decide +kernel, by decide +kernel⟩
theorem sc_broken_of : FnScope ["one"] ["one"] (defScope s_broken_of) := ⟨rfl, rfl, rfl, by decide +kernel, rfl, by decide +kernel, by decide +kernel⟩
theorem sc__law_hand : FnScope ["_law_script", "_law_total", "_law_cells", "_law_cell"] ["_law_script"] (defScope s__law_hand) := ⟨rfl, rfl, rfl, by decide +kernel, rfl, by decide +kernel, by decide +kernel⟩
theorem sc__law_mixed : FnScope ["_law_number", "_law_turn", "_law_once", "_law_twice"] ["_law_number", "_law_turn"] (defScope s__law_mixed) := ⟨rfl, rfl, rfl, by decide +kernel, rfl, by decide +kernel, by decide +kernel⟩
theorem sc__law_take : FnScope ["_law_hand_here", "_law_many", "_law_cell", "_law_rest"] ["_law_hand_here", "_law_many"] (defScope s__law_take) := ⟨rfl, rfl, rfl, by decide +kernel, rfl, by decide +kernel, by decide +kernel⟩
theorem sc__law_common : FnScope ["_law_one", "_law_other"] ["_law_one", "_law_other"] (defScope s__law_common) := ⟨rfl, rfl, rfl, by decide +kernel, rfl, by decide +kernel, by decide +kernel⟩
theorem sc__law_ratio : FnScope ["_law_top", "_law_bottom", "_law_common_here"] ["_law_top", "_law_bottom"] (defScope s__law_ratio) := ⟨rfl, rfl, rfl, by decide +kernel, rfl, by decide +kernel, by decide +kernel⟩
theorem sc__law_tuples : FnScope ["_law_thing", "_law_item"] ["_law_thing"] (defScope s__law_tuples) := ⟨rfl, rfl, rfl, by decide +kernel, rfl, by decide +kernel, by decide +kernel⟩
theorem sc__law_drawn : FnScope ["_law_hand_here"] ["_law_hand_here"] (defScope s__law_drawn) := ⟨rfl, rfl, rfl, by decide +kernel, rfl, by decide +kernel, by decide +kernel⟩
theorem sc__law_made : FnScope ["_law_top", "_law_bottom", "_law_found", "raised"] ["_law_top", "_law_bottom"] (defScope s__law_made) := ⟨rfl, rfl, rfl, by decide +kernel, rfl, by decide +kernel, by decide +kernel⟩
theorem sc__law_parted : FnScope ["_law_one", "_law_other", "_law_found", "raised"] ["_law_one", "_law_other"] (defScope s__law_parted) := ⟨rfl, rfl, rfl, by decide +kernel, rfl, by decide +kernel, by decide +kernel⟩
theorem sc__law_signed : FnScope ["_law_top", "_law_bottom"] ["_law_top", "_law_bottom"] (defScope s__law_signed) := ⟨rfl, rfl, rfl, by decide +kernel, rfl, by decide +kernel, by decide +kernel⟩
theorem sc__law_pair : FnScope ["_law_one", "_law_other", "_law_a", "_law_b", "_law_c", "_law_d", "_law_due", "_law_order", "_law_found", "_law_whole"] ["_law_one", "_law_other"] (defScope s__law_pair) := ⟨rfl, rfl, rfl, by decide +kernel, rfl, by decide +kernel, by decide +kernel⟩
theorem sc__law_rows : FnScope ["_law_rows_here", "_law_total", "_law_low", "_law_high", "_law_one", "_law_kept"] ["_law_rows_here"] (defScope s__law_rows) := ⟨rfl, rfl, rfl, by decide +kernel, rfl, by decide +kernel, by decide +kernel⟩
theorem sc__law_odd_ones : FnScope ["_law_hand_here", "_law_one", "_law_a", "_law_b", "_law_size", "_law_low", "_law_odd"] ["_law_hand_here", "_law_one"] (defScope s__law_odd_ones) := ⟨rfl, rfl, rfl, by decide +kernel, rfl, by decide +kernel, by decide +kernel⟩
theorem sc_law : FnScope ["_law_script", "_law_hand_here", "_law_one", "_law_other", "_law_size", "_law_due", "_law_rows_here", "_law_turn"] ["_law_script"] (defScope s_law) := ⟨rfl, rfl, rfl, by decide +kernel, rfl, by decide +kernel, by decide +kernel⟩
theorem sc_BadRatio___init__ : FnScope ["self", "what"] ["self", "what"] (defScope s_BadRatio___init__) := ⟨rfl, rfl, rfl, by decide +kernel, rfl, by decide +kernel, by decide +kernel⟩
/-- where things stand -/
structure Ad where
  ZERO : Addr
  ONE : Addr
  HALF : Addr
  ParcelError : Addr
  BadRatio : Addr
  BadRatio___init__ : Addr
  fd_BadRatio___init__ : FuncData
  f_is_whole : Addr
  fd_is_whole : FuncData
  f_is_sequence : Addr
  fd_is_sequence : FuncData
  f_is_ratio : Addr
  fd_is_ratio : FuncData
  f_make_ratio : Addr
  fd_make_ratio : FuncData
  f_lowest : Addr
  fd_lowest : FuncData
  f_plus : Addr
  fd_plus : FuncData
  f_minus : Addr
  fd_minus : FuncData
  f_times : Addr
  fd_times : FuncData
  f_over : Addr
  fd_over : FuncData
  f_negative : Addr
  fd_negative : FuncData
  f_compare : Addr
  fd_compare : FuncData
  f_sum_of : Addr
  fd_sum_of : FuncData
  f_least_of : Addr
  fd_least_of : FuncData
  f_greatest_of : Addr
  fd_greatest_of : FuncData
  f_floor_of : Addr
  fd_floor_of : FuncData
  f_broken_of : Addr
  fd_broken_of : FuncData
  f__law_hand : Addr
  fd__law_hand : FuncData
  f__law_mixed : Addr
  fd__law_mixed : FuncData
  f__law_take : Addr
  fd__law_take : FuncData
  f__law_common : Addr
  fd__law_common : FuncData
  f__law_ratio : Addr
  fd__law_ratio : FuncData
  f__law_tuples : Addr
  fd__law_tuples : FuncData
  f__law_drawn : Addr
  fd__law_drawn : FuncData
  f__law_made : Addr
  fd__law_made : FuncData
  f__law_parted : Addr
  fd__law_parted : FuncData
  f__law_signed : Addr
  fd__law_signed : FuncData
  f__law_pair : Addr
  fd__law_pair : FuncData
  f__law_rows : Addr
  fd__law_rows : FuncData
  f__law_odd_ones : Addr
  fd__law_odd_ones : FuncData
  f_law : Addr
  fd_law : FuncData
/-- what the top has left -/
structure Txt (K : PySem.W.Frag) (mg : Str → Option Value) (ad : Ad) : Prop where
  b_tuple : mg "tuple" = none
  b_abs : mg "abs" = none
  b_isinstance : mg "isinstance" = none
  b_bool : mg "bool" = none
  b_int : mg "int" = none
  b_list : mg "list" = none
  b_len : mg "len" = none
  b_range : mg "range" = none
  m_gcd : mg "gcd" = some (.builtin "math.gcd")
  m_ZERO : mg "ZERO" = some (.ref ad.ZERO)
  i_ZERO : ∀ G, Is K G (.tup [(.int 0), (.int 1)]) (.ref ad.ZERO)
  m_ONE : mg "ONE" = some (.ref ad.ONE)
  i_ONE : ∀ G, Is K G (.tup [(.int 1), (.int 1)]) (.ref ad.ONE)
  m_HALF : mg "HALF" = some (.ref ad.HALF)
  i_HALF : ∀ G, Is K G (.tup [(.int 1), (.int 2)]) (.ref ad.HALF)
  m_ParcelError : mg "ParcelError" = some (.ref ad.ParcelError)
  m_BadRatio : mg "BadRatio" = some (.ref ad.BadRatio)
  o_BadRatio : OexC K ad.BadRatio
  i_BadRatio : PySem.W.findIn K (.ref ad.BadRatio) "__init__" = some (some (.ref ad.BadRatio___init__))
  t_BadRatio : PySem.W.typeIn K (.ref ad.BadRatio___init__) = some (.type "function")
  F_BadRatio___init__ : Fun K "__init__" "BadRatio.__init__" s_BadRatio___init__ ad.BadRatio___init__ ad.fd_BadRatio___init__
  bi_BadRatio : L2.Binds K ad.fd_BadRatio___init__ ["self", "what"] []
  x_BadRatio : XfC K ad.BadRatio
  xn_BadRatio_what : PySem.W.findIn K (.ref ad.BadRatio) "what" = some none
  e_BadRatio_BadRatio : PySem.W.exmOne K (.ref ad.BadRatio) (.ref ad.BadRatio) = some true
  e_BadRatio_ParcelError : PySem.W.exmOne K (.ref ad.BadRatio) (.ref ad.ParcelError) = some true
  m_is_whole : mg "is_whole" = some (.ref ad.f_is_whole)
  k_is_whole : PySem.W.keepIn K (.ref ad.f_is_whole) = true
  F_is_whole : FunD K "is_whole" "is_whole" (defArgs s_is_whole) (defBody s_is_whole) (defScope s_is_whole) [.non, .non] [] ad.f_is_whole ad.fd_is_whole
  m_is_sequence : mg "is_sequence" = some (.ref ad.f_is_sequence)
  k_is_sequence : PySem.W.keepIn K (.ref ad.f_is_sequence) = true
  F_is_sequence : Fun K "is_sequence" "is_sequence" s_is_sequence ad.f_is_sequence ad.fd_is_sequence
  b_is_sequence : L2.Binds K ad.fd_is_sequence ["thing", "low", "high"] []
  m_is_ratio : mg "is_ratio" = some (.ref ad.f_is_ratio)
  k_is_ratio : PySem.W.keepIn K (.ref ad.f_is_ratio) = true
  F_is_ratio : Fun K "is_ratio" "is_ratio" s_is_ratio ad.f_is_ratio ad.fd_is_ratio
  b_is_ratio : L2.Binds K ad.fd_is_ratio ["thing"] []
  m_make_ratio : mg "make_ratio" = some (.ref ad.f_make_ratio)
  k_make_ratio : PySem.W.keepIn K (.ref ad.f_make_ratio) = true
  F_make_ratio : FunD K "make_ratio" "make_ratio" (defArgs s_make_ratio) (defBody s_make_ratio) (defScope s_make_ratio) [.int 1] [] ad.f_make_ratio ad.fd_make_ratio
  m_lowest : mg "lowest" = some (.ref ad.f_lowest)
  k_lowest : PySem.W.keepIn K (.ref ad.f_lowest) = true
  F_lowest : Fun K "lowest" "lowest" s_lowest ad.f_lowest ad.fd_lowest
  b_lowest : L2.Binds K ad.fd_lowest ["top", "bottom"] []
  m_plus : mg "plus" = some (.ref ad.f_plus)
  k_plus : PySem.W.keepIn K (.ref ad.f_plus) = true
  F_plus : Fun K "plus" "plus" s_plus ad.f_plus ad.fd_plus
  b_plus : L2.Binds K ad.fd_plus ["one", "other"] []
  m_minus : mg "minus" = some (.ref ad.f_minus)
  k_minus : PySem.W.keepIn K (.ref ad.f_minus) = true
  F_minus : Fun K "minus" "minus" s_minus ad.f_minus ad.fd_minus
  b_minus : L2.Binds K ad.fd_minus ["one", "other"] []
  m_times : mg "times" = some (.ref ad.f_times)
  k_times : PySem.W.keepIn K (.ref ad.f_times) = true
  F_times : Fun K "times" "times" s_times ad.f_times ad.fd_times
  b_times : L2.Binds K ad.fd_times ["one", "other"] []
  m_over : mg "over" = some (.ref ad.f_over)
  k_over : PySem.W.keepIn K (.ref ad.f_over) = true
  F_over : Fun K "over" "over" s_over ad.f_over ad.fd_over
  b_over : L2.Binds K ad.fd_over ["one", "other"] []
  m_negative : mg "negative" = some (.ref ad.f_negative)
  k_negative : PySem.W.keepIn K (.ref ad.f_negative) = true
  F_negative : Fun K "negative" "negative" s_negative ad.f_negative ad.fd_negative
  b_negative : L2.Binds K ad.fd_negative ["one"] []
  m_compare : mg "compare" = some (.ref ad.f_compare)
  k_compare : PySem.W.keepIn K (.ref ad.f_compare) = true
  F_compare : Fun K "compare" "compare" s_compare ad.f_compare ad.fd_compare
  b_compare : L2.Binds K ad.fd_compare ["one", "other"] []
  m_sum_of : mg "sum_of" = some (.ref ad.f_sum_of)
  k_sum_of : PySem.W.keepIn K (.ref ad.f_sum_of) = true
  F_sum_of : Fun K "sum_of" "sum_of" s_sum_of ad.f_sum_of ad.fd_sum_of
  b_sum_of : L2.Binds K ad.fd_sum_of ["ratios"] []
  m_least_of : mg "least_of" = some (.ref ad.f_least_of)
  k_least_of : PySem.W.keepIn K (.ref ad.f_least_of) = true
  F_least_of : Fun K "least_of" "least_of" s_least_of ad.f_least_of ad.fd_least_of
  b_least_of : L2.Binds K ad.fd_least_of ["ratios"] []
  m_greatest_of : mg "greatest_of" = some (.ref ad.f_greatest_of)
  k_greatest_of : PySem.W.keepIn K (.ref ad.f_greatest_of) = true
  F_greatest_of : Fun K "greatest_of" "greatest_of" s_greatest_of ad.f_greatest_of ad.fd_greatest_of
  b_greatest_of : L2.Binds K ad.fd_greatest_of ["ratios"] []
  m_floor_of : mg "floor_of" = some (.ref ad.f_floor_of)
  k_floor_of : PySem.W.keepIn K (.ref ad.f_floor_of) = true
  F_floor_of : Fun K "floor_of" "floor_of" s_floor_of ad.f_floor_of ad.fd_floor_of
  b_floor_of : L2.Binds K ad.fd_floor_of ["one"] []
  m_broken_of : mg "broken_of" = some (.ref ad.f_broken_of)
  k_broken_of : PySem.W.keepIn K (.ref ad.f_broken_of) = true
  F_broken_of : Fun K "broken_of" "broken_of" s_broken_of ad.f_broken_of ad.fd_broken_of
  b_broken_of : L2.Binds K ad.fd_broken_of ["one"] []
  m__law_hand : mg "_law_hand" = some (.ref ad.f__law_hand)
  k__law_hand : PySem.W.keepIn K (.ref ad.f__law_hand) = true
  F__law_hand : Fun K "_law_hand" "_law_hand" s__law_hand ad.f__law_hand ad.fd__law_hand
  b__law_hand : L2.Binds K ad.fd__law_hand ["_law_script"] []
  m__law_mixed : mg "_law_mixed" = some (.ref ad.f__law_mixed)
  k__law_mixed : PySem.W.keepIn K (.ref ad.f__law_mixed) = true
  F__law_mixed : Fun K "_law_mixed" "_law_mixed" s__law_mixed ad.f__law_mixed ad.fd__law_mixed
  b__law_mixed : L2.Binds K ad.fd__law_mixed ["_law_number", "_law_turn"] []
  m__law_take : mg "_law_take" = some (.ref ad.f__law_take)
  k__law_take : PySem.W.keepIn K (.ref ad.f__law_take) = true
  F__law_take : Fun K "_law_take" "_law_take" s__law_take ad.f__law_take ad.fd__law_take
  b__law_take : L2.Binds K ad.fd__law_take ["_law_hand_here", "_law_many"] []
  m__law_common : mg "_law_common" = some (.ref ad.f__law_common)
  k__law_common : PySem.W.keepIn K (.ref ad.f__law_common) = true
  F__law_common : Fun K "_law_common" "_law_common" s__law_common ad.f__law_common ad.fd__law_common
  b__law_common : L2.Binds K ad.fd__law_common ["_law_one", "_law_other"] []
  m__law_ratio : mg "_law_ratio" = some (.ref ad.f__law_ratio)
  k__law_ratio : PySem.W.keepIn K (.ref ad.f__law_ratio) = true
  F__law_ratio : Fun K "_law_ratio" "_law_ratio" s__law_ratio ad.f__law_ratio ad.fd__law_ratio
  b__law_ratio : L2.Binds K ad.fd__law_ratio ["_law_top", "_law_bottom"] []
  m__law_tuples : mg "_law_tuples" = some (.ref ad.f__law_tuples)
  k__law_tuples : PySem.W.keepIn K (.ref ad.f__law_tuples) = true
  F__law_tuples : Fun K "_law_tuples" "_law_tuples" s__law_tuples ad.f__law_tuples ad.fd__law_tuples
  b__law_tuples : L2.Binds K ad.fd__law_tuples ["_law_thing"] []
  m__law_drawn : mg "_law_drawn" = some (.ref ad.f__law_drawn)
  k__law_drawn : PySem.W.keepIn K (.ref ad.f__law_drawn) = true
  F__law_drawn : Fun K "_law_drawn" "_law_drawn" s__law_drawn ad.f__law_drawn ad.fd__law_drawn
  b__law_drawn : L2.Binds K ad.fd__law_drawn ["_law_hand_here"] []
  m__law_made : mg "_law_made" = some (.ref ad.f__law_made)
  k__law_made : PySem.W.keepIn K (.ref ad.f__law_made) = true
  F__law_made : Fun K "_law_made" "_law_made" s__law_made ad.f__law_made ad.fd__law_made
  b__law_made : L2.Binds K ad.fd__law_made ["_law_top", "_law_bottom"] []
  m__law_parted : mg "_law_parted" = some (.ref ad.f__law_parted)
  k__law_parted : PySem.W.keepIn K (.ref ad.f__law_parted) = true
  F__law_parted : Fun K "_law_parted" "_law_parted" s__law_parted ad.f__law_parted ad.fd__law_parted
  b__law_parted : L2.Binds K ad.fd__law_parted ["_law_one", "_law_other"] []
  m__law_signed : mg "_law_signed" = some (.ref ad.f__law_signed)
  k__law_signed : PySem.W.keepIn K (.ref ad.f__law_signed) = true
  F__law_signed : Fun K "_law_signed" "_law_signed" s__law_signed ad.f__law_signed ad.fd__law_signed
  b__law_signed : L2.Binds K ad.fd__law_signed ["_law_top", "_law_bottom"] []
  m__law_pair : mg "_law_pair" = some (.ref ad.f__law_pair)
  k__law_pair : PySem.W.keepIn K (.ref ad.f__law_pair) = true
  F__law_pair : Fun K "_law_pair" "_law_pair" s__law_pair ad.f__law_pair ad.fd__law_pair
  b__law_pair : L2.Binds K ad.fd__law_pair ["_law_one", "_law_other"] []
  m__law_rows : mg "_law_rows" = some (.ref ad.f__law_rows)
  k__law_rows : PySem.W.keepIn K (.ref ad.f__law_rows) = true
  F__law_rows : Fun K "_law_rows" "_law_rows" s__law_rows ad.f__law_rows ad.fd__law_rows
  b__law_rows : L2.Binds K ad.fd__law_rows ["_law_rows_here"] []
  m__law_odd_ones : mg "_law_odd_ones" = some (.ref ad.f__law_odd_ones)
  k__law_odd_ones : PySem.W.keepIn K (.ref ad.f__law_odd_ones) = true
  F__law_odd_ones : Fun K "_law_odd_ones" "_law_odd_ones" s__law_odd_ones ad.f__law_odd_ones ad.fd__law_odd_ones
  b__law_odd_ones : L2.Binds K ad.fd__law_odd_ones ["_law_hand_here", "_law_one"] []
  m_law : mg "law" = some (.ref ad.f_law)
  k_law : PySem.W.keepIn K (.ref ad.f_law) = true
  F_law : Fun K "law" "law" s_law ad.f_law ad.fd_law
  b_law : L2.Binds K ad.fd_law ["_law_script"] []
  bd_is_whole_1 : ∃ ds : List Value, Vals [.non, .non] ds ∧ L2.Binds K ad.fd_is_whole ["thing", "low", "high"] ds
  bd_is_whole_2 : ∃ ds : List Value, Vals [.non] ds ∧ L2.Binds K ad.fd_is_whole ["thing", "low", "high"] ds
  bd_make_ratio_2 : ∃ ds : List Value, Vals [] ds ∧ L2.Binds K ad.fd_make_ratio ["top", "bottom"] ds
  bd_is_whole_3 : ∃ ds : List Value, Vals [] ds ∧ L2.Binds K ad.fd_is_whole ["thing", "low", "high"] ds
  kb_is_whole_1_high : ∃ its : List Value, KBn K ad.fd_is_whole ["thing", "low", "high"] 1 ["high"] (fun us ws => g_is_whole_1_high us its ws) (fun us ws => g_is_whole_1_high us [.non, .non] ws)
  kb_is_whole_1_low_high : ∃ its : List Value, KBn K ad.fd_is_whole ["thing", "low", "high"] 1 ["low", "high"] (fun us ws => g_is_whole_1_low_high us its ws) (fun us ws => g_is_whole_1_low_high us [.non, .non] ws)
  kb_make_ratio_1_bottom : ∃ its : List Value, KBn K ad.fd_make_ratio ["top", "bottom"] 1 ["bottom"] (fun us ws => g_make_ratio_1_bottom us its ws) (fun us ws => g_make_ratio_1_bottom us [.int 1] ws)
  bd_make_ratio_1 : ∃ ds : List Value, Vals [.int 1] ds ∧ L2.Binds K ad.fd_make_ratio ["top", "bottom"] ds
end K01

set_option Elab.async false
set_option linter.all false
set_option maxRecDepth 100000
set_option maxHeartbeats 3999999
namespace K01
open L2 PySem PyProof.Rows PySem.Spec Dz
local macro_rules | `(tactic| walk_at "dzk") => `(tactic| first
  | exact kit_NoneType_bool
  | exact kit_NoneType_int
  | exact kit_NoneType_str
  | exact kit_NoneType_tuple
  | exact kit_NoneType_list
  | exact kit_bool_bool
  | exact kit_bool_int
  | exact kit_bool_str
  | exact kit_bool_tuple
  | exact kit_bool_list
  | exact kit_int_bool
  | exact kit_int_int
  | exact kit_int_str
  | exact kit_int_tuple
  | exact kit_int_list
  | exact kit_str_bool
  | exact kit_str_int
  | exact kit_str_str
  | exact kit_str_tuple
  | exact kit_str_list
  | exact kit_tuple_bool
  | exact kit_tuple_int
  | exact kit_tuple_str
  | exact kit_tuple_tuple
  | exact kit_tuple_list
  | exact kit_list_bool
  | exact kit_list_int
  | exact kit_list_str
  | exact kit_list_tuple
  | exact kit_list_list)
local macro_rules | `(tactic| walk_at "dz!") => `(tactic| first
  | rfl | assumption | decide | (simp only [List.length_cons, List.length_nil, List.length_set]; omega) | (simp; done))
local macro_rules | `(tactic| walk_at "dz") => `(tactic| first
  | with_reducible refine ws_seq ?_
  | with_reducible refine ws_next ?_
  | with_reducible refine ws_ret ?_
  | with_reducible refine ws_retN ?_
  | with_reducible refine ws_if ?_
  | with_reducible refine ws_setO rfl ?_
  | with_reducible refine ws_asg ?_
  | with_reducible refine ws_par ?_
  | ((with_reducible refine wg_name ?_ ?_); (focus walk_at "dz!"))
  | with_reducible refine wg_tup (by with_unfolding_all rfl) ?_
  | with_reducible refine wg_lst (by with_unfolding_all rfl) ?_
  | with_reducible refine wg_cons ?_
  | with_reducible refine wg_nil ?_
  | (with_reducible refine wp_var rfl ?_)
  | with_reducible refine wp_int ?_
  | with_reducible refine wp_bl ?_
  | with_reducible refine wp_str ?_
  | with_reducible refine wp_non ?_
  | with_reducible refine wp_ref (by assumption) ?_
  | with_reducible refine wp_ty ?_
  | with_reducible refine wp_ixO rfl ?_
  | with_reducible refine wp_op ?_
  | with_reducible refine wp_un ?_
  | with_reducible refine wp_if ?_
  | with_reducible refine wp_andV ?_
  | with_reducible refine wp_orV ?_
  | with_reducible refine wp_notV ?_
  | with_reducible refine wp_notT ?_
  | with_reducible refine wp_isN ?_
  | with_reducible refine wp_notN ?_
  | with_reducible refine wp_nil ?_
  | with_reducible refine wp_cons ?_
  | with_reducible refine wp_tup ?_
  | with_reducible refine wp_lst ?_
  | ((with_reducible refine wp_isi2 ?_); dsimp only)
  | with_reducible refine wp_lenO rfl ?_
  | with_reducible refine wp_tupO rfl ?_
  | with_reducible refine wp_cb ?_
  | ((with_reducible refine wp_call0 rfl ?_); dsimp only [List.map, dOf, List.nil_append, List.cons_append, List.append_nil])
  | with_reducible refine wp_chain ?_
  | with_reducible refine wt_test ?_
  | with_reducible refine wt_B ?_
  | with_reducible refine wt_and ?_
  | with_reducible refine wt_or ?_
  | with_reducible refine wt_not ?_
  | with_reducible refine wt_tru ?_
  | with_reducible refine wt_yes ?_
  | with_reducible refine od_i ?_
  | with_reducible refine od_b ?_
  | with_reducible refine od_ixT (by first | with_unfolding_all rfl | exact atI_cons0) ?_
  | with_reducible refine od_ixL (by first | with_unfolding_all rfl | exact atI_cons0) ?_
  | with_reducible refine od_eq (by with_unfolding_all rfl) (by with_unfolding_all rfl) ?_
  | with_reducible refine od_ne (by with_unfolding_all rfl) (by with_unfolding_all rfl) ?_
  | with_reducible refine od_bb ?_
  | with_reducible refine ud_neg ?_
  | with_reducible refine cb_lenT ?_
  | with_reducible refine cb_lenL ?_
  | with_reducible refine cb_abs ?_
  | with_reducible refine cb_int ?_
  | with_reducible refine cb_gcd ?_
  | with_reducible refine cb_min ?_
  | with_reducible refine cb_max ?_
  | with_reducible refine cb_listT ?_
  | with_reducible refine cb_listL ?_
  | with_reducible refine cb_tupT ?_
  | with_reducible refine cb_tupL ?_
  | with_reducible refine cb_isi (by with_unfolding_all rfl) (by walk_at "dzk") ?_
  | with_reducible refine ⟨_, _, _, (by with_unfolding_all rfl), (by walk_at "dzk"), (by walk_at "dzk"), ?_⟩
  | with_reducible refine ix_of (by with_unfolding_all rfl) ?_
  | with_reducible refine st_of (by with_unfolding_all rfl) ?_
  | with_reducible refine od_pow (by decide) ?_
  | with_reducible refine Exists.intro _ (And.intro rfl ?_))
local macro_rules | `(tactic| walk_at "dz0") => `(tactic| dsimp only [cxOf, Cx.tr, Cx.suite, Cx.nox, Cx.blk, Pm.fn, slots, List.map, List.length, List.replicate, Nat.reduceAdd, Nat.reduceSub, List.cons_append, List.nil_append, List.append_nil, dOf])
local macro_rules | `(tactic| walk_at "dzb") => `(tactic| first
  | with_reducible refine br_t ?_
  | with_reducible refine br_f ?_
  | with_reducible refine br_t2 ?_
  | with_reducible refine br_f2 ?_
  | (with_reducible refine br_d ?_ ?_ <;> intro _)
  | (with_reducible refine br_d2 ?_ ?_ <;> intro _)
  | refine br_t ?_
  | refine br_f ?_
  | refine br_t2 ?_
  | refine br_f2 ?_
  | (with_reducible refine br_b ?_ ?_ <;> intro _)
  | (with_reducible refine br_b2 ?_ ?_ <;> intro _))
local macro_rules | `(tactic| walk_at "dz*") => `(tactic| repeat' (first
  | walk_at "dz"
  | walk_at "dzb"
  | (refine And.intro (show _ ≤ 10000 by (first | decide | (simp; done))) ?_)
  | dsimp only))

variable {Pg : Program} {w : World} {K : PySem.W.Frag} {mg : Str → Option Value} {base : Heap} {ad : Ad}

/-! ### whole numbers, sequences -/
def wholeD : D → D → D → Bool
  | .int i, l, h => (match l with | .int a => decide (a ≤ i) | _ => true) && (match h with | .int b => decide (i ≤ b) | _ => true)
  | _, _, _ => false
def Opt (d : D) : Prop := d = .non ∨ ∃ a, d = .int a
def PlainI (d : D) : Prop := ∃ n, D.tyn d = some n
abbrev pm_is_whole : Pm := .f3 (fun _ d l h => PlainI d ∧ Opt l ∧ Opt h) (fun d l h r => r = .bl (wholeD d l h))
theorem ok_is_whole (T : Txt K mg ad) : FnOk Pg w K mg base (L2.CX Pg w) 1 ad.f_is_whole ad.fd_is_whole ["thing", "low", "high"] (spD K pm_is_whole) := by
  refine fn_DD T.F_is_whole sc_is_whole (fun W ds h => ?_) fun cdv A outer s E W G H ds hr o hp hx => ?_
  · obtain ⟨a, b, c, rfl, _⟩ := Pm.l3 h; rfl
  obtain ⟨d, l, h, rfl, ⟨n, hn⟩, hl, hh⟩ := Pm.l3 hp
  refine ⟨_, (pss_cons (ps_if (pw_or (pt_val (pe_callB call_isi (by rfl) T.b_isinstance (by decide +kernel) (pa_cons (pv 0) (pa_cons (pe_bltn (v := .ty "bool") (by rfl) T.b_bool (by decide +kernel) rfl) pa_nil)))) (pw_or1 (pt_not (pt_val (pe_callB call_isi (by rfl) T.b_isinstance (by decide +kernel) (pa_cons (pv 0) (pa_cons (pe_bltn (v := .ty "int") (by rfl) T.b_int (by decide +kernel) rfl) pa_nil))))))).pt (pss_one (ps_ret pe_bl)) pss_nil)
      (pss_cons (ps_if (pw_and (pt_cmp (pc_notN (pv 1))) (pw_and1 (pt_cmpR op_lt (pv 0) (pv 1) (nomark _)))).pt (pss_one (ps_ret pe_bl)) pss_nil)
      (pss_one (ps_ret (pe_or (pe_cmp (pc_isN (pv 2))) (Dz.pe_or1 (pe_cmpR op_le (pv 0) (pv 2) (nomark _)))))))), ?_⟩
  walk_at "dz0"
  cases d <;> first | cases hn | skip
  all_goals (rcases hl with rfl | ⟨a, rfl⟩ <;> rcases hh with rfl | ⟨b, rfl⟩)
  all_goals walk_at "dz*"
  all_goals refine congrArg D.bl ?_
  all_goals (simp [wholeD] <;> omega)
def seqD : D → Int → Int → Bool
  | .tup l, a, b => decide (a ≤ (l.length : Int)) && decide ((l.length : Int) ≤ b)
  | .lst l, a, b => decide (a ≤ (l.length : Int)) && decide ((l.length : Int) ≤ b)
  | _, _, _ => false
abbrev pm_is_sequence : Pm := .f3 (fun _ d l h => PlainI d ∧ ∃ a b, l = .int a ∧ h = .int b) (fun d l h r => ∃ a b, l = .int a ∧ h = .int b ∧ r = .bl (seqD d a b))
theorem ok_is_sequence (T : Txt K mg ad) : FnOk Pg w K mg base (L2.CX Pg w) 1 ad.f_is_sequence ad.fd_is_sequence ["thing", "low", "high"] (spD K pm_is_sequence) := by
  refine fn_D T.F_is_sequence sc_is_sequence (fun W ds h => ?_) fun cdv A outer s E W G H ds hr o hp hx => ?_
  · obtain ⟨a, b, c, rfl, _⟩ := Pm.l3 h; rfl
  obtain ⟨d, _, _, rfl, ⟨n, hn⟩, l, h, rfl, rfl⟩ := Pm.l3 hp
  refine ⟨_, (pss_one (ps_ret (pe_and (pe_callB call_isiT (by rfl) T.b_isinstance (by decide +kernel) (pa_cons (pv 0) (pa_cons (pe_tup (pa_cons (pe_bltn (v := .ty "list") (by rfl) T.b_list (by decide +kernel) rfl) (pa_cons (pe_bltn (v := .ty "tuple") (by rfl) T.b_tuple (by decide +kernel) rfl) pa_nil))) pa_nil))) (Dz.pe_and1 (pe_chain op_le op_le (pv 1) (pe_callB call_len_seq (by rfl) T.b_len (by decide +kernel) (pa_cons (pv 0) pa_nil)) (pv 2)))))), ?_⟩
  walk_at "dz0"
  cases d <;> first | cases hn | skip
  all_goals walk_at "dz*"
  all_goals refine ⟨_, _, rfl, rfl, congrArg D.bl ?_⟩
  all_goals (simp_all [seqD] <;> omega)
/-! ### what is a ratio -/
def Plain (d : D) : Prop := match d with
  | .tup l => ∀ x ∈ l, PlainI x
  | .lst l => ∀ x ∈ l, PlainI x
  | d => PlainI d
def ratioL : List D → Bool
  | [x, y] => wholeD x .non .non && (wholeD y (.int 1) .non && (match x, y with | .int a, .int b => decide (((Nat.gcd a.natAbs b.natAbs : Nat) : Int) = 1) | _, _ => false))
  | _ => false
def ratioD : D → Bool
  | .tup l => ratioL l
  | .lst l => ratioL l
  | _ => false
abbrev pm_is_ratio : Pm := .f1 (fun _ d => Plain d) (fun d r => r = .bl (ratioD d))
theorem Plain.tyn {d : D} (h : Plain d) : PlainI d := by
  cases d <;> first | exact ⟨_, rfl⟩ | exact h
theorem two_of (l : List D) : (∃ x y, l = [x, y]) ∨ (decide ((2 : Int) ≤ (l.length : Int)) && decide ((l.length : Int) ≤ 2)) = false := by
  match l with
  | [] => exact .inr rfl
  | [x] => exact .inr rfl
  | [x, y] => exact .inl ⟨x, y, rfl⟩
  | x :: y :: z :: r =>
    refine .inr ?_
    simp only [List.length_cons]
    have : decide (((r.length + 1 + 1 + 1 : Nat) : Int) ≤ 2) = false := decide_eq_false (by omega)
    rw [this, Bool.and_false]
theorem whole_int {d l h : D} (e : wholeD d l h = true) : ∃ i, d = .int i := by
  cases d <;> first | exact ⟨_, rfl⟩ | cases e
theorem ok_is_ratio (T : Txt K mg ad) : FnOk Pg w K mg base (L2.CX Pg w) 2 ad.f_is_ratio ad.fd_is_ratio ["thing"] (spD K pm_is_ratio) := by
  have G_is_sequence := ok_is_sequence (Pg := Pg) (w := w) (base := base) T
  have G_is_whole := ok_is_whole (Pg := Pg) (w := w) (base := base) T
  obtain ⟨_, dv_is_whole_1, bd_is_whole_1⟩ := T.bd_is_whole_1
  obtain ⟨_, dv_is_whole_2, bd_is_whole_2⟩ := T.bd_is_whole_2
  refine fn_D T.F_is_ratio sc_is_ratio (fun W ds h => ?_) fun cdv A outer s E W G H ds hr o hp hx => ?_
  · obtain ⟨a, rfl, _⟩ := Pm.l1 h; rfl
  obtain ⟨d, rfl, hp⟩ := Pm.l1 hp
  have hn := hp.tyn
  have fin : ∀ (l : List D), ratioL l = false ∨ ∃ x y, l = [x, y] := fun l => (two_of l).symm.imp (fun h => by
    match l, h with
    | [], _ => rfl
    | [_], _ => rfl
    | _ :: _ :: _ :: _, _ => rfl) id
  have bad : ∀ {l : List D} {d : D}, (d = .lst l ∨ d = .tup l) → (!seqD d 2 2) = false → ∃ x y, l = [x, y] := by
    rintro l d (rfl | rfl) h
    · exact (two_of l).resolve_right fun z => by rw [show seqD (.lst l) 2 2 = _ from z] at h; cases h
    · exact (two_of l).resolve_right fun z => by rw [show seqD (.tup l) 2 2 = _ from z] at h; cases h
  have good : ∀ {l : List D} {d : D}, (d = .lst l ∨ d = .tup l) → (!seqD d 2 2) = true → ratioL l = false := by
    intro l d e h
    match l with
    | [] => rfl
    | [_] => rfl
    | [x, y] => rcases e with rfl | rfl <;> cases h
    | _ :: _ :: _ :: _ => rfl
  cases d with
  | lst l =>
    refine ⟨_, (pss_cons (ps_if (pt_not (pt_val (pe_call G_is_sequence (hr.mono (by first | decide | exact Nat.le_refl _)) (by rfl) T.m_is_sequence T.k_is_sequence T.b_is_sequence .nil passL (pa_cons (pv 0) (pa_cons pe_int (pa_cons pe_int pa_nil)))))) (pss_one (ps_ret pe_bl)) pss_nil)
      (pss_cons (ps_asg (pv 0) (pg_lst (n := 2) rfl (pgs_cons (pg_name (i := 1) sc_is_ratio.nd rfl (by first | exact Or.inl rfl | exact Or.inr rfl)) (pgs_cons (pg_name (i := 2) sc_is_ratio.nd rfl (by first | exact Or.inl rfl | exact Or.inr rfl)) pgs_nil))))
      (pss_one (ps_ret (pe_and (pe_call G_is_whole (hr.mono (by first | decide | exact Nat.le_refl _)) (by rfl) T.m_is_whole T.k_is_whole bd_is_whole_1 dv_is_whole_1 passL (pa_cons (pv 1) pa_nil)) (pe_and (pe_call G_is_whole (hr.mono (by first | decide | exact Nat.le_refl _)) (by rfl) T.m_is_whole T.k_is_whole bd_is_whole_2 dv_is_whole_2 passL (pa_cons (pv 2) (pa_cons pe_int pa_nil))) (Dz.pe_and1 (pe_cmpR (op_eqD (Dz.hu64 hr)) (pe_callBfun cr_gcd (by rfl) T.m_gcd (pa_cons (pv 1) (pa_cons (pv 2) pa_nil))) pe_int (nomark _))))))))), ?_⟩
    walk_at "dz0"
    walk_at "dz*"
    refine ⟨⟨hn, _, _, rfl, rfl⟩, ?_, fun _ _ _ h => h⟩
    rintro _ ⟨_, _, e1, e2, rfl⟩
    cases e1; cases e2
    walk_at "dz*"
    · rename_i hs
      exact congrArg D.bl (good (.inl rfl) hs).symm
    · rename_i hs
      obtain ⟨x, y, rfl⟩ := bad (.inl rfl) hs
      have hx := hp x (by simp)
      have hy := hp y (by simp)
      walk_at "dz*"
      refine ⟨⟨hx, .inl rfl, .inl rfl⟩, ?_, fun _ _ _ h => h⟩
      rintro _ rfl
      walk_at "dz*"
      · rename_i hw
        obtain ⟨i, rfl⟩ := whole_int hw
        refine ⟨⟨hy, .inr ⟨_, rfl⟩, .inl rfl⟩, ?_, fun _ _ _ h => h⟩
        rintro _ rfl
        walk_at "dz*"
        · rename_i hv
          obtain ⟨j, rfl⟩ := whole_int hv
          walk_at "dz*"
          refine congrArg D.bl ?_
          simp [ratioD, ratioL, hw, hv, D.eqv, D.py, PyData.eqv]
          rfl
        · rename_i hv
          simp [ratioD, ratioL, hw, hv]
      · rename_i hw
        simp [ratioD, ratioL, hw]
  | tup l =>
    refine ⟨_, (pss_cons (ps_if (pt_not (pt_val (pe_call G_is_sequence (hr.mono (by first | decide | exact Nat.le_refl _)) (by rfl) T.m_is_sequence T.k_is_sequence T.b_is_sequence .nil passL (pa_cons (pv 0) (pa_cons pe_int (pa_cons pe_int pa_nil)))))) (pss_one (ps_ret pe_bl)) pss_nil)
      (pss_cons (ps_asg (pv 0) (pg_tup (n := 2) rfl (pgs_cons (pg_name (i := 1) sc_is_ratio.nd rfl (by first | exact Or.inl rfl | exact Or.inr rfl)) (pgs_cons (pg_name (i := 2) sc_is_ratio.nd rfl (by first | exact Or.inl rfl | exact Or.inr rfl)) pgs_nil))))
      (pss_one (ps_ret (pe_and (pe_call G_is_whole (hr.mono (by first | decide | exact Nat.le_refl _)) (by rfl) T.m_is_whole T.k_is_whole bd_is_whole_1 dv_is_whole_1 passL (pa_cons (pv 1) pa_nil)) (pe_and (pe_call G_is_whole (hr.mono (by first | decide | exact Nat.le_refl _)) (by rfl) T.m_is_whole T.k_is_whole bd_is_whole_2 dv_is_whole_2 passL (pa_cons (pv 2) (pa_cons pe_int pa_nil))) (Dz.pe_and1 (pe_cmpR (op_eqD (Dz.hu64 hr)) (pe_callBfun cr_gcd (by rfl) T.m_gcd (pa_cons (pv 1) (pa_cons (pv 2) pa_nil))) pe_int (nomark _))))))))), ?_⟩
    walk_at "dz0"
    walk_at "dz*"
    refine ⟨⟨hn, _, _, rfl, rfl⟩, ?_, fun _ _ _ h => h⟩
    rintro _ ⟨_, _, e1, e2, rfl⟩
    cases e1; cases e2
    walk_at "dz*"
    · rename_i hs
      exact congrArg D.bl (good (.inr rfl) hs).symm
    · rename_i hs
      obtain ⟨x, y, rfl⟩ := bad (.inr rfl) hs
      have hx := hp x (by simp)
      have hy := hp y (by simp)
      walk_at "dz*"
      refine ⟨⟨hx, .inl rfl, .inl rfl⟩, ?_, fun _ _ _ h => h⟩
      rintro _ rfl
      walk_at "dz*"
      · rename_i hw
        obtain ⟨i, rfl⟩ := whole_int hw
        refine ⟨⟨hy, .inr ⟨_, rfl⟩, .inl rfl⟩, ?_, fun _ _ _ h => h⟩
        rintro _ rfl
        walk_at "dz*"
        · rename_i hv
          obtain ⟨j, rfl⟩ := whole_int hv
          walk_at "dz*"
          refine congrArg D.bl ?_
          simp [ratioD, ratioL, hw, hv, D.eqv, D.py, PyData.eqv]
          rfl
        · rename_i hv
          simp [ratioD, ratioL, hw, hv]
      · rename_i hw
        simp [ratioD, ratioL, hw]
  | _ =>
    refine ⟨_, (pss_cons (ps_if (pt_not (pt_val (pe_call G_is_sequence (hr.mono (by first | decide | exact Nat.le_refl _)) (by rfl) T.m_is_sequence T.k_is_sequence T.b_is_sequence .nil passL (pa_cons (pv 0) (pa_cons pe_int (pa_cons pe_int pa_nil)))))) (pss_one (ps_ret pe_bl)) pss_nil)
      (pss_cons (ps_asg (pv 0) (pg_tup (n := 2) rfl (pgs_cons (pg_name (i := 1) sc_is_ratio.nd rfl (by first | exact Or.inl rfl | exact Or.inr rfl)) (pgs_cons (pg_name (i := 2) sc_is_ratio.nd rfl (by first | exact Or.inl rfl | exact Or.inr rfl)) pgs_nil))))
      (pss_one (ps_ret (pe_and (pe_call G_is_whole (hr.mono (by first | decide | exact Nat.le_refl _)) (by rfl) T.m_is_whole T.k_is_whole bd_is_whole_1 dv_is_whole_1 passL (pa_cons (pv 1) pa_nil)) (pe_and (pe_call G_is_whole (hr.mono (by first | decide | exact Nat.le_refl _)) (by rfl) T.m_is_whole T.k_is_whole bd_is_whole_2 dv_is_whole_2 passL (pa_cons (pv 2) (pa_cons pe_int pa_nil))) (Dz.pe_and1 (pe_cmpR (op_eqD (Dz.hu64 hr)) (pe_callBfun cr_gcd (by rfl) T.m_gcd (pa_cons (pv 1) (pa_cons (pv 2) pa_nil))) pe_int (nomark _))))))))), ?_⟩
    walk_at "dz0"
    walk_at "dz*"
    refine ⟨⟨hn, _, _, rfl, rfl⟩, ?_, fun _ _ _ h => h⟩
    rintro _ ⟨_, _, e1, e2, rfl⟩
    cases e1; cases e2
    walk_at "dz*"
    try rfl
end K01

set_option Elab.async false
set_option linter.all false
set_option maxRecDepth 100000
set_option maxHeartbeats 3999999
namespace K01
open L2 PySem PyProof.Rows PySem.Spec Dz
local macro_rules | `(tactic| walk_at "dzk") => `(tactic| first
  | exact kit_NoneType_bool
  | exact kit_NoneType_int
  | exact kit_NoneType_str
  | exact kit_NoneType_tuple
  | exact kit_NoneType_list
  | exact kit_bool_bool
  | exact kit_bool_int
  | exact kit_bool_str
  | exact kit_bool_tuple
  | exact kit_bool_list
  | exact kit_int_bool
  | exact kit_int_int
  | exact kit_int_str
  | exact kit_int_tuple
  | exact kit_int_list
  | exact kit_str_bool
  | exact kit_str_int
  | exact kit_str_str
  | exact kit_str_tuple
  | exact kit_str_list
  | exact kit_tuple_bool
  | exact kit_tuple_int
  | exact kit_tuple_str
  | exact kit_tuple_tuple
  | exact kit_tuple_list
  | exact kit_list_bool
  | exact kit_list_int
  | exact kit_list_str
  | exact kit_list_tuple
  | exact kit_list_list)
local macro_rules | `(tactic| walk_at "dz!") => `(tactic| first
  | rfl | assumption | decide | (simp only [List.length_cons, List.length_nil, List.length_set]; omega) | (simp; done))
local macro_rules | `(tactic| walk_at "dz") => `(tactic| first
  | with_reducible refine ws_seq ?_
  | with_reducible refine ws_next ?_
  | with_reducible refine ws_ret ?_
  | with_reducible refine ws_retN ?_
  | with_reducible refine ws_if ?_
  | with_reducible refine ws_setO rfl ?_
  | with_reducible refine ws_asg ?_
  | with_reducible refine ws_par ?_
  | ((with_reducible refine wg_name ?_ ?_); (focus walk_at "dz!"))
  | with_reducible refine wg_tup (by with_unfolding_all rfl) ?_
  | with_reducible refine wg_lst (by with_unfolding_all rfl) ?_
  | with_reducible refine wg_cons ?_
  | with_reducible refine wg_nil ?_
  | (with_reducible refine wp_var rfl ?_)
  | with_reducible refine wp_int ?_
  | with_reducible refine wp_bl ?_
  | with_reducible refine wp_str ?_
  | with_reducible refine wp_non ?_
  | with_reducible refine wp_ref (by assumption) ?_
  | with_reducible refine wp_ty ?_
  | with_reducible refine wp_ixO rfl ?_
  | with_reducible refine wp_op ?_
  | with_reducible refine wp_un ?_
  | with_reducible refine wp_if ?_
  | with_reducible refine wp_andV ?_
  | with_reducible refine wp_orV ?_
  | with_reducible refine wp_notV ?_
  | with_reducible refine wp_notT ?_
  | with_reducible refine wp_isN ?_
  | with_reducible refine wp_notN ?_
  | with_reducible refine wp_nil ?_
  | with_reducible refine wp_cons ?_
  | with_reducible refine wp_tup ?_
  | with_reducible refine wp_lst ?_
  | ((with_reducible refine wp_isi2 ?_); dsimp only)
  | with_reducible refine wp_lenO rfl ?_
  | with_reducible refine wp_tupO rfl ?_
  | with_reducible refine wp_cb ?_
  | ((with_reducible refine wp_call0 rfl ?_); dsimp only [List.map, dOf, List.nil_append, List.cons_append, List.append_nil])
  | with_reducible refine wp_chain ?_
  | with_reducible refine wt_test ?_
  | with_reducible refine wt_B ?_
  | with_reducible refine wt_and ?_
  | with_reducible refine wt_or ?_
  | with_reducible refine wt_not ?_
  | with_reducible refine wt_tru ?_
  | with_reducible refine wt_yes ?_
  | with_reducible refine od_i ?_
  | with_reducible refine od_b ?_
  | with_reducible refine od_ixT (by first | with_unfolding_all rfl | exact atI_cons0) ?_
  | with_reducible refine od_ixL (by first | with_unfolding_all rfl | exact atI_cons0) ?_
  | with_reducible refine od_eq (by with_unfolding_all rfl) (by with_unfolding_all rfl) ?_
  | with_reducible refine od_ne (by with_unfolding_all rfl) (by with_unfolding_all rfl) ?_
  | with_reducible refine od_bb ?_
  | with_reducible refine ud_neg ?_
  | with_reducible refine cb_lenT ?_
  | with_reducible refine cb_lenL ?_
  | with_reducible refine cb_abs ?_
  | with_reducible refine cb_int ?_
  | with_reducible refine cb_gcd ?_
  | with_reducible refine cb_min ?_
  | with_reducible refine cb_max ?_
  | with_reducible refine cb_listT ?_
  | with_reducible refine cb_listL ?_
  | with_reducible refine cb_tupT ?_
  | with_reducible refine cb_tupL ?_
  | with_reducible refine cb_isi (by with_unfolding_all rfl) (by walk_at "dzk") ?_
  | with_reducible refine ⟨_, _, _, (by with_unfolding_all rfl), (by walk_at "dzk"), (by walk_at "dzk"), ?_⟩
  | with_reducible refine ix_of (by with_unfolding_all rfl) ?_
  | with_reducible refine st_of (by with_unfolding_all rfl) ?_
  | with_reducible refine od_pow (by decide) ?_
  | with_reducible refine Exists.intro _ (And.intro rfl ?_))
local macro_rules | `(tactic| walk_at "dz0") => `(tactic| dsimp only [cxOf, Cx.tr, Cx.suite, Cx.nox, Cx.blk, Pm.fn, slots, List.map, List.length, List.replicate, Nat.reduceAdd, Nat.reduceSub, List.cons_append, List.nil_append, List.append_nil, dOf])
local macro_rules | `(tactic| walk_at "dzb") => `(tactic| first
  | with_reducible refine br_t ?_
  | with_reducible refine br_f ?_
  | with_reducible refine br_t2 ?_
  | with_reducible refine br_f2 ?_
  | (with_reducible refine br_d ?_ ?_ <;> intro _)
  | (with_reducible refine br_d2 ?_ ?_ <;> intro _)
  | refine br_t ?_
  | refine br_f ?_
  | refine br_t2 ?_
  | refine br_f2 ?_
  | (with_reducible refine br_b ?_ ?_ <;> intro _)
  | (with_reducible refine br_b2 ?_ ?_ <;> intro _))
local macro_rules | `(tactic| walk_at "dz*") => `(tactic| repeat' (first
  | walk_at "dz"
  | walk_at "dzb"
  | (refine And.intro (show _ ≤ 10000 by (first | decide | (simp; done))) ?_)
  | dsimp only))

variable {Pg : Program} {w : World} {K : PySem.W.Frag} {mg : Str → Option Value} {base : Heap} {ad : Ad}

/-! ### the greatest common divisor, lowest terms -/
def gz (a b : Int) : Int := ((Nat.gcd a.natAbs b.natAbs : Nat) : Int)
def rat (a b : Int) : D := .tup [.int (a / gz a b), .int (b / gz a b)]
def ratS (a b : Int) : D := if b < 0 then rat (-a) (-b) else rat a b
theorem gz_neg (a b : Int) : gz (-a) (-b) = gz a b := by unfold gz; rw [Int.natAbs_neg, Int.natAbs_neg]
theorem gz_pos {a b : Int} (h : b ≠ 0) : 0 < gz a b := by
  unfold gz
  have : 0 < Nat.gcd a.natAbs b.natAbs := Nat.gcd_pos_of_pos_right _ (by omega)
  omega
theorem gz_le {a b : Int} (h : b ≠ 0) : (gz a b).natAbs ≤ b.natAbs := by
  unfold gz
  have : Nat.gcd a.natAbs b.natAbs ≤ b.natAbs := Nat.gcd_le_right _ (by omega)
  omega
abbrev pm_lowest : Pm := .f2 (fun _ x y => ∃ a b, x = .int a ∧ y = .int b ∧ b ≠ 0 ∧ Bd 8900 b) (fun x y r => ∃ a b, x = .int a ∧ y = .int b ∧ r = ratS a b)
theorem ok_lowest (T : Txt K mg ad) : FnOk Pg w K mg base (L2.CX Pg w) 1 ad.f_lowest ad.fd_lowest ["top", "bottom"] (spD K pm_lowest) := by
  refine fn_D T.F_lowest sc_lowest (fun W ds h => ?_) fun cdv A outer s E W G H ds hr o hp hx => ?_
  · obtain ⟨a, b, rfl, _⟩ := Pm.l2 h; rfl
  obtain ⟨_, _, rfl, a, b, rfl, rfl, hb, zb⟩ := Pm.l2 hp
  refine ⟨_, (pss_cons (ps_set (i := 2) sc_lowest.nd rfl (by first | exact Or.inl rfl | exact Or.inr rfl) (pe_callBfun cr_gcd (by rfl) T.m_gcd (pa_cons (pv 0) (pa_cons (pv 1) pa_nil))))
      (pss_cons (ps_if (pt_cmpR op_lt (pv 1) pe_int (nomark _)) (pss_one (ps_set (i := 2) sc_lowest.nd rfl (by first | exact Or.inl rfl | exact Or.inr rfl) (pe_un un_neg (pv 2)))) pss_nil)
      (pss_one (ps_ret (pe_tup (pa_cons (pe_op op_fdivZ (pv 0) (pv 2)) (pa_cons (pe_op op_fdivZ (pv 1) (pv 2)) pa_nil))))))), ?_⟩
  walk_at "dz0"
  walk_at "dz*"
  all_goals have g0 := gz_pos (a := a) hb
  all_goals have g1 : Bd 8900 (gz a b) := zb.le (gz_le hb)
  · rename_i hn
    refine od_ci (.of (show -gz a b ≠ 0 by omega) g1.neg (by decide)) ?_
    walk_at "dz*"
    refine od_ci (.of (show -gz a b ≠ 0 by omega) g1.neg (by decide)) ?_
    walk_at "dz*"
    have e : ∀ x : Int, x.fdiv (-gz a b) = -x / gz a b := fun x => by
      rw [← Int.neg_fdiv_neg, Int.neg_neg, Int.fdiv_eq_ediv_of_nonneg _ (by omega)]
    refine ⟨a, b, rfl, rfl, ?_⟩
    unfold ratS rat
    rw [if_pos hn, gz_neg]
    show D.tup [.int (a.fdiv (-gz a b)), .int (b.fdiv (-gz a b))] = _
    rw [e, e]
  · rename_i hn
    refine od_ci (.of (show gz a b ≠ 0 by omega) g1 (by decide)) ?_
    walk_at "dz*"
    refine od_ci (.of (show gz a b ≠ 0 by omega) g1 (by decide)) ?_
    walk_at "dz*"
    refine ⟨a, b, rfl, rfl, ?_⟩
    unfold ratS rat
    rw [if_neg hn]
    show D.tup [.int (a.fdiv (gz a b)), .int (b.fdiv (gz a b))] = _
    rw [Int.fdiv_eq_ediv_of_nonneg _ (by omega), Int.fdiv_eq_ediv_of_nonneg _ (by omega)]
end K01

set_option Elab.async false
set_option linter.all false
set_option maxRecDepth 100000
set_option maxHeartbeats 3999999
namespace K01
open L2 PySem PyProof.Rows PySem.Spec Dz
local macro_rules | `(tactic| walk_at "dzk") => `(tactic| first
  | exact kit_NoneType_bool
  | exact kit_NoneType_int
  | exact kit_NoneType_str
  | exact kit_NoneType_tuple
  | exact kit_NoneType_list
  | exact kit_bool_bool
  | exact kit_bool_int
  | exact kit_bool_str
  | exact kit_bool_tuple
  | exact kit_bool_list
  | exact kit_int_bool
  | exact kit_int_int
  | exact kit_int_str
  | exact kit_int_tuple
  | exact kit_int_list
  | exact kit_str_bool
  | exact kit_str_int
  | exact kit_str_str
  | exact kit_str_tuple
  | exact kit_str_list
  | exact kit_tuple_bool
  | exact kit_tuple_int
  | exact kit_tuple_str
  | exact kit_tuple_tuple
  | exact kit_tuple_list
  | exact kit_list_bool
  | exact kit_list_int
  | exact kit_list_str
  | exact kit_list_tuple
  | exact kit_list_list)
local macro_rules | `(tactic| walk_at "dz!") => `(tactic| first
  | rfl | assumption | decide | (simp only [List.length_cons, List.length_nil, List.length_set]; omega) | (simp; done))
local macro_rules | `(tactic| walk_at "dz") => `(tactic| first
  | with_reducible refine ws_seq ?_
  | with_reducible refine ws_next ?_
  | with_reducible refine ws_ret ?_
  | with_reducible refine ws_retN ?_
  | with_reducible refine ws_if ?_
  | with_reducible refine ws_setO rfl ?_
  | with_reducible refine ws_asg ?_
  | with_reducible refine ws_par ?_
  | ((with_reducible refine wg_name ?_ ?_); (focus walk_at "dz!"))
  | with_reducible refine wg_tup (by with_unfolding_all rfl) ?_
  | with_reducible refine wg_lst (by with_unfolding_all rfl) ?_
  | with_reducible refine wg_cons ?_
  | with_reducible refine wg_nil ?_
  | (with_reducible refine wp_var rfl ?_)
  | with_reducible refine wp_int ?_
  | with_reducible refine wp_bl ?_
  | with_reducible refine wp_str ?_
  | with_reducible refine wp_non ?_
  | with_reducible refine wp_ref (by assumption) ?_
  | with_reducible refine wp_ty ?_
  | with_reducible refine wp_ixO rfl ?_
  | with_reducible refine wp_op ?_
  | with_reducible refine wp_un ?_
  | with_reducible refine wp_if ?_
  | with_reducible refine wp_andV ?_
  | with_reducible refine wp_orV ?_
  | with_reducible refine wp_notV ?_
  | with_reducible refine wp_notT ?_
  | with_reducible refine wp_isN ?_
  | with_reducible refine wp_notN ?_
  | with_reducible refine wp_nil ?_
  | with_reducible refine wp_cons ?_
  | with_reducible refine wp_tup ?_
  | with_reducible refine wp_lst ?_
  | ((with_reducible refine wp_isi2 ?_); dsimp only)
  | with_reducible refine wp_lenO rfl ?_
  | with_reducible refine wp_tupO rfl ?_
  | with_reducible refine wp_cb ?_
  | ((with_reducible refine wp_call0 rfl ?_); dsimp only [List.map, dOf, List.nil_append, List.cons_append, List.append_nil])
  | with_reducible refine wp_chain ?_
  | with_reducible refine wt_test ?_
  | with_reducible refine wt_B ?_
  | with_reducible refine wt_and ?_
  | with_reducible refine wt_or ?_
  | with_reducible refine wt_not ?_
  | with_reducible refine wt_tru ?_
  | with_reducible refine wt_yes ?_
  | with_reducible refine od_i ?_
  | with_reducible refine od_b ?_
  | with_reducible refine od_ixT (by first | with_unfolding_all rfl | exact atI_cons0) ?_
  | with_reducible refine od_ixL (by first | with_unfolding_all rfl | exact atI_cons0) ?_
  | with_reducible refine od_eq (by with_unfolding_all rfl) (by with_unfolding_all rfl) ?_
  | with_reducible refine od_ne (by with_unfolding_all rfl) (by with_unfolding_all rfl) ?_
  | with_reducible refine od_bb ?_
  | with_reducible refine ud_neg ?_
  | with_reducible refine cb_lenT ?_
  | with_reducible refine cb_lenL ?_
  | with_reducible refine cb_abs ?_
  | with_reducible refine cb_int ?_
  | with_reducible refine cb_gcd ?_
  | with_reducible refine cb_min ?_
  | with_reducible refine cb_max ?_
  | with_reducible refine cb_listT ?_
  | with_reducible refine cb_listL ?_
  | with_reducible refine cb_tupT ?_
  | with_reducible refine cb_tupL ?_
  | with_reducible refine cb_isi (by with_unfolding_all rfl) (by walk_at "dzk") ?_
  | with_reducible refine ⟨_, _, _, (by with_unfolding_all rfl), (by walk_at "dzk"), (by walk_at "dzk"), ?_⟩
  | with_reducible refine ix_of (by with_unfolding_all rfl) ?_
  | with_reducible refine st_of (by with_unfolding_all rfl) ?_
  | with_reducible refine od_pow (by decide) ?_
  | with_reducible refine Exists.intro _ (And.intro rfl ?_))
local macro_rules | `(tactic| walk_at "dz0") => `(tactic| dsimp only [cxOf, Cx.tr, Cx.suite, Cx.nox, Cx.blk, Pm.fn, slots, List.map, List.length, List.replicate, Nat.reduceAdd, Nat.reduceSub, List.cons_append, List.nil_append, List.append_nil, dOf])
local macro_rules | `(tactic| walk_at "dzb") => `(tactic| first
  | with_reducible refine br_t ?_
  | with_reducible refine br_f ?_
  | with_reducible refine br_t2 ?_
  | with_reducible refine br_f2 ?_
  | (with_reducible refine br_d ?_ ?_ <;> intro _)
  | (with_reducible refine br_d2 ?_ ?_ <;> intro _)
  | refine br_t ?_
  | refine br_f ?_
  | refine br_t2 ?_
  | refine br_f2 ?_
  | (with_reducible refine br_b ?_ ?_ <;> intro _)
  | (with_reducible refine br_b2 ?_ ?_ <;> intro _))
local macro_rules | `(tactic| walk_at "dz*") => `(tactic| repeat' (first
  | walk_at "dz"
  | walk_at "dzb"
  | (refine And.intro (show _ ≤ 10000 by (first | decide | (simp; done))) ?_)
  | dsimp only))

variable {Pg : Program} {w : World} {K : PySem.W.Frag} {mg : Str → Option Value} {base : Heap} {ad : Ad}

/-- a ratio's numbers, of a size -/
structure Rt (n : Nat) (x : D) (a b : Int) : Prop where
  pr : Pair x a b
  ps : 0 < b
  za : Bd n a
  zb : Bd n b
theorem Pair.det {x : D} {a b c d : Int} (h : Pair x a b) (k : Pair x c d) : a = c ∧ b = d := by
  cases h <;> cases k <;> exact ⟨rfl, rfl⟩
theorem ratS_pos {a b : Int} (h : 0 < b) : ratS a b = rat a b := if_neg (by omega)
abbrev pmR (f : Int → Int → Int → Int → D) : Pm := .f2 (fun _ x y => ∃ a b c d, Rt 4000 x a b ∧ Rt 4000 y c d) (fun x y r => ∀ a b c d, Pair x a b → Pair y c d → r = f a b c d)
abbrev pm_plus : Pm := pmR fun a b c d => rat (a * d + c * b) (b * d)
abbrev pm_minus : Pm := pmR fun a b c d => rat (a * d - c * b) (b * d)
abbrev pm_times : Pm := pmR fun a b c d => rat (a * c) (b * d)
theorem ok_plus (T : Txt K mg ad) : FnOk Pg w K mg base (L2.CX Pg w) 2 ad.f_plus ad.fd_plus ["one", "other"] (spD K pm_plus) := by
  have G_lowest := ok_lowest (Pg := Pg) (w := w) (base := base) T
  refine fn_D T.F_plus sc_plus (fun W ds h => ?_) fun cdv A outer s E W G H ds hr o hp hx => ?_
  · obtain ⟨a, b, rfl, _⟩ := Pm.l2 h; rfl
  obtain ⟨x, y, rfl, a, b, c, d, ⟨p1, b0, za, zb⟩, ⟨p2, d0, zc, zd⟩⟩ := Pm.l2 hp
  refine ⟨_, (pss_one (ps_ret (pe_call G_lowest (hr.mono (by first | decide | exact Nat.le_refl _)) (by rfl) T.m_lowest T.k_lowest T.b_lowest .nil passL (pa_cons (pe_op op_add (pe_op op_mulW (pe_ix ix_seq (pv 0) pe_int (fun _ _ => rfl)) (pe_ix ix_seq (pv 1) pe_int (fun _ _ => rfl))) (pe_op op_mulW (pe_ix ix_seq (pv 1) pe_int (fun _ _ => rfl)) (pe_ix ix_seq (pv 0) pe_int (fun _ _ => rfl)))) (pa_cons (pe_op op_mulW (pe_ix ix_seq (pv 0) pe_int (fun _ _ => rfl)) (pe_ix ix_seq (pv 1) pe_int (fun _ _ => rfl))) pa_nil))))), ?_⟩
  walk_at "dz0"
  cases p1 <;> cases p2
  all_goals
    walk_at "dz*"
    refine od_ci (CMulW.of za zd (by decide)) ?_
    walk_at "dz*"
    refine od_ci (CMulW.of zc zb (by decide)) ?_
    walk_at "dz*"
    refine od_ci (CMulW.of zb zd (by decide)) ?_
    walk_at "dz*"
    refine ⟨⟨_, _, rfl, rfl, by have := Int.mul_pos b0 d0; omega, (zb.mul zd).mono (by decide)⟩, ?_, fun _ _ _ h => h⟩
    rintro _ ⟨_, _, e1, e2, rfl⟩
    cases e1; cases e2
    intro a' b' c' d' q1 q2
    cases q1; cases q2
    exact ratS_pos (Int.mul_pos b0 d0)
theorem ok_minus (T : Txt K mg ad) : FnOk Pg w K mg base (L2.CX Pg w) 2 ad.f_minus ad.fd_minus ["one", "other"] (spD K pm_minus) := by
  have G_lowest := ok_lowest (Pg := Pg) (w := w) (base := base) T
  refine fn_D T.F_minus sc_minus (fun W ds h => ?_) fun cdv A outer s E W G H ds hr o hp hx => ?_
  · obtain ⟨a, b, rfl, _⟩ := Pm.l2 h; rfl
  obtain ⟨x, y, rfl, a, b, c, d, ⟨p1, b0, za, zb⟩, ⟨p2, d0, zc, zd⟩⟩ := Pm.l2 hp
  refine ⟨_, (pss_one (ps_ret (pe_call G_lowest (hr.mono (by first | decide | exact Nat.le_refl _)) (by rfl) T.m_lowest T.k_lowest T.b_lowest .nil passL (pa_cons (pe_op op_sub (pe_op op_mulW (pe_ix ix_seq (pv 0) pe_int (fun _ _ => rfl)) (pe_ix ix_seq (pv 1) pe_int (fun _ _ => rfl))) (pe_op op_mulW (pe_ix ix_seq (pv 1) pe_int (fun _ _ => rfl)) (pe_ix ix_seq (pv 0) pe_int (fun _ _ => rfl)))) (pa_cons (pe_op op_mulW (pe_ix ix_seq (pv 0) pe_int (fun _ _ => rfl)) (pe_ix ix_seq (pv 1) pe_int (fun _ _ => rfl))) pa_nil))))), ?_⟩
  walk_at "dz0"
  cases p1 <;> cases p2
  all_goals
    walk_at "dz*"
    refine od_ci (CMulW.of za zd (by decide)) ?_
    walk_at "dz*"
    refine od_ci (CMulW.of zc zb (by decide)) ?_
    walk_at "dz*"
    refine od_ci (CMulW.of zb zd (by decide)) ?_
    walk_at "dz*"
    refine ⟨⟨_, _, rfl, rfl, by have := Int.mul_pos b0 d0; omega, (zb.mul zd).mono (by decide)⟩, ?_, fun _ _ _ h => h⟩
    rintro _ ⟨_, _, e1, e2, rfl⟩
    cases e1; cases e2
    intro a' b' c' d' q1 q2
    cases q1; cases q2
    exact ratS_pos (Int.mul_pos b0 d0)
theorem ok_times (T : Txt K mg ad) : FnOk Pg w K mg base (L2.CX Pg w) 2 ad.f_times ad.fd_times ["one", "other"] (spD K pm_times) := by
  have G_lowest := ok_lowest (Pg := Pg) (w := w) (base := base) T
  refine fn_D T.F_times sc_times (fun W ds h => ?_) fun cdv A outer s E W G H ds hr o hp hx => ?_
  · obtain ⟨a, b, rfl, _⟩ := Pm.l2 h; rfl
  obtain ⟨x, y, rfl, a, b, c, d, ⟨p1, b0, za, zb⟩, ⟨p2, d0, zc, zd⟩⟩ := Pm.l2 hp
  refine ⟨_, (pss_one (ps_ret (pe_call G_lowest (hr.mono (by first | decide | exact Nat.le_refl _)) (by rfl) T.m_lowest T.k_lowest T.b_lowest .nil passL (pa_cons (pe_op op_mulW (pe_ix ix_seq (pv 0) pe_int (fun _ _ => rfl)) (pe_ix ix_seq (pv 1) pe_int (fun _ _ => rfl))) (pa_cons (pe_op op_mulW (pe_ix ix_seq (pv 0) pe_int (fun _ _ => rfl)) (pe_ix ix_seq (pv 1) pe_int (fun _ _ => rfl))) pa_nil))))), ?_⟩
  walk_at "dz0"
  cases p1 <;> cases p2
  all_goals
    walk_at "dz*"
    refine od_ci (CMulW.of za zc (by decide)) ?_
    walk_at "dz*"
    refine od_ci (CMulW.of zb zd (by decide)) ?_
    walk_at "dz*"
    refine ⟨⟨_, _, rfl, rfl, by have := Int.mul_pos b0 d0; omega, (zb.mul zd).mono (by decide)⟩, ?_, fun _ _ _ h => h⟩
    rintro _ ⟨_, _, e1, e2, rfl⟩
    cases e1; cases e2
    intro a' b' c' d' q1 q2
    cases q1; cases q2
    exact ratS_pos (Int.mul_pos b0 d0)
abbrev pm_negative : Pm := .f1 (fun _ x => ∃ a b, Pair x a b) (fun x r => ∀ a b, Pair x a b → r = .tup [.int (-a), .int b])
theorem ok_negative (T : Txt K mg ad) : FnOk Pg w K mg base (L2.CX Pg w) 1 ad.f_negative ad.fd_negative ["one"] (spD K pm_negative) := by
  refine fn_D T.F_negative sc_negative (fun W ds h => ?_) fun cdv A outer s E W G H ds hr o hp hx => ?_
  · obtain ⟨a, rfl, _⟩ := Pm.l1 h; rfl
  obtain ⟨x, rfl, a, b, p1⟩ := Pm.l1 hp
  refine ⟨_, (pss_one (ps_ret (pe_tup (pa_cons (pe_un un_neg (pe_ix ix_seq (pv 0) pe_int (fun _ _ => rfl))) (pa_cons (pe_ix ix_seq (pv 0) pe_int (fun _ _ => rfl)) pa_nil))))), ?_⟩
  walk_at "dz0"
  cases p1
  all_goals
    walk_at "dz*"
    intro a' b' q1
    cases q1
    rfl
def cmp (a b c d : Int) : Int := if a * d = c * b then 0 else if a * d < c * b then -1 else 1
abbrev pm_compare : Pm := pmR fun a b c d => .int (cmp a b c d)
theorem ok_compare (T : Txt K mg ad) : FnOk Pg w K mg base (L2.CX Pg w) 1 ad.f_compare ad.fd_compare ["one", "other"] (spD K pm_compare) := by
  refine fn_D T.F_compare sc_compare (fun W ds h => ?_) fun cdv A outer s E W G H ds hr o hp hx => ?_
  · obtain ⟨a, b, rfl, _⟩ := Pm.l2 h; rfl
  obtain ⟨x, y, rfl, a, b, c, d, ⟨p1, b0, za, zb⟩, ⟨p2, d0, zc, zd⟩⟩ := Pm.l2 hp
  refine ⟨_, (pss_cons (ps_set (i := 2) sc_compare.nd rfl (by first | exact Or.inl rfl | exact Or.inr rfl) (pe_op op_mulW (pe_ix ix_seq (pv 0) pe_int (fun _ _ => rfl)) (pe_ix ix_seq (pv 1) pe_int (fun _ _ => rfl))))
      (pss_cons (ps_set (i := 3) sc_compare.nd rfl (by first | exact Or.inl rfl | exact Or.inr rfl) (pe_op op_mulW (pe_ix ix_seq (pv 1) pe_int (fun _ _ => rfl)) (pe_ix ix_seq (pv 0) pe_int (fun _ _ => rfl))))
      (pss_cons (ps_if (pt_cmpR (op_eqD (Dz.hu64 hr)) (pv 2) (pv 3) (nomark _)) (pss_one (ps_ret pe_int)) pss_nil)
      (pss_one (ps_ret (pe_ifExp (pt_cmpR op_lt (pv 2) (pv 3) (nomark _)) (pe_un un_neg pe_int) pe_int)))))), ?_⟩
  walk_at "dz0"
  cases p1 <;> cases p2
  all_goals
    walk_at "dz*"
    refine od_ci (CMulW.of za zd (by decide)) ?_
    walk_at "dz*"
    refine od_ci (CMulW.of zc zb (by decide)) ?_
    walk_at "dz*"
  all_goals
    intro a' b' c' d' q1 q2
    cases q1; cases q2
    simp_all [cmp, D.eqv, D.py, PyData.eqv]
abbrev pm_floor_of : Pm := .f1 (fun _ x => ∃ a b, Rt 4000 x a b) (fun x r => ∀ a b, Pair x a b → r = .int (a / b))
theorem ok_floor_of (T : Txt K mg ad) : FnOk Pg w K mg base (L2.CX Pg w) 1 ad.f_floor_of ad.fd_floor_of ["one"] (spD K pm_floor_of) := by
  refine fn_D T.F_floor_of sc_floor_of (fun W ds h => ?_) fun cdv A outer s E W G H ds hr o hp hx => ?_
  · obtain ⟨a, rfl, _⟩ := Pm.l1 h; rfl
  obtain ⟨x, rfl, a, b, ⟨p1, b0, za, zb⟩⟩ := Pm.l1 hp
  refine ⟨_, (pss_one (ps_ret (pe_op op_fdivW (pe_ix ix_seq (pv 0) pe_int (fun _ _ => rfl)) (pe_ix ix_seq (pv 0) pe_int (fun _ _ => rfl))))), ?_⟩
  walk_at "dz0"
  cases p1
  all_goals
    walk_at "dz*"
    refine od_ci (CDivW.of b0 zb (by decide)) ?_
    walk_at "dz*"
    intro a' b' q1
    cases q1
    rfl
theorem div_le (a : Int) {b : Int} (h : 0 < b) : (a / b).natAbs ≤ a.natAbs := Int.natAbs_ediv_le_natAbs a b
abbrev pm_broken_of : Pm := .f1 (fun _ x => ∃ a b, Rt 4000 x a b) (fun x r => ∀ a b, Pair x a b → r = .tup [.int (a - a / b * b), .int b])
theorem ok_broken_of (T : Txt K mg ad) : FnOk Pg w K mg base (L2.CX Pg w) 2 ad.f_broken_of ad.fd_broken_of ["one"] (spD K pm_broken_of) := by
  have G_floor_of := ok_floor_of (Pg := Pg) (w := w) (base := base) T
  refine fn_D T.F_broken_of sc_broken_of (fun W ds h => ?_) fun cdv A outer s E W G H ds hr o hp hx => ?_
  · obtain ⟨a, rfl, _⟩ := Pm.l1 h; rfl
  obtain ⟨x, rfl, a, b, R1⟩ := Pm.l1 hp
  obtain ⟨p1, b0, za, zb⟩ := id R1
  refine ⟨_, (pss_one (ps_ret (pe_tup (pa_cons (pe_op op_sub (pe_ix ix_seq (pv 0) pe_int (fun _ _ => rfl)) (pe_op op_mulW (pe_call G_floor_of (hr.mono (by first | decide | exact Nat.le_refl _)) (by rfl) T.m_floor_of T.k_floor_of T.b_floor_of .nil passL (pa_cons (pv 0) pa_nil)) (pe_ix ix_seq (pv 0) pe_int (fun _ _ => rfl)))) (pa_cons (pe_ix ix_seq (pv 0) pe_int (fun _ _ => rfl)) pa_nil))))), ?_⟩
  walk_at "dz0"
  cases p1
  all_goals
    walk_at "dz*"
    refine ⟨⟨a, b, R1⟩, ?_, fun _ _ _ h => h⟩
    intro d hd
    obtain rfl := hd a b R1.pr
    walk_at "dz*"
    refine od_ci (CMulW.of (za.le (div_le a b0)) zb (by decide)) ?_
    walk_at "dz*"
    intro a' b' q1
    cases q1
    rfl
end K01

set_option Elab.async false
set_option linter.all false
set_option maxRecDepth 100000
set_option maxHeartbeats 3999999
namespace K01
open L2 PySem PyProof.Rows PySem.Spec Dz
local macro_rules | `(tactic| walk_at "dzk") => `(tactic| first
  | exact kit_NoneType_bool
  | exact kit_NoneType_int
  | exact kit_NoneType_str
  | exact kit_NoneType_tuple
  | exact kit_NoneType_list
  | exact kit_bool_bool
  | exact kit_bool_int
  | exact kit_bool_str
  | exact kit_bool_tuple
  | exact kit_bool_list
  | exact kit_int_bool
  | exact kit_int_int
  | exact kit_int_str
  | exact kit_int_tuple
  | exact kit_int_list
  | exact kit_str_bool
  | exact kit_str_int
  | exact kit_str_str
  | exact kit_str_tuple
  | exact kit_str_list
  | exact kit_tuple_bool
  | exact kit_tuple_int
  | exact kit_tuple_str
  | exact kit_tuple_tuple
  | exact kit_tuple_list
  | exact kit_list_bool
  | exact kit_list_int
  | exact kit_list_str
  | exact kit_list_tuple
  | exact kit_list_list)
local macro_rules | `(tactic| walk_at "dz!") => `(tactic| first
  | rfl | assumption | decide | (simp only [List.length_cons, List.length_nil, List.length_set]; omega) | (simp; done))
local macro_rules | `(tactic| walk_at "dz") => `(tactic| first
  | with_reducible refine ws_seq ?_
  | with_reducible refine ws_next ?_
  | with_reducible refine ws_ret ?_
  | with_reducible refine ws_retN ?_
  | with_reducible refine ws_if ?_
  | with_reducible refine ws_setO rfl ?_
  | with_reducible refine ws_asg ?_
  | with_reducible refine ws_par ?_
  | ((with_reducible refine wg_name ?_ ?_); (focus walk_at "dz!"))
  | with_reducible refine wg_tup (by with_unfolding_all rfl) ?_
  | with_reducible refine wg_lst (by with_unfolding_all rfl) ?_
  | with_reducible refine wg_cons ?_
  | with_reducible refine wg_nil ?_
  | (with_reducible refine wp_var rfl ?_)
  | with_reducible refine wp_int ?_
  | with_reducible refine wp_bl ?_
  | with_reducible refine wp_str ?_
  | with_reducible refine wp_non ?_
  | with_reducible refine wp_ref (by assumption) ?_
  | with_reducible refine wp_ty ?_
  | with_reducible refine wp_ixO rfl ?_
  | with_reducible refine wp_op ?_
  | with_reducible refine wp_un ?_
  | with_reducible refine wp_if ?_
  | with_reducible refine wp_andV ?_
  | with_reducible refine wp_orV ?_
  | with_reducible refine wp_notV ?_
  | with_reducible refine wp_notT ?_
  | with_reducible refine wp_isN ?_
  | with_reducible refine wp_notN ?_
  | with_reducible refine wp_nil ?_
  | with_reducible refine wp_cons ?_
  | with_reducible refine wp_tup ?_
  | with_reducible refine wp_lst ?_
  | ((with_reducible refine wp_isi2 ?_); dsimp only)
  | with_reducible refine wp_lenO rfl ?_
  | with_reducible refine wp_tupO rfl ?_
  | with_reducible refine wp_cb ?_
  | ((with_reducible refine wp_call0 rfl ?_); dsimp only [List.map, dOf, List.nil_append, List.cons_append, List.append_nil])
  | with_reducible refine wp_chain ?_
  | with_reducible refine wt_test ?_
  | with_reducible refine wt_B ?_
  | with_reducible refine wt_and ?_
  | with_reducible refine wt_or ?_
  | with_reducible refine wt_not ?_
  | with_reducible refine wt_tru ?_
  | with_reducible refine wt_yes ?_
  | with_reducible refine od_i ?_
  | with_reducible refine od_b ?_
  | with_reducible refine od_ixT (by first | with_unfolding_all rfl | exact atI_cons0) ?_
  | with_reducible refine od_ixL (by first | with_unfolding_all rfl | exact atI_cons0) ?_
  | with_reducible refine od_eq (by with_unfolding_all rfl) (by with_unfolding_all rfl) ?_
  | with_reducible refine od_ne (by with_unfolding_all rfl) (by with_unfolding_all rfl) ?_
  | with_reducible refine od_bb ?_
  | with_reducible refine ud_neg ?_
  | with_reducible refine cb_lenT ?_
  | with_reducible refine cb_lenL ?_
  | with_reducible refine cb_abs ?_
  | with_reducible refine cb_int ?_
  | with_reducible refine cb_gcd ?_
  | with_reducible refine cb_min ?_
  | with_reducible refine cb_max ?_
  | with_reducible refine cb_listT ?_
  | with_reducible refine cb_listL ?_
  | with_reducible refine cb_tupT ?_
  | with_reducible refine cb_tupL ?_
  | with_reducible refine cb_isi (by with_unfolding_all rfl) (by walk_at "dzk") ?_
  | with_reducible refine ⟨_, _, _, (by with_unfolding_all rfl), (by walk_at "dzk"), (by walk_at "dzk"), ?_⟩
  | with_reducible refine ix_of (by with_unfolding_all rfl) ?_
  | with_reducible refine st_of (by with_unfolding_all rfl) ?_
  | with_reducible refine od_pow (by decide) ?_
  | with_reducible refine Exists.intro _ (And.intro rfl ?_))
local macro_rules | `(tactic| walk_at "dz0") => `(tactic| dsimp only [cxOf, Cx.tr, Cx.suite, Cx.nox, Cx.blk, Pm.fn, slots, List.map, List.length, List.replicate, Nat.reduceAdd, Nat.reduceSub, List.cons_append, List.nil_append, List.append_nil, dOf])
local macro_rules | `(tactic| walk_at "dzb") => `(tactic| first
  | with_reducible refine br_t ?_
  | with_reducible refine br_f ?_
  | with_reducible refine br_t2 ?_
  | with_reducible refine br_f2 ?_
  | (with_reducible refine br_d ?_ ?_ <;> intro _)
  | (with_reducible refine br_d2 ?_ ?_ <;> intro _)
  | refine br_t ?_
  | refine br_f ?_
  | refine br_t2 ?_
  | refine br_f2 ?_
  | (with_reducible refine br_b ?_ ?_ <;> intro _)
  | (with_reducible refine br_b2 ?_ ?_ <;> intro _))
local macro_rules | `(tactic| walk_at "dz*") => `(tactic| repeat' (first
  | walk_at "dz"
  | walk_at "dzb"
  | (refine And.intro (show _ ≤ 10000 by (first | decide | (simp; done))) ?_)
  | dsimp only))

variable {Pg : Program} {w : World} {K : PySem.W.Frag} {mg : Str → Option Value} {base : Heap} {ad : Ad}

theorem ok_BadRatio (T : Txt K mg ad) : FnOk Pg w K mg base CX0 1 ad.BadRatio___init__ ad.fd_BadRatio___init__ ["self", "what"] (spEx ad.BadRatio (fun ws => (["what"] : List Str).zip ws) 1) := by
  refine T.F_BadRatio___init__.ok sc_BadRatio___init__ (fun vs H Q E h => ?_) (fun cdv A outer s H vs Q E hr h => ?_)
  · obtain ⟨a, ws, rfl, hw, _⟩ := h
    rw [List.length_cons, hw]; rfl
  · obtain ⟨a, ws, rfl, hw, ha, k⟩ := h
    match ws, hw with
    | [y], _ =>
      refine ⟨_, (pss_one (ps_ost (pv 0) (pv 1))), ?_⟩
      refine ⟨_, rfl, _, rfl, a, ad.BadRatio, rfl, T.o_BadRatio, T.xn_BadRatio_what, .inl ⟨ha, fun dx nd da => ?_⟩⟩
      refine k dx _ nd da upd_same ?_ fun b h1 h2 => ?_
      · rw [upd_ne da, upd_same]; rfl
      · rw [upd_ne h1, upd_ne h2]
abbrev nWhat : List Str := [Str.ofString "what"]
/-- raise BadRatio(x) -/
theorem raiseR {c : Cn} {q : List Sl} {F : Fn} {E : XK} {Z : Addr → List Str → List D → Prop} {ta : TA} (hE : XA c E Z) (h : wpA c ta q fun ds => ∃ d : D, ds = [d] ∧ Z ad.BadRatio nWhat [d]) :
    wpS c (fun _ σ H => tMkO ad.BadRatio (spEx ad.BadRatio (fun ws => (["what"] : List Str).zip ws) 1) [] ta σ H fun cls d H' => E cls d H') q F :=
  ws_raise (n := 1) (ns := nWhat) (ev := id) (ed := id) hE (by decide) (fun _ => rfl) (fun _ _ _ z => z) fun G H s S R Q hq => h G H s S R Q fun G' H' vs ds z T1 i1 => by
    obtain ⟨d, rfl, z⟩ := z
    exact hq G' H' vs [d] ⟨rfl, rfl, z⟩ T1 i1
def mkFault (t b : D) : Option Str :=
  match t with
  | .int _ => match b with
    | .int k => if k = 0 then some "bottom" else none
    | _ => some "bottom"
  | _ => some "top"
abbrev pm_make_ratio (ad : Ad) : Pm := .f2 (fun _ t b => PlainI t ∧ PlainI b ∧ ∀ k, b = .int k → Bd 8900 k) (fun t b r => mkFault t b = none ∧ ∃ x y, t = .int x ∧ b = .int y ∧ r = ratS x y)
  (fun ds C ns es => ∃ t b f, ds = [t, b] ∧ mkFault t b = some f ∧ C = ad.BadRatio ∧ ns = nWhat ∧ es = [.str f])
theorem ok_make_ratio (T : Txt K mg ad) : FnOk Pg w K mg base (L2.CX Pg w) 3 ad.f_make_ratio ad.fd_make_ratio ["top", "bottom"] (spD K (pm_make_ratio ad)) := by
  have G_lowest := ok_lowest (Pg := Pg) (w := w) (base := base) T
  have G_is_whole := ok_is_whole (Pg := Pg) (w := w) (base := base) T
  have G_BadRatio := ok_BadRatio (Pg := Pg) (w := w) (base := base) T
  obtain ⟨_, dv_is_whole_1, bd_is_whole_1⟩ := T.bd_is_whole_1
  refine fn_DD T.F_make_ratio sc_make_ratio (fun W ds h => ?_) fun cdv A outer s E W G H ds hr o hp hx => ?_
  · obtain ⟨a, b, rfl, _⟩ := Pm.l2 h; rfl
  obtain ⟨t, b, rfl, ht, hb, zb⟩ := Pm.l2 hp
  refine ⟨_, (pss_cons (ps_if (pt_not (pt_val (pe_call G_is_whole (hr.mono (by first | decide | exact Nat.le_refl _)) (by rfl) T.m_is_whole T.k_is_whole bd_is_whole_1 dv_is_whole_1 passL (pa_cons (pv 0) pa_nil)))) (pss_one (ps_raise rfl (takes_of rfl rfl rfl rfl) (pmk_oex T.o_BadRatio T.i_BadRatio T.t_BadRatio G_BadRatio (hr.mono (by first | decide | exact Nat.le_refl _)) T.bi_BadRatio .nil pass0 (by rfl) T.m_BadRatio (pa_cons pe_str pa_nil)))) pss_nil)
      (pss_cons (ps_if (pw_or (pt_not (pt_val (pe_call G_is_whole (hr.mono (by first | decide | exact Nat.le_refl _)) (by rfl) T.m_is_whole T.k_is_whole bd_is_whole_1 dv_is_whole_1 passL (pa_cons (pv 1) pa_nil)))) (pw_or1 (pt_cmpR (op_eqD (Dz.hu64 hr)) (pv 1) pe_int (nomark _)))).pt (pss_one (ps_raise rfl (takes_of rfl rfl rfl rfl) (pmk_oex T.o_BadRatio T.i_BadRatio T.t_BadRatio G_BadRatio (hr.mono (by first | decide | exact Nat.le_refl _)) T.bi_BadRatio .nil pass0 (by rfl) T.m_BadRatio (pa_cons pe_str pa_nil)))) pss_nil)
      (pss_one (ps_ret (pe_call G_lowest (hr.mono (by first | decide | exact Nat.le_refl _)) (by rfl) T.m_lowest T.k_lowest T.b_lowest .nil passL (pa_cons (pv 0) (pa_cons (pv 1) pa_nil))))))), ?_⟩
  walk_at "dz0"
  walk_at "dz*"
  refine ⟨⟨ht, .inl rfl, .inl rfl⟩, ?_, fun _ _ _ h => h⟩
  rintro _ rfl
  walk_at "dz*"
  · rename_i hw
    refine raiseR hx ?_
    walk_at "dz*"
    refine ⟨t, b, _, rfl, ?_, rfl, rfl, rfl⟩
    cases t <;> first | rfl | cases hw
  · rename_i hw
    obtain ⟨x, rfl⟩ := whole_int (show wholeD t .non .non = true by simpa using hw)
    refine ⟨⟨hb, .inl rfl, .inl rfl⟩, ?_, fun _ _ _ h => h⟩
    rintro _ rfl
    cases b with
    | int y =>
      have e : wholeD (.int y) .non .non = true := rfl
      rw [e]
      walk_at "dz*"
      · rename_i hz
        refine raiseR hx ?_
        walk_at "dz*"
        refine ⟨.int x, .int y, _, rfl, ?_, rfl, rfl, rfl⟩
        have hz : y = 0 := by simpa [D.eqv, D.py, PyData.eqv] using hz
        subst hz; rfl
      · rename_i hz
        have hz : y ≠ 0 := by simpa [D.eqv, D.py, PyData.eqv] using hz
        refine ⟨⟨x, y, rfl, rfl, hz, zb y rfl⟩, ?_, fun _ _ _ h => h⟩
        rintro _ ⟨_, _, e1, e2, rfl⟩
        cases e1; cases e2
        refine ⟨?_, x, y, rfl, rfl, rfl⟩
        show (if y = 0 then some ("bottom" : Str) else none) = none
        rw [if_neg hz]
    | _ =>
      all_goals
        dsimp only [wholeD]
        walk_at "dz*"
        refine raiseR hx ?_
        walk_at "dz*"
        exact ⟨.int x, _, _, rfl, rfl, rfl, rfl, rfl⟩
def overFault (c : Int) : Option Str := if c = 0 then some "zero" else none
abbrev pm_over (ad : Ad) : Pm := .f2 (fun _ x y => ∃ a b c d, Rt 4000 x a b ∧ Rt 4000 y c d) (fun x y r => ∀ a b c d, Pair x a b → Pair y c d → c ≠ 0 ∧ r = ratS (a * d) (b * c))
  (fun ds C ns es => ∃ x y a b c d, ds = [x, y] ∧ Pair x a b ∧ Pair y c d ∧ c = 0 ∧ C = ad.BadRatio ∧ ns = nWhat ∧ es = [.str "zero"])
theorem ok_over (T : Txt K mg ad) : FnOk Pg w K mg base (L2.CX Pg w) 3 ad.f_over ad.fd_over ["one", "other"] (spD K (pm_over ad)) := by
  have G_lowest := ok_lowest (Pg := Pg) (w := w) (base := base) T
  have G_BadRatio := ok_BadRatio (Pg := Pg) (w := w) (base := base) T
  refine fn_D T.F_over sc_over (fun W ds h => ?_) fun cdv A outer s E W G H ds hr o hp hx => ?_
  · obtain ⟨a, b, rfl, _⟩ := Pm.l2 h; rfl
  obtain ⟨x, y, rfl, a, b, c, d, ⟨p1, b0, za, zb⟩, ⟨p2, d0, zc, zd⟩⟩ := Pm.l2 hp
  refine ⟨_, (pss_cons (ps_if (pt_cmpR (op_eqD (Dz.hu64 hr)) (pe_ix ix_seq (pv 1) pe_int (fun _ _ => rfl)) pe_int (nomark _)) (pss_one (ps_raise rfl (takes_of rfl rfl rfl rfl) (pmk_oex T.o_BadRatio T.i_BadRatio T.t_BadRatio G_BadRatio (hr.mono (by first | decide | exact Nat.le_refl _)) T.bi_BadRatio .nil pass0 (by rfl) T.m_BadRatio (pa_cons pe_str pa_nil)))) pss_nil)
      (pss_one (ps_ret (pe_call G_lowest (hr.mono (by first | decide | exact Nat.le_refl _)) (by rfl) T.m_lowest T.k_lowest T.b_lowest .nil passL (pa_cons (pe_op op_mulW (pe_ix ix_seq (pv 0) pe_int (fun _ _ => rfl)) (pe_ix ix_seq (pv 1) pe_int (fun _ _ => rfl))) (pa_cons (pe_op op_mulW (pe_ix ix_seq (pv 0) pe_int (fun _ _ => rfl)) (pe_ix ix_seq (pv 1) pe_int (fun _ _ => rfl))) pa_nil)))))), ?_⟩
  walk_at "dz0"
  cases p1 <;> cases p2
  all_goals
    walk_at "dz*"
    · rename_i hz
      refine raiseR hx ?_
      walk_at "dz*"
      refine ⟨_, _, _, _, _, _, rfl, by constructor, by constructor, ?_, rfl, rfl, rfl⟩
      simpa [D.eqv, D.py, PyData.eqv] using hz
    · rename_i hz
      have hz : c ≠ 0 := by simpa [D.eqv, D.py, PyData.eqv] using hz
      refine od_ci (CMulW.of za zd (by decide)) ?_
      walk_at "dz*"
      refine od_ci (CMulW.of zb zc (by decide)) ?_
      walk_at "dz*"
      refine ⟨⟨_, _, rfl, rfl, by have := Int.mul_ne_zero (show b ≠ 0 by omega) hz; exact this, (zb.mul zc).mono (by decide)⟩, ?_, fun _ _ _ h => h⟩
      rintro _ ⟨_, _, e1, e2, rfl⟩
      cases e1; cases e2
      intro a' b' c' d' q1 q2
      cases q1; cases q2
      exact ⟨hz, rfl⟩
end K01

set_option Elab.async false
set_option linter.all false
set_option maxRecDepth 100000
set_option maxHeartbeats 3999999
namespace K01
open L2 PySem PyProof.Rows PySem.Spec Dz
local macro_rules | `(tactic| walk_at "dzk") => `(tactic| first
  | exact kit_NoneType_bool
  | exact kit_NoneType_int
  | exact kit_NoneType_str
  | exact kit_NoneType_tuple
  | exact kit_NoneType_list
  | exact kit_bool_bool
  | exact kit_bool_int
  | exact kit_bool_str
  | exact kit_bool_tuple
  | exact kit_bool_list
  | exact kit_int_bool
  | exact kit_int_int
  | exact kit_int_str
  | exact kit_int_tuple
  | exact kit_int_list
  | exact kit_str_bool
  | exact kit_str_int
  | exact kit_str_str
  | exact kit_str_tuple
  | exact kit_str_list
  | exact kit_tuple_bool
  | exact kit_tuple_int
  | exact kit_tuple_str
  | exact kit_tuple_tuple
  | exact kit_tuple_list
  | exact kit_list_bool
  | exact kit_list_int
  | exact kit_list_str
  | exact kit_list_tuple
  | exact kit_list_list)
local macro_rules | `(tactic| walk_at "dz!") => `(tactic| first
  | rfl | assumption | decide | (simp only [List.length_cons, List.length_nil, List.length_set]; omega) | (simp; done))
local macro_rules | `(tactic| walk_at "dz") => `(tactic| first
  | with_reducible refine ws_seq ?_
  | with_reducible refine ws_next ?_
  | with_reducible refine ws_ret ?_
  | with_reducible refine ws_retN ?_
  | with_reducible refine ws_if ?_
  | with_reducible refine ws_setO rfl ?_
  | with_reducible refine ws_asg ?_
  | with_reducible refine ws_par ?_
  | ((with_reducible refine wg_name ?_ ?_); (focus walk_at "dz!"))
  | with_reducible refine wg_tup (by with_unfolding_all rfl) ?_
  | with_reducible refine wg_lst (by with_unfolding_all rfl) ?_
  | with_reducible refine wg_cons ?_
  | with_reducible refine wg_nil ?_
  | (with_reducible refine wp_var rfl ?_)
  | with_reducible refine wp_int ?_
  | with_reducible refine wp_bl ?_
  | with_reducible refine wp_str ?_
  | with_reducible refine wp_non ?_
  | with_reducible refine wp_ref (by assumption) ?_
  | with_reducible refine wp_ty ?_
  | with_reducible refine wp_ixO rfl ?_
  | with_reducible refine wp_op ?_
  | with_reducible refine wp_un ?_
  | with_reducible refine wp_if ?_
  | with_reducible refine wp_andV ?_
  | with_reducible refine wp_orV ?_
  | with_reducible refine wp_notV ?_
  | with_reducible refine wp_notT ?_
  | with_reducible refine wp_isN ?_
  | with_reducible refine wp_notN ?_
  | with_reducible refine wp_nil ?_
  | with_reducible refine wp_cons ?_
  | with_reducible refine wp_tup ?_
  | with_reducible refine wp_lst ?_
  | ((with_reducible refine wp_isi2 ?_); dsimp only)
  | with_reducible refine wp_lenO rfl ?_
  | with_reducible refine wp_tupO rfl ?_
  | with_reducible refine wp_cb ?_
  | ((with_reducible refine wp_call0 rfl ?_); dsimp only [List.map, dOf, List.nil_append, List.cons_append, List.append_nil])
  | with_reducible refine wp_chain ?_
  | with_reducible refine wt_test ?_
  | with_reducible refine wt_B ?_
  | with_reducible refine wt_and ?_
  | with_reducible refine wt_or ?_
  | with_reducible refine wt_not ?_
  | with_reducible refine wt_tru ?_
  | with_reducible refine wt_yes ?_
  | with_reducible refine od_i ?_
  | with_reducible refine od_b ?_
  | with_reducible refine od_ixT (by first | with_unfolding_all rfl | exact atI_cons0) ?_
  | with_reducible refine od_ixL (by first | with_unfolding_all rfl | exact atI_cons0) ?_
  | with_reducible refine od_eq (by with_unfolding_all rfl) (by with_unfolding_all rfl) ?_
  | with_reducible refine od_ne (by with_unfolding_all rfl) (by with_unfolding_all rfl) ?_
  | with_reducible refine od_bb ?_
  | with_reducible refine ud_neg ?_
  | with_reducible refine cb_lenT ?_
  | with_reducible refine cb_lenL ?_
  | with_reducible refine cb_abs ?_
  | with_reducible refine cb_int ?_
  | with_reducible refine cb_gcd ?_
  | with_reducible refine cb_min ?_
  | with_reducible refine cb_max ?_
  | with_reducible refine cb_listT ?_
  | with_reducible refine cb_listL ?_
  | with_reducible refine cb_tupT ?_
  | with_reducible refine cb_tupL ?_
  | with_reducible refine cb_isi (by with_unfolding_all rfl) (by walk_at "dzk") ?_
  | with_reducible refine ⟨_, _, _, (by with_unfolding_all rfl), (by walk_at "dzk"), (by walk_at "dzk"), ?_⟩
  | with_reducible refine ix_of (by with_unfolding_all rfl) ?_
  | with_reducible refine st_of (by with_unfolding_all rfl) ?_
  | with_reducible refine od_pow (by decide) ?_
  | with_reducible refine Exists.intro _ (And.intro rfl ?_))
local macro_rules | `(tactic| walk_at "dz0") => `(tactic| dsimp only [cxOf, Cx.tr, Cx.suite, Cx.nox, Cx.blk, Pm.fn, slots, List.map, List.length, List.replicate, Nat.reduceAdd, Nat.reduceSub, List.cons_append, List.nil_append, List.append_nil, dOf])
local macro_rules | `(tactic| walk_at "dzb") => `(tactic| first
  | with_reducible refine br_t ?_
  | with_reducible refine br_f ?_
  | with_reducible refine br_t2 ?_
  | with_reducible refine br_f2 ?_
  | (with_reducible refine br_d ?_ ?_ <;> intro _)
  | (with_reducible refine br_d2 ?_ ?_ <;> intro _)
  | refine br_t ?_
  | refine br_f ?_
  | refine br_t2 ?_
  | refine br_f2 ?_
  | (with_reducible refine br_b ?_ ?_ <;> intro _)
  | (with_reducible refine br_b2 ?_ ?_ <;> intro _))
local macro_rules | `(tactic| walk_at "dz*") => `(tactic| repeat' (first
  | walk_at "dz"
  | walk_at "dzb"
  | (refine And.intro (show _ ≤ 10000 by (first | decide | (simp; done))) ?_)
  | dsimp only))

variable {Pg : Program} {w : World} {K : PySem.W.Frag} {mg : Str → Option Value} {base : Heap} {ad : Ad}

/-- rows of ratios -/
inductive RtL (n : Nat) : List D → List (Int × Int) → Prop
  | nil : RtL n [] []
  | cons {x : D} {a b : Int} {xs : List D} {ps : List (Int × Int)} (h : Rt n x a b) (t : RtL n xs ps) : RtL n (x :: xs) ((a, b) :: ps)
theorem RtL.len {n : Nat} : ∀ {xs : List D} {ps : List (Int × Int)}, RtL n xs ps → xs.length = ps.length
  | _, _, .nil => rfl
  | _, _, .cons _ t => congrArg (· + 1) t.len
theorem RtL.get {n : Nat} : ∀ {xs : List D} {ps : List (Int × Int)} {i : Nat} {x : D}, RtL n xs ps → xs[i]? = some x → ∃ a b, ps[i]? = some (a, b) ∧ Rt n x a b
  | _, _, _, _, .nil, h => by simp at h
  | _, _, 0, _, .cons h t, e => by
    cases e; exact ⟨_, _, rfl, h⟩
  | _, _, i + 1, _, .cons h t, e => RtL.get (i := i) t (by simpa using e)
def couple (p : Int × Int) : D := .tup [.int p.1, .int p.2]
def addR (s p : Int × Int) : Int × Int := ((s.1 * p.2 + p.1 * s.2) / gz (s.1 * p.2 + p.1 * s.2) (s.2 * p.2), (s.2 * p.2) / gz (s.1 * p.2 + p.1 * s.2) (s.2 * p.2))
theorem addR_rat (s p : Int × Int) : rat (s.1 * p.2 + p.1 * s.2) (s.2 * p.2) = couple (addR s p) := rfl
def sumR (ps : List (Int × Int)) : Int × Int := ps.foldl addR (0, 1)
theorem sumR_more (ps : List (Int × Int)) (p : Int × Int) : sumR (ps ++ [p]) = addR (sumR ps) p := by
  unfold sumR; rw [List.foldl_append]; rfl
theorem take_more {α : Type} : ∀ {l : List α} {i : Nat} {x : α}, l[i]? = some x → l.take (i + 1) = l.take i ++ [x] := fun {l i x} h => by
  rw [List.take_add_one, h]; rfl
/-- sizes along a row -/
structure Szs (n z : Nat) (s : Int × Int) : Prop where
  ps : 0 < s.2
  za : Bd z s.1
  zb : Bd z s.2
theorem Szs.add {n z : Nat} {s : Int × Int} {x : D} {a b : Int} (h : Szs n z s) (r : Rt n x a b) : Szs n (z + (n + 1)) (addR s (a, b)) := by
  have q0 : 0 < s.2 * b := Int.mul_pos h.ps r.ps
  have z2 : Bd (z + n) (s.2 * b) := h.zb.mul r.zb
  have z1 : Bd (z + (n + 1)) (s.1 * b + a * s.2) := by
    have := (h.za.mul r.zb).add ((r.za.mul h.zb).mono (show n + z ≤ z + n by omega))
    exact this
  have g0 := gz_pos (a := s.1 * b + a * s.2) (show s.2 * b ≠ 0 by omega)
  refine ⟨?_, z1.le (Int.natAbs_ediv_le_natAbs _ _), (z2.mono (by omega)).le (Int.natAbs_ediv_le_natAbs _ _)⟩
  show 0 < (s.2 * b) / gz (s.1 * b + a * s.2) (s.2 * b)
  have gd : gz (s.1 * b + a * s.2) (s.2 * b) ∣ s.2 * b := by
    unfold gz
    exact Int.ofNat_dvd_left.mpr (Nat.gcd_dvd_right _ _)
  have gl := Int.le_of_dvd q0 gd
  exact Int.ediv_pos_of_pos_of_dvd q0 (by omega) gd
theorem Szs.sum {n : Nat} : ∀ {xs : List D} {ps : List (Int × Int)} {z : Nat} {s : Int × Int}, RtL n xs ps → Szs n z s → ∀ i, Szs n (z + i * (n + 1)) ((ps.take i).foldl addR s)
  | xs, ps, z, s, h, k, 0 => by rw [List.take_zero, Nat.zero_mul]; exact k
  | _, _, z, s, .nil, k, i + 1 => ⟨k.ps, k.za.mono (Nat.le_add_right _ _), k.zb.mono (Nat.le_add_right _ _)⟩
  | _, _, z, s, .cons h t, k, i + 1 => by
    have := Szs.sum t (k.add h) i
    rw [List.take_succ_cons, List.foldl_cons]
    have e : z + (n + 1) + i * (n + 1) = z + (i + 1) * (n + 1) := by rw [Nat.add_mul, Nat.one_mul]; omega
    rw [e] at this
    exact this
theorem Szs.zero {n : Nat} : Szs n 1 (0, 1) := ⟨by decide, by unfold Bd; decide, by unfold Bd; decide⟩
theorem Szs.rt {n z : Nat} {s : Int × Int} (h : Szs n z s) (e : z ≤ 4000) : Rt 4000 (couple s) s.1 s.2 := ⟨.t _ _, h.ps, h.za.mono e, h.zb.mono e⟩
theorem Rt.mono {n m : Nat} {x : D} {a b : Int} (h : Rt n x a b) (e : n ≤ m) : Rt m x a b := ⟨h.pr, h.ps, h.za.mono e, h.zb.mono e⟩
abbrev Seq (d : D) (xs : List D) : Prop := d = .tup xs ∨ d = .lst xs
abbrev pm_sum_of : Pm := .f1 (fun _ x => ∃ xs ps, Seq x xs ∧ RtL 200 xs ps ∧ ps.length ≤ 16) (fun x r => ∀ xs ps, Seq x xs → RtL 200 xs ps → r = couple (sumR ps))
theorem RtL.det {n m : Nat} : ∀ {xs : List D} {ps qs : List (Int × Int)}, RtL n xs ps → RtL m xs qs → ps = qs
  | _, _, _, .nil, .nil => rfl
  | _, _, _, .cons h t, .cons h' t' => by
    obtain ⟨e1, e2⟩ := Pair.det h.pr h'.pr
    rw [e1, e2, t.det t']
theorem ok_sum_of (T : Txt K mg ad) : FnOk Pg w K mg base (L2.CX Pg w) 3 ad.f_sum_of ad.fd_sum_of ["ratios"] (spD K pm_sum_of) := by
  have G_plus := ok_plus (Pg := Pg) (w := w) (base := base) T
  have iZ := T.i_ZERO
  refine fn_D T.F_sum_of sc_sum_of (fun W ds h => ?_) fun cdv A outer s E W G H ds hr o hp hx => ?_
  · obtain ⟨a, rfl, _⟩ := Pm.l1 h; rfl
  obtain ⟨x, rfl, xs, ps, hs, hl, hz⟩ := Pm.l1 hp
  have fin : ∀ r, r = couple (sumR ps) → ∀ xs' ps', Seq x xs' → RtL 200 xs' ps' → r = couple (sumR ps') := by
    intro r hr xs' ps' e1 e2
    have : xs' = xs := by rcases hs with rfl | rfl <;> rcases e1 with e | e <;> cases e <;> rfl
    subst this
    rw [hl.det e2] at hr
    exact hr
  rcases hs with rfl | rfl
  · refine ⟨_, (pss_cons (ps_set (i := 1) sc_sum_of.nd rfl (by first | exact Or.inl rfl | exact Or.inr rfl) (pe_glob (v := .ref _) (by rfl) T.m_ZERO rfl))
      (pss_cons (ps_for (by passes_own) rfl (pi_tup (pv 0)) (pg_name (i := 2) sc_sum_of.nd rfl (by first | exact Or.inl rfl | exact Or.inr rfl)) (pss_one (ps_set (i := 1) sc_sum_of.nd rfl (by first | exact Or.inl rfl | exact Or.inr rfl) (pe_call G_plus (hr.mono (by first | decide | exact Nat.le_refl _)) (by rfl) T.m_plus T.k_plus T.b_plus .nil passL (pa_cons (pv 1) (pa_cons (pv 2) pa_nil))))))
      (pss_one (ps_ret (pv 1))))), ?_⟩
    walk_at "dz0"
    walk_at "dz*"
    refine ws_forT ?_
    walk_at "dz*"
    refine ⟨fun i q => ∃ z, q = [.dat (.tup xs), .dat (couple (sumR (ps.take i))), z], ⟨_, rfl⟩, ?_, ?_⟩
    · rintro i x q hi ⟨z, rfl⟩
      obtain ⟨a, b, hi2, r⟩ := hl.get hi
      have lt := (List.getElem?_eq_some_iff.mp hi2).1
      have sz := Szs.sum hl Szs.zero i
      walk_at "dz*"
      refine ⟨⟨_, _, a, b, sz.rt (by omega), r.mono (by decide)⟩, ?_, fun _ _ _ h => h⟩
      intro d hd
      have hd := hd _ _ a b (.t _ _) r.pr
      refine wg_name (by simp) ⟨.dat x, ?_⟩
      rw [hd, take_more hi2, sumR_more, addR_rat _ (a, b)]
      rfl
    · rintro q ⟨z, rfl⟩
      walk_at "dz*"
      refine fin _ ?_
      rw [hl.len, List.take_length]
  · refine ⟨_, (pss_cons (ps_set (i := 1) sc_sum_of.nd rfl (by first | exact Or.inl rfl | exact Or.inr rfl) (pe_glob (v := .ref _) (by rfl) T.m_ZERO rfl))
      (pss_cons (ps_for (by passes_own) rfl (pi_list (pv 0)) (pg_name (i := 2) sc_sum_of.nd rfl (by first | exact Or.inl rfl | exact Or.inr rfl)) (pss_one (ps_set (i := 1) sc_sum_of.nd rfl (by first | exact Or.inl rfl | exact Or.inr rfl) (pe_call G_plus (hr.mono (by first | decide | exact Nat.le_refl _)) (by rfl) T.m_plus T.k_plus T.b_plus .nil passL (pa_cons (pv 1) (pa_cons (pv 2) pa_nil))))))
      (pss_one (ps_ret (pv 1))))), ?_⟩
    walk_at "dz0"
    walk_at "dz*"
    refine ws_forL ?_
    walk_at "dz*"
    refine ⟨fun i q => ∃ z, q = [.dat (.lst xs), .dat (couple (sumR (ps.take i))), z], ⟨_, rfl⟩, ?_, ?_⟩
    · rintro i x q hi ⟨z, rfl⟩
      obtain ⟨a, b, hi2, r⟩ := hl.get hi
      have lt := (List.getElem?_eq_some_iff.mp hi2).1
      have sz := Szs.sum hl Szs.zero i
      walk_at "dz*"
      refine ⟨⟨_, _, a, b, sz.rt (by omega), r.mono (by decide)⟩, ?_, fun _ _ _ h => h⟩
      intro d hd
      have hd := hd _ _ a b (.t _ _) r.pr
      refine wg_name (by simp) ⟨.dat x, ?_⟩
      rw [hd, take_more hi2, sumR_more, addR_rat _ (a, b)]
      rfl
    · rintro q ⟨z, rfl⟩
      walk_at "dz*"
      refine fin _ ?_
      rw [hl.len, List.take_length]

/-! ### the least, the greatest -/
def lessR (p b : Int × Int) : Int × Int := if p.1 * b.2 < b.1 * p.2 then p else b
def moreR (p b : Int × Int) : Int × Int := if p.1 * b.2 > b.1 * p.2 then p else b
theorem lessR_y {p b : Int × Int} (h : p.1 * b.2 < b.1 * p.2) : lessR p b = p := if_pos h
theorem lessR_n {p b : Int × Int} (h : ¬ p.1 * b.2 < b.1 * p.2) : lessR p b = b := if_neg h
theorem moreR_y {p b : Int × Int} (h : p.1 * b.2 > b.1 * p.2) : moreR p b = p := if_pos h
theorem moreR_n {p b : Int × Int} (h : ¬ p.1 * b.2 > b.1 * p.2) : moreR p b = b := if_neg h
def leastR (ps : List (Int × Int)) : Int × Int := match ps with
  | [] => (0, 1)
  | p :: r => (p :: r).foldl (fun b p => lessR p b) p
def greatestR (ps : List (Int × Int)) : Int × Int := match ps with
  | [] => (0, 1)
  | p :: r => (p :: r).foldl (fun b p => moreR p b) p
theorem cmp_lt (a b c d : Int) : decide (cmp a b c d < 0) = decide (a * d < c * b) := by
  unfold cmp
  by_cases h : a * d = c * b
  · rw [if_pos h]; simp; omega
  · rw [if_neg h]
    by_cases k : a * d < c * b
    · rw [if_pos k]; simp [k]
    · rw [if_neg k]; simp [k]
theorem cmp_gt (a b c d : Int) : decide (0 < cmp a b c d) = decide (a * d > c * b) := by
  unfold cmp
  by_cases h : a * d = c * b
  · rw [if_pos h]; simp; omega
  · rw [if_neg h]
    by_cases k : a * d < c * b
    · rw [if_pos k]; simp; omega
    · rw [if_neg k]; simp; omega
/-- a row's item is its best one so far -/
def BestAt (n : Nat) (f : Int × Int → Int × Int → Int × Int) (p0 : Int × Int) (ps : List (Int × Int)) (i : Nat) (y : D) : Prop := Rt n y ((ps.take i).foldl (fun b p => f p b) p0).1 ((ps.take i).foldl (fun b p => f p b) p0).2
abbrev pm_least_of : Pm := .f1 (fun _ x => ∃ xs ps, Seq x xs ∧ RtL 200 xs ps ∧ ps ≠ []) (fun x r => ∀ xs ps, Seq x xs → RtL 200 xs ps → r = couple (leastR ps))
abbrev pm_greatest_of : Pm := .f1 (fun _ x => ∃ xs ps, Seq x xs ∧ RtL 200 xs ps ∧ ps ≠ []) (fun x r => ∀ xs ps, Seq x xs → RtL 200 xs ps → r = couple (greatestR ps))
theorem ok_least_of (T : Txt K mg ad) : FnOk Pg w K mg base (L2.CX Pg w) 2 ad.f_least_of ad.fd_least_of ["ratios"] (spD K pm_least_of) := by
  have G_compare := ok_compare (Pg := Pg) (w := w) (base := base) T
  refine fn_D T.F_least_of sc_least_of (fun W ds h => ?_) fun cdv A outer s E W G H ds hr o hp hx => ?_
  · obtain ⟨a, rfl, _⟩ := Pm.l1 h; rfl
  obtain ⟨x, rfl, xs, ps, hs, hl, hn⟩ := Pm.l1 hp
  have fin : ∀ r, r = couple (leastR ps) → ∀ xs' ps', Seq x xs' → RtL 200 xs' ps' → r = couple (leastR ps') := by
    intro r hr xs' ps' e1 e2
    have : xs' = xs := by rcases hs with rfl | rfl <;> rcases e1 with e | e <;> cases e <;> rfl
    subst this
    rw [hl.det e2] at hr
    exact hr
  cases hl with
  | nil => exact absurd rfl hn
  | @cons x0 a0 b0 xr pr r0 t0 =>
  have hl : RtL 200 (x0 :: xr) ((a0, b0) :: pr) := .cons r0 t0
  rcases hs with rfl | rfl
  · refine ⟨_, (pss_cons (ps_set (i := 1) sc_least_of.nd rfl (by first | exact Or.inl rfl | exact Or.inr rfl) (pe_ix ix_seq (pv 0) pe_int (fun _ _ => rfl)))
      (pss_cons (ps_for (by passes_own) rfl (pi_tup (pv 0)) (pg_name (i := 2) sc_least_of.nd rfl (by first | exact Or.inl rfl | exact Or.inr rfl)) (pss_one (ps_if (pt_cmpR op_lt (pe_call G_compare (hr.mono (by first | decide | exact Nat.le_refl _)) (by rfl) T.m_compare T.k_compare T.b_compare .nil passL (pa_cons (pv 2) (pa_cons (pv 1) pa_nil))) pe_int (nomark _)) (pss_one (ps_set (i := 1) sc_least_of.nd rfl (by first | exact Or.inl rfl | exact Or.inr rfl) (pv 2))) pss_nil)))
      (pss_one (ps_ret (pe_callTy (T := "tuple") call_tuple_of (by rfl) T.b_tuple (by decide +kernel) (pa_cons (pv 1) pa_nil)))))), ?_⟩
    walk_at "dz0"
    walk_at "dz*"
    refine ws_forT ?_
    walk_at "dz*"
    refine ⟨fun i q => ∃ y z, q = [.dat _, .dat y, z] ∧ BestAt 200 lessR (a0, b0) ((a0, b0) :: pr) i y, ⟨x0, _, rfl, r0⟩, ?_, ?_⟩
    · rintro i x q hi ⟨y, z, rfl, hy⟩
      obtain ⟨a, b, hi2, r⟩ := hl.get hi
      walk_at "dz*"
      refine ⟨⟨a, b, _, _, r.mono (by decide), Rt.mono hy (by decide)⟩, ?_, fun _ _ _ h => h⟩
      intro d hd
      obtain rfl := hd a b _ _ r.pr hy.pr
      walk_at "dz*"
      · rename_i hc
        refine ⟨x, _, rfl, ?_⟩
        show Rt 200 x _ _
        rw [take_more hi2, List.foldl_append]
        show Rt 200 x (lessR (a, b) _).1 (lessR (a, b) _).2
        have hc2 := (decide_eq_decide.mp (cmp_lt a b _ _)).mp hc
        rw [lessR_y hc2]
        exact r
      · rename_i hc
        refine ⟨y, _, rfl, ?_⟩
        show Rt 200 y _ _
        rw [take_more hi2, List.foldl_append]
        show Rt 200 y (lessR (a, b) _).1 (lessR (a, b) _).2
        have hc2 := fun h => hc ((decide_eq_decide.mp (cmp_lt a b _ _)).mpr h)
        rw [lessR_n hc2]
        exact hy
    · rintro q ⟨y, z, rfl, hy⟩
      have e : (x0 :: xr).length = ((a0, b0) :: pr).length := hl.len
      unfold BestAt at hy
      rw [e, List.take_length] at hy
      cases z
      all_goals
        have hp := hy.pr
        generalize hg : (((a0, b0) :: pr).foldl (fun b p => lessR p b) (a0, b0)) = best at hp
        obtain ⟨u, v⟩ := best
        cases hp
        all_goals
          walk_at "dz*"
          refine fin _ ?_
          show _ = couple (((a0, b0) :: pr).foldl (fun b p => lessR p b) (a0, b0))
          rw [hg]
          rfl
  · refine ⟨_, (pss_cons (ps_set (i := 1) sc_least_of.nd rfl (by first | exact Or.inl rfl | exact Or.inr rfl) (pe_ix ix_seq (pv 0) pe_int (fun _ _ => rfl)))
      (pss_cons (ps_for (by passes_own) rfl (pi_list (pv 0)) (pg_name (i := 2) sc_least_of.nd rfl (by first | exact Or.inl rfl | exact Or.inr rfl)) (pss_one (ps_if (pt_cmpR op_lt (pe_call G_compare (hr.mono (by first | decide | exact Nat.le_refl _)) (by rfl) T.m_compare T.k_compare T.b_compare .nil passL (pa_cons (pv 2) (pa_cons (pv 1) pa_nil))) pe_int (nomark _)) (pss_one (ps_set (i := 1) sc_least_of.nd rfl (by first | exact Or.inl rfl | exact Or.inr rfl) (pv 2))) pss_nil)))
      (pss_one (ps_ret (pe_callTy (T := "tuple") call_tuple_of (by rfl) T.b_tuple (by decide +kernel) (pa_cons (pv 1) pa_nil)))))), ?_⟩
    walk_at "dz0"
    walk_at "dz*"
    refine ws_forL ?_
    walk_at "dz*"
    refine ⟨fun i q => ∃ y z, q = [.dat _, .dat y, z] ∧ BestAt 200 lessR (a0, b0) ((a0, b0) :: pr) i y, ⟨x0, _, rfl, r0⟩, ?_, ?_⟩
    · rintro i x q hi ⟨y, z, rfl, hy⟩
      obtain ⟨a, b, hi2, r⟩ := hl.get hi
      walk_at "dz*"
      refine ⟨⟨a, b, _, _, r.mono (by decide), Rt.mono hy (by decide)⟩, ?_, fun _ _ _ h => h⟩
      intro d hd
      obtain rfl := hd a b _ _ r.pr hy.pr
      walk_at "dz*"
      · rename_i hc
        refine ⟨x, _, rfl, ?_⟩
        show Rt 200 x _ _
        rw [take_more hi2, List.foldl_append]
        show Rt 200 x (lessR (a, b) _).1 (lessR (a, b) _).2
        have hc2 := (decide_eq_decide.mp (cmp_lt a b _ _)).mp hc
        rw [lessR_y hc2]
        exact r
      · rename_i hc
        refine ⟨y, _, rfl, ?_⟩
        show Rt 200 y _ _
        rw [take_more hi2, List.foldl_append]
        show Rt 200 y (lessR (a, b) _).1 (lessR (a, b) _).2
        have hc2 := fun h => hc ((decide_eq_decide.mp (cmp_lt a b _ _)).mpr h)
        rw [lessR_n hc2]
        exact hy
    · rintro q ⟨y, z, rfl, hy⟩
      have e : (x0 :: xr).length = ((a0, b0) :: pr).length := hl.len
      unfold BestAt at hy
      rw [e, List.take_length] at hy
      cases z
      all_goals
        have hp := hy.pr
        generalize hg : (((a0, b0) :: pr).foldl (fun b p => lessR p b) (a0, b0)) = best at hp
        obtain ⟨u, v⟩ := best
        cases hp
        all_goals
          walk_at "dz*"
          refine fin _ ?_
          show _ = couple (((a0, b0) :: pr).foldl (fun b p => lessR p b) (a0, b0))
          rw [hg]
          rfl
theorem ok_greatest_of (T : Txt K mg ad) : FnOk Pg w K mg base (L2.CX Pg w) 2 ad.f_greatest_of ad.fd_greatest_of ["ratios"] (spD K pm_greatest_of) := by
  have G_compare := ok_compare (Pg := Pg) (w := w) (base := base) T
  refine fn_D T.F_greatest_of sc_greatest_of (fun W ds h => ?_) fun cdv A outer s E W G H ds hr o hp hx => ?_
  · obtain ⟨a, rfl, _⟩ := Pm.l1 h; rfl
  obtain ⟨x, rfl, xs, ps, hs, hl, hn⟩ := Pm.l1 hp
  have fin : ∀ r, r = couple (greatestR ps) → ∀ xs' ps', Seq x xs' → RtL 200 xs' ps' → r = couple (greatestR ps') := by
    intro r hr xs' ps' e1 e2
    have : xs' = xs := by rcases hs with rfl | rfl <;> rcases e1 with e | e <;> cases e <;> rfl
    subst this
    rw [hl.det e2] at hr
    exact hr
  cases hl with
  | nil => exact absurd rfl hn
  | @cons x0 a0 b0 xr pr r0 t0 =>
  have hl : RtL 200 (x0 :: xr) ((a0, b0) :: pr) := .cons r0 t0
  rcases hs with rfl | rfl
  · refine ⟨_, (pss_cons (ps_set (i := 1) sc_greatest_of.nd rfl (by first | exact Or.inl rfl | exact Or.inr rfl) (pe_ix ix_seq (pv 0) pe_int (fun _ _ => rfl)))
      (pss_cons (ps_for (by passes_own) rfl (pi_tup (pv 0)) (pg_name (i := 2) sc_greatest_of.nd rfl (by first | exact Or.inl rfl | exact Or.inr rfl)) (pss_one (ps_if (pt_cmpR op_gt (pe_call G_compare (hr.mono (by first | decide | exact Nat.le_refl _)) (by rfl) T.m_compare T.k_compare T.b_compare .nil passL (pa_cons (pv 2) (pa_cons (pv 1) pa_nil))) pe_int (nomark _)) (pss_one (ps_set (i := 1) sc_greatest_of.nd rfl (by first | exact Or.inl rfl | exact Or.inr rfl) (pv 2))) pss_nil)))
      (pss_one (ps_ret (pe_callTy (T := "tuple") call_tuple_of (by rfl) T.b_tuple (by decide +kernel) (pa_cons (pv 1) pa_nil)))))), ?_⟩
    walk_at "dz0"
    walk_at "dz*"
    refine ws_forT ?_
    walk_at "dz*"
    refine ⟨fun i q => ∃ y z, q = [.dat _, .dat y, z] ∧ BestAt 200 moreR (a0, b0) ((a0, b0) :: pr) i y, ⟨x0, _, rfl, r0⟩, ?_, ?_⟩
    · rintro i x q hi ⟨y, z, rfl, hy⟩
      obtain ⟨a, b, hi2, r⟩ := hl.get hi
      walk_at "dz*"
      refine ⟨⟨a, b, _, _, r.mono (by decide), Rt.mono hy (by decide)⟩, ?_, fun _ _ _ h => h⟩
      intro d hd
      obtain rfl := hd a b _ _ r.pr hy.pr
      walk_at "dz*"
      · rename_i hc
        refine ⟨x, _, rfl, ?_⟩
        show Rt 200 x _ _
        rw [take_more hi2, List.foldl_append]
        show Rt 200 x (moreR (a, b) _).1 (moreR (a, b) _).2
        have hc2 := (decide_eq_decide.mp (cmp_gt a b _ _)).mp hc
        rw [moreR_y hc2]
        exact r
      · rename_i hc
        refine ⟨y, _, rfl, ?_⟩
        show Rt 200 y _ _
        rw [take_more hi2, List.foldl_append]
        show Rt 200 y (moreR (a, b) _).1 (moreR (a, b) _).2
        have hc2 := fun h => hc ((decide_eq_decide.mp (cmp_gt a b _ _)).mpr h)
        rw [moreR_n hc2]
        exact hy
    · rintro q ⟨y, z, rfl, hy⟩
      have e : (x0 :: xr).length = ((a0, b0) :: pr).length := hl.len
      unfold BestAt at hy
      rw [e, List.take_length] at hy
      cases z
      all_goals
        have hp := hy.pr
        generalize hg : (((a0, b0) :: pr).foldl (fun b p => moreR p b) (a0, b0)) = best at hp
        obtain ⟨u, v⟩ := best
        cases hp
        all_goals
          walk_at "dz*"
          refine fin _ ?_
          show _ = couple (((a0, b0) :: pr).foldl (fun b p => moreR p b) (a0, b0))
          rw [hg]
          rfl
  · refine ⟨_, (pss_cons (ps_set (i := 1) sc_greatest_of.nd rfl (by first | exact Or.inl rfl | exact Or.inr rfl) (pe_ix ix_seq (pv 0) pe_int (fun _ _ => rfl)))
      (pss_cons (ps_for (by passes_own) rfl (pi_list (pv 0)) (pg_name (i := 2) sc_greatest_of.nd rfl (by first | exact Or.inl rfl | exact Or.inr rfl)) (pss_one (ps_if (pt_cmpR op_gt (pe_call G_compare (hr.mono (by first | decide | exact Nat.le_refl _)) (by rfl) T.m_compare T.k_compare T.b_compare .nil passL (pa_cons (pv 2) (pa_cons (pv 1) pa_nil))) pe_int (nomark _)) (pss_one (ps_set (i := 1) sc_greatest_of.nd rfl (by first | exact Or.inl rfl | exact Or.inr rfl) (pv 2))) pss_nil)))
      (pss_one (ps_ret (pe_callTy (T := "tuple") call_tuple_of (by rfl) T.b_tuple (by decide +kernel) (pa_cons (pv 1) pa_nil)))))), ?_⟩
    walk_at "dz0"
    walk_at "dz*"
    refine ws_forL ?_
    walk_at "dz*"
    refine ⟨fun i q => ∃ y z, q = [.dat _, .dat y, z] ∧ BestAt 200 moreR (a0, b0) ((a0, b0) :: pr) i y, ⟨x0, _, rfl, r0⟩, ?_, ?_⟩
    · rintro i x q hi ⟨y, z, rfl, hy⟩
      obtain ⟨a, b, hi2, r⟩ := hl.get hi
      walk_at "dz*"
      refine ⟨⟨a, b, _, _, r.mono (by decide), Rt.mono hy (by decide)⟩, ?_, fun _ _ _ h => h⟩
      intro d hd
      obtain rfl := hd a b _ _ r.pr hy.pr
      walk_at "dz*"
      · rename_i hc
        refine ⟨x, _, rfl, ?_⟩
        show Rt 200 x _ _
        rw [take_more hi2, List.foldl_append]
        show Rt 200 x (moreR (a, b) _).1 (moreR (a, b) _).2
        have hc2 := (decide_eq_decide.mp (cmp_gt a b _ _)).mp hc
        rw [moreR_y hc2]
        exact r
      · rename_i hc
        refine ⟨y, _, rfl, ?_⟩
        show Rt 200 y _ _
        rw [take_more hi2, List.foldl_append]
        show Rt 200 y (moreR (a, b) _).1 (moreR (a, b) _).2
        have hc2 := fun h => hc ((decide_eq_decide.mp (cmp_gt a b _ _)).mpr h)
        rw [moreR_n hc2]
        exact hy
    · rintro q ⟨y, z, rfl, hy⟩
      have e : (x0 :: xr).length = ((a0, b0) :: pr).length := hl.len
      unfold BestAt at hy
      rw [e, List.take_length] at hy
      cases z
      all_goals
        have hp := hy.pr
        generalize hg : (((a0, b0) :: pr).foldl (fun b p => moreR p b) (a0, b0)) = best at hp
        obtain ⟨u, v⟩ := best
        cases hp
        all_goals
          walk_at "dz*"
          refine fin _ ?_
          show _ = couple (((a0, b0) :: pr).foldl (fun b p => moreR p b) (a0, b0))
          rw [hg]
          rfl
end K01

set_option Elab.async false
set_option linter.all false
set_option maxRecDepth 100000
set_option maxHeartbeats 3999999
namespace K01
open L2 PySem PyProof.Rows PySem.Spec Dz
local macro_rules | `(tactic| walk_at "dzk") => `(tactic| first
  | exact kit_NoneType_bool
  | exact kit_NoneType_int
  | exact kit_NoneType_str
  | exact kit_NoneType_tuple
  | exact kit_NoneType_list
  | exact kit_bool_bool
  | exact kit_bool_int
  | exact kit_bool_str
  | exact kit_bool_tuple
  | exact kit_bool_list
  | exact kit_int_bool
  | exact kit_int_int
  | exact kit_int_str
  | exact kit_int_tuple
  | exact kit_int_list
  | exact kit_str_bool
  | exact kit_str_int
  | exact kit_str_str
  | exact kit_str_tuple
  | exact kit_str_list
  | exact kit_tuple_bool
  | exact kit_tuple_int
  | exact kit_tuple_str
  | exact kit_tuple_tuple
  | exact kit_tuple_list
  | exact kit_list_bool
  | exact kit_list_int
  | exact kit_list_str
  | exact kit_list_tuple
  | exact kit_list_list)
local macro_rules | `(tactic| walk_at "dz!") => `(tactic| first
  | rfl | assumption | decide | (simp only [List.length_cons, List.length_nil, List.length_set]; omega) | (simp; done))
local macro_rules | `(tactic| walk_at "dz") => `(tactic| first
  | with_reducible refine ws_seq ?_
  | with_reducible refine ws_next ?_
  | with_reducible refine ws_ret ?_
  | with_reducible refine ws_retN ?_
  | with_reducible refine ws_if ?_
  | with_reducible refine ws_setO rfl ?_
  | with_reducible refine ws_asg ?_
  | with_reducible refine ws_par ?_
  | ((with_reducible refine wg_name ?_ ?_); (focus walk_at "dz!"))
  | with_reducible refine wg_tup (by with_unfolding_all rfl) ?_
  | with_reducible refine wg_lst (by with_unfolding_all rfl) ?_
  | with_reducible refine wg_cons ?_
  | with_reducible refine wg_nil ?_
  | (with_reducible refine wp_var rfl ?_)
  | with_reducible refine wp_int ?_
  | with_reducible refine wp_bl ?_
  | with_reducible refine wp_str ?_
  | with_reducible refine wp_non ?_
  | with_reducible refine wp_ref (by assumption) ?_
  | with_reducible refine wp_ty ?_
  | with_reducible refine wp_ixO rfl ?_
  | with_reducible refine wp_op ?_
  | with_reducible refine wp_un ?_
  | with_reducible refine wp_if ?_
  | with_reducible refine wp_andV ?_
  | with_reducible refine wp_orV ?_
  | with_reducible refine wp_notV ?_
  | with_reducible refine wp_notT ?_
  | with_reducible refine wp_isN ?_
  | with_reducible refine wp_notN ?_
  | with_reducible refine wp_nil ?_
  | with_reducible refine wp_cons ?_
  | with_reducible refine wp_tup ?_
  | with_reducible refine wp_lst ?_
  | ((with_reducible refine wp_isi2 ?_); dsimp only)
  | with_reducible refine wp_lenO rfl ?_
  | with_reducible refine wp_tupO rfl ?_
  | with_reducible refine wp_cb ?_
  | ((with_reducible refine wp_call0 rfl ?_); dsimp only [List.map, dOf, List.nil_append, List.cons_append, List.append_nil])
  | with_reducible refine wp_chain ?_
  | with_reducible refine wt_test ?_
  | with_reducible refine wt_B ?_
  | with_reducible refine wt_and ?_
  | with_reducible refine wt_or ?_
  | with_reducible refine wt_not ?_
  | with_reducible refine wt_tru ?_
  | with_reducible refine wt_yes ?_
  | with_reducible refine od_i ?_
  | with_reducible refine od_b ?_
  | with_reducible refine od_ixT (by first | with_unfolding_all rfl | exact atI_cons0) ?_
  | with_reducible refine od_ixL (by first | with_unfolding_all rfl | exact atI_cons0) ?_
  | with_reducible refine od_eq (by with_unfolding_all rfl) (by with_unfolding_all rfl) ?_
  | with_reducible refine od_ne (by with_unfolding_all rfl) (by with_unfolding_all rfl) ?_
  | with_reducible refine od_bb ?_
  | with_reducible refine ud_neg ?_
  | with_reducible refine cb_lenT ?_
  | with_reducible refine cb_lenL ?_
  | with_reducible refine cb_abs ?_
  | with_reducible refine cb_int ?_
  | with_reducible refine cb_gcd ?_
  | with_reducible refine cb_min ?_
  | with_reducible refine cb_max ?_
  | with_reducible refine cb_listT ?_
  | with_reducible refine cb_listL ?_
  | with_reducible refine cb_tupT ?_
  | with_reducible refine cb_tupL ?_
  | with_reducible refine cb_isi (by with_unfolding_all rfl) (by walk_at "dzk") ?_
  | with_reducible refine ⟨_, _, _, (by with_unfolding_all rfl), (by walk_at "dzk"), (by walk_at "dzk"), ?_⟩
  | with_reducible refine ix_of (by with_unfolding_all rfl) ?_
  | with_reducible refine st_of (by with_unfolding_all rfl) ?_
  | with_reducible refine od_pow (by decide) ?_
  | with_reducible refine Exists.intro _ (And.intro rfl ?_))
local macro_rules | `(tactic| walk_at "dz0") => `(tactic| dsimp only [cxOf, Cx.tr, Cx.suite, Cx.nox, Cx.blk, Pm.fn, slots, List.map, List.length, List.replicate, Nat.reduceAdd, Nat.reduceSub, List.cons_append, List.nil_append, List.append_nil, dOf])
local macro_rules | `(tactic| walk_at "dzb") => `(tactic| first
  | with_reducible refine br_t ?_
  | with_reducible refine br_f ?_
  | with_reducible refine br_t2 ?_
  | with_reducible refine br_f2 ?_
  | (with_reducible refine br_d ?_ ?_ <;> intro _)
  | (with_reducible refine br_d2 ?_ ?_ <;> intro _)
  | refine br_t ?_
  | refine br_f ?_
  | refine br_t2 ?_
  | refine br_f2 ?_
  | (with_reducible refine br_b ?_ ?_ <;> intro _)
  | (with_reducible refine br_b2 ?_ ?_ <;> intro _))
local macro_rules | `(tactic| walk_at "dz*") => `(tactic| repeat' (first
  | walk_at "dz"
  | walk_at "dzb"
  | (refine And.intro (show _ ≤ 10000 by (first | decide | (simp; done))) ?_)
  | dsimp only))

variable {Pg : Program} {w : World} {K : PySem.W.Frag} {mg : Str → Option Value} {base : Heap} {ad : Ad}

abbrev pm_mixed : Pm := .f2 (fun _ x y => ∃ a b, x = .int a ∧ y = .int b ∧ Bd 100 a ∧ Bd 100 b) (fun _ _ r => ∃ v, r = .int v ∧ 0 ≤ v)
theorem ok_mixed (T : Txt K mg ad) : FnOk Pg w K mg base (L2.CX Pg w) 1 ad.f__law_mixed ad.fd__law_mixed ["_law_number", "_law_turn"] (spD K pm_mixed) := by
  refine fn_D T.F__law_mixed sc__law_mixed (fun W ds h => ?_) fun cdv A outer s E W G H ds hr o hp hx => ?_
  · obtain ⟨a, b, rfl, _⟩ := Pm.l2 h; rfl
  obtain ⟨_, _, rfl, a, b, rfl, rfl, za, zb⟩ := Pm.l2 hp
  refine ⟨_, (pss_cons (ps_set (i := 2) sc__law_mixed.nd rfl (by first | exact Or.inl rfl | exact Or.inr rfl) (pe_op op_mod (pe_callTy (T := "int") call_int1 (by rfl) T.b_int (by decide +kernel) (pa_cons (pe_op op_add (pe_op op_add (pe_op op_mulW (pv 0) pe_int) (pe_op op_mulW (pv 1) pe_int)) pe_int) pa_nil)) pe_int))
      (pss_cons (ps_set (i := 3) sc__law_mixed.nd rfl (by first | exact Or.inl rfl | exact Or.inr rfl) (pe_op op_mod (pe_callTy (T := "int") call_int1 (by rfl) T.b_int (by decide +kernel) (pa_cons (pe_op op_add (pe_op op_add (pe_op op_mulW (pv 2) (pv 2)) (pe_op op_mulW (pv 1) pe_int)) (pe_op op_fdivW (pv 2) pe_int)) pa_nil)) pe_int))
      (pss_one (ps_ret (pe_op op_fdivW (pe_callTy (T := "int") call_int1 (by rfl) T.b_int (by decide +kernel) (pa_cons (pe_op op_mod (pe_callTy (T := "int") call_int1 (by rfl) T.b_int (by decide +kernel) (pa_cons (pe_op op_add (pe_op op_mulW (pv 3) pe_int) (pe_op op_fdivW (pv 2) pe_int)) pa_nil)) pe_int) pa_nil)) pe_int))))), ?_⟩
  walk_at "dz0"
  walk_at "dz*"
  refine od_ci (CMulW.of za (Bd.lit (n := 20) (by decide)) (by decide)) ?_
  walk_at "dz*"
  refine od_ci (CMulW.of zb (Bd.lit (n := 20) (by decide)) (by decide)) ?_
  walk_at "dz*"
  refine od_modF (by decide) fun x x0 x1 => ?_
  have zx : Bd 40 x := .of_range x0 x1 (.lit (by decide))
  walk_at "dz*"
  refine od_ci (CMulW.of zx zx (by decide)) ?_
  walk_at "dz*"
  refine od_ci (CMulW.of zb (Bd.lit (n := 20) (by decide)) (by decide)) ?_
  walk_at "dz*"
  refine od_divF (n := 20) (by decide) (.lit (by decide)) (by decide) fun u u0 u1 => ?_
  walk_at "dz*"
  refine od_modF (by decide) fun y y0 y1 => ?_
  have zy : Bd 40 y := .of_range y0 y1 (.lit (by decide))
  walk_at "dz*"
  refine od_ci (CMulW.of zy (Bd.lit (n := 20) (by decide)) (by decide)) ?_
  walk_at "dz*"
  refine od_divF (n := 20) (by decide) (.lit (by decide)) (by decide) fun u u0 u1 => ?_
  walk_at "dz*"
  refine od_modF (by decide) fun z z0 z1 => ?_
  walk_at "dz*"
  refine od_divF (n := 20) (by decide) (.lit (by decide)) (by decide) fun v v0 v1 => ?_
  exact ⟨v, rfl, (v0 z0).1⟩
theorem cell_at {cells : List Int} {i : Int} (h0 : 0 ≤ i) (h1 : i < (cells.length : Int)) : ∃ c, c ∈ cells ∧ atI (cells.map D.int) i = some (.int c) := by
  obtain ⟨jj, rfl⟩ := Int.eq_ofNat_of_zero_le h0
  have hj : jj < cells.length := by omega
  refine ⟨cells[jj], List.getElem_mem hj, ?_⟩
  refine atI_nat ?_
  rw [List.getElem?_map, List.getElem?_eq_getElem hj]; rfl
abbrev pm_take (K : PySem.W.Frag) : Pm := .f2 (fun W x y => ∃ p m, x = .adr p ∧ y = .int m ∧ 0 < m ∧ Bd 8000 m ∧ W = HandW K p) (fun _ y r => ∃ m v, y = .int m ∧ r = .int v ∧ 0 ≤ v ∧ v < m)
theorem ok_take (T : Txt K mg ad) : FnOk Pg w K mg base (L2.CX Pg w) 2 ad.f__law_take ad.fd__law_take ["_law_hand_here", "_law_many"] (spD K (pm_take K)) := by
  have G__law_mixed := ok_mixed (Pg := Pg) (w := w) (base := base) T
  refine fn_hand T.F__law_take sc__law_take (fun W ds h => by obtain ⟨a, b, rfl, _⟩ := Pm.l2 h; rfl) (fun W ds h => by obtain ⟨_, b, rfl, p, m, rfl, rfl, _, _, rfl⟩ := Pm.l2 h; exact ⟨p, _, rfl, rfl⟩) fun cdv A outer s E G H a es cells i r t hr hp ok => ?_
  obtain ⟨_, _, e1, p, m, e2, rfl, m0, zm, _⟩ := Pm.l2 hp
  cases e2; cases e1
  refine ⟨_, (pss_cons (ps_if (pw_and (pt_cmpR (op_eqD (Dz.hu64 hr)) (pe_ix ix_seq (pv 0) pe_int (fun _ _ => rfl)) pe_int (nomark _)) (pw_and1 (pt_cmpR op_lt (pe_ix ix_seq (pv 0) pe_int (fun _ _ => rfl)) (pe_callB call_len_seq (by rfl) T.b_len (by decide +kernel) (pa_cons (pe_ix ix_seq (pv 0) pe_int (fun _ _ => rfl)) pa_nil)) (nomark _)))).pt (pss_cons (ps_set (i := 2) sc__law_take.nd rfl (by first | exact Or.inl rfl | exact Or.inr rfl) (pe_ix ix_seq (pe_ix ix_seq (pv 0) pe_int (fun _ _ => rfl)) (pe_ix ix_seq (pv 0) pe_int (fun _ _ => rfl)) (fun _ _ => rfl)))
      (pss_cons (ps_asg (pe_op op_add (pe_ix ix_seq (pv 0) pe_int (fun _ _ => rfl)) pe_int) (pg_sub (pv 0) pe_int set_list))
      (pss_cons (ps_if (pt_cmpR op_lt (pv 2) (pe_op op_pow pe_int pe_int) (nomark _)) (pss_one (ps_ret (pe_op op_mod (pe_callTy (T := "int") call_int1 (by rfl) T.b_int (by decide +kernel) (pa_cons (pe_call G__law_mixed (hr.mono (by first | decide | exact Nat.le_refl _)) (by rfl) T.m__law_mixed T.k__law_mixed T.b__law_mixed .nil passL (pa_cons (pe_op op_mod (pe_callTy (T := "int") call_int1 (by rfl) T.b_int (by decide +kernel) (pa_cons (pv 2) pa_nil)) pe_int) (pa_cons (pe_ix ix_seq (pv 0) pe_int (fun _ _ => rfl)) pa_nil))) pa_nil)) (pv 1)))) pss_nil)
      (pss_one (ps_asg (pv 2) (pg_sub (pv 0) pe_int set_list)))))) pss_nil)
      (pss_cons (ps_if (pt_cmpR op_gt (pe_ix ix_seq (pv 0) pe_int (fun _ _ => rfl)) pe_int (nomark _)) (pss_cons (ps_set (i := 3) sc__law_take.nd rfl (by first | exact Or.inl rfl | exact Or.inr rfl) (pe_ix ix_seq (pv 0) pe_int (fun _ _ => rfl)))
      (pss_cons (ps_asg (pe_op op_fdivW (pe_callTy (T := "int") call_int1 (by rfl) T.b_int (by decide +kernel) (pa_cons (pv 3) pa_nil)) (pv 1)) (pg_sub (pv 0) pe_int set_list))
      (pss_one (ps_ret (pe_op op_mod (pe_callTy (T := "int") call_int1 (by rfl) T.b_int (by decide +kernel) (pa_cons (pv 3) pa_nil)) (pv 1)))))) pss_nil)
      (pss_cons (ps_asg (pe_op op_mod (pe_callTy (T := "int") call_int1 (by rfl) T.b_int (by decide +kernel) (pa_cons (pe_op op_add (pe_ix ix_seq (pv 0) pe_int (fun _ _ => rfl)) pe_int) pa_nil)) pe_int) (pg_sub (pv 0) pe_int set_list))
      (pss_one (ps_ret (pe_op op_mod (pe_callTy (T := "int") call_int1 (by rfl) T.b_int (by decide +kernel) (pa_cons (pe_call G__law_mixed (hr.mono (by first | decide | exact Nat.le_refl _)) (by rfl) T.m__law_mixed T.k__law_mixed T.b__law_mixed .nil passL (pa_cons (pe_ix ix_seq (pv 0) pe_int (fun _ _ => rfl)) (pa_cons (pe_ix ix_seq (pv 0) pe_int (fun _ _ => rfl)) pa_nil))) pa_nil)) (pv 1))))))), ?_⟩
  have zi : ∀ x : Int, 0 ≤ x → x < 1000 → Bd 100 x := fun x h0 h1 => .of_range h0 h1 (.lit (by decide))
  walk_at "dz0"
  walk_at "dz*"
  · rename_i hi
    rw [List.length_map] at hi
    obtain ⟨c, hc, e⟩ := cell_at ok.i0 hi
    have c0 := ok.c0 c hc
    refine od_ixL e ?_
    walk_at "dz*"
    · refine od_modF (by decide) fun x x0 x1 => ?_
      walk_at "dz*"
      refine ⟨⟨x, i + 1, rfl, rfl, .of_range x0 x1 (.lit (by decide)), zi (i + 1) (by have := ok.i0; omega) (by have := ok.i1; have := ok.many; omega)⟩, ?_, fun _ _ _ h => h⟩
      rintro _ ⟨v, rfl, v0⟩
      walk_at "dz*"
      refine od_modF m0 fun y y0 y1 => ?_
      exact ⟨⟨cells, i + 1, r, t, rfl, ⟨ok.many, by have := ok.i0; omega, by omega, ok.r0, ok.t0, ok.t1, ok.c0⟩⟩, m, y, rfl, rfl, y0, y1⟩
    ·
      refine od_divF m0 zm (by decide) fun u u0 u1 => ?_
      walk_at "dz*"
      refine od_modF m0 fun y y0 y1 => ?_
      exact ⟨⟨cells, i + 1, u, t, rfl, ⟨ok.many, by have := ok.i0; omega, by have := ok.i1; omega, (u0 (by have := ok.r0; omega)).1, ok.t0, ok.t1, ok.c0⟩⟩, m, y, rfl, rfl, y0, y1⟩
    ·
      refine od_modF (by decide) fun u u0 u1 => ?_
      walk_at "dz*"
      refine ⟨⟨u, i + 1, rfl, rfl, .of_range u0 u1 (.lit (by decide)), zi (i + 1) (by have := ok.i0; omega) (by have := ok.i1; have := ok.many; omega)⟩, ?_, fun _ _ _ h => h⟩
      rintro _ ⟨v, rfl, v0⟩
      walk_at "dz*"
      refine od_modF m0 fun y y0 y1 => ?_
      exact ⟨⟨cells, i + 1, c, u, rfl, ⟨ok.many, by have := ok.i0; omega, by have := ok.i1; omega, by have := ok.r0; omega, u0, u1, ok.c0⟩⟩, m, y, rfl, rfl, y0, y1⟩
  ·
    refine od_divF m0 zm (by decide) fun u u0 u1 => ?_
    walk_at "dz*"
    refine od_modF m0 fun y y0 y1 => ?_
    exact ⟨⟨cells, i, u, t, rfl, ⟨ok.many, by have := ok.i0; omega, by have := ok.i1; omega, (u0 (by have := ok.r0; omega)).1, ok.t0, ok.t1, ok.c0⟩⟩, m, y, rfl, rfl, y0, y1⟩
  ·
    refine od_modF (by decide) fun u u0 u1 => ?_
    walk_at "dz*"
    refine ⟨⟨u, i, rfl, rfl, .of_range u0 u1 (.lit (by decide)), zi i (by have := ok.i0; omega) (by have := ok.i1; have := ok.many; omega)⟩, ?_, fun _ _ _ h => h⟩
    rintro _ ⟨v, rfl, v0⟩
    walk_at "dz*"
    refine od_modF m0 fun y y0 y1 => ?_
    exact ⟨⟨cells, i, r, u, rfl, ⟨ok.many, by have := ok.i0; omega, by have := ok.i1; omega, by have := ok.r0; omega, u0, u1, ok.c0⟩⟩, m, y, rfl, rfl, y0, y1⟩
  ·
    refine od_divF m0 zm (by decide) fun u u0 u1 => ?_
    walk_at "dz*"
    refine od_modF m0 fun y y0 y1 => ?_
    exact ⟨⟨cells, i, u, t, rfl, ⟨ok.many, by have := ok.i0; omega, by have := ok.i1; omega, (u0 (by have := ok.r0; omega)).1, ok.t0, ok.t1, ok.c0⟩⟩, m, y, rfl, rfl, y0, y1⟩
  ·
    refine od_modF (by decide) fun u u0 u1 => ?_
    walk_at "dz*"
    refine ⟨⟨u, i, rfl, rfl, .of_range u0 u1 (.lit (by decide)), zi i (by have := ok.i0; omega) (by have := ok.i1; have := ok.many; omega)⟩, ?_, fun _ _ _ h => h⟩
    rintro _ ⟨v, rfl, v0⟩
    walk_at "dz*"
    refine od_modF m0 fun y y0 y1 => ?_
    exact ⟨⟨cells, i, r, u, rfl, ⟨ok.many, by have := ok.i0; omega, by have := ok.i1; omega, by have := ok.r0; omega, u0, u1, ok.c0⟩⟩, m, y, rfl, rfl, y0, y1⟩
end K01

set_option Elab.async false
set_option linter.all false
set_option maxRecDepth 100000
set_option maxHeartbeats 3999999
namespace K01
open L2 PySem PyProof.Rows PySem.Spec Dz
local macro_rules | `(tactic| walk_at "dzk") => `(tactic| first
  | exact kit_NoneType_bool
  | exact kit_NoneType_int
  | exact kit_NoneType_str
  | exact kit_NoneType_tuple
  | exact kit_NoneType_list
  | exact kit_bool_bool
  | exact kit_bool_int
  | exact kit_bool_str
  | exact kit_bool_tuple
  | exact kit_bool_list
  | exact kit_int_bool
  | exact kit_int_int
  | exact kit_int_str
  | exact kit_int_tuple
  | exact kit_int_list
  | exact kit_str_bool
  | exact kit_str_int
  | exact kit_str_str
  | exact kit_str_tuple
  | exact kit_str_list
  | exact kit_tuple_bool
  | exact kit_tuple_int
  | exact kit_tuple_str
  | exact kit_tuple_tuple
  | exact kit_tuple_list
  | exact kit_list_bool
  | exact kit_list_int
  | exact kit_list_str
  | exact kit_list_tuple
  | exact kit_list_list)
local macro_rules | `(tactic| walk_at "dz!") => `(tactic| first
  | rfl | assumption | decide | (simp only [List.length_cons, List.length_nil, List.length_set]; omega) | (simp; done))
local macro_rules | `(tactic| walk_at "dz") => `(tactic| first
  | with_reducible refine ws_seq ?_
  | with_reducible refine ws_next ?_
  | with_reducible refine ws_ret ?_
  | with_reducible refine ws_retN ?_
  | with_reducible refine ws_if ?_
  | with_reducible refine ws_setO rfl ?_
  | with_reducible refine ws_asg ?_
  | with_reducible refine ws_par ?_
  | ((with_reducible refine wg_name ?_ ?_); (focus walk_at "dz!"))
  | with_reducible refine wg_tup (by with_unfolding_all rfl) ?_
  | with_reducible refine wg_lst (by with_unfolding_all rfl) ?_
  | with_reducible refine wg_cons ?_
  | with_reducible refine wg_nil ?_
  | (with_reducible refine wp_var rfl ?_)
  | with_reducible refine wp_int ?_
  | with_reducible refine wp_bl ?_
  | with_reducible refine wp_str ?_
  | with_reducible refine wp_non ?_
  | with_reducible refine wp_ref (by assumption) ?_
  | with_reducible refine wp_ty ?_
  | with_reducible refine wp_ixO rfl ?_
  | with_reducible refine wp_op ?_
  | with_reducible refine wp_un ?_
  | with_reducible refine wp_if ?_
  | with_reducible refine wp_andV ?_
  | with_reducible refine wp_orV ?_
  | with_reducible refine wp_notV ?_
  | with_reducible refine wp_notT ?_
  | with_reducible refine wp_isN ?_
  | with_reducible refine wp_notN ?_
  | with_reducible refine wp_nil ?_
  | with_reducible refine wp_cons ?_
  | with_reducible refine wp_tup ?_
  | with_reducible refine wp_lst ?_
  | ((with_reducible refine wp_isi2 ?_); dsimp only)
  | with_reducible refine wp_lenO rfl ?_
  | with_reducible refine wp_tupO rfl ?_
  | with_reducible refine wp_cb ?_
  | ((with_reducible refine wp_call0 rfl ?_); dsimp only [List.map, dOf, List.nil_append, List.cons_append, List.append_nil])
  | with_reducible refine wp_chain ?_
  | with_reducible refine wt_test ?_
  | with_reducible refine wt_B ?_
  | with_reducible refine wt_and ?_
  | with_reducible refine wt_or ?_
  | with_reducible refine wt_not ?_
  | with_reducible refine wt_tru ?_
  | with_reducible refine wt_yes ?_
  | with_reducible refine od_i ?_
  | with_reducible refine od_b ?_
  | with_reducible refine od_ixT (by first | with_unfolding_all rfl | exact atI_cons0) ?_
  | with_reducible refine od_ixL (by first | with_unfolding_all rfl | exact atI_cons0) ?_
  | with_reducible refine od_eq (by with_unfolding_all rfl) (by with_unfolding_all rfl) ?_
  | with_reducible refine od_ne (by with_unfolding_all rfl) (by with_unfolding_all rfl) ?_
  | with_reducible refine od_bb ?_
  | with_reducible refine ud_neg ?_
  | with_reducible refine cb_lenT ?_
  | with_reducible refine cb_lenL ?_
  | with_reducible refine cb_abs ?_
  | with_reducible refine cb_int ?_
  | with_reducible refine cb_gcd ?_
  | with_reducible refine cb_min ?_
  | with_reducible refine cb_max ?_
  | with_reducible refine cb_listT ?_
  | with_reducible refine cb_listL ?_
  | with_reducible refine cb_tupT ?_
  | with_reducible refine cb_tupL ?_
  | with_reducible refine cb_isi (by with_unfolding_all rfl) (by walk_at "dzk") ?_
  | with_reducible refine ⟨_, _, _, (by with_unfolding_all rfl), (by walk_at "dzk"), (by walk_at "dzk"), ?_⟩
  | with_reducible refine ix_of (by with_unfolding_all rfl) ?_
  | with_reducible refine st_of (by with_unfolding_all rfl) ?_
  | with_reducible refine od_pow (by decide) ?_
  | with_reducible refine Exists.intro _ (And.intro rfl ?_))
local macro_rules | `(tactic| walk_at "dz0") => `(tactic| dsimp only [cxOf, Cx.tr, Cx.suite, Cx.nox, Cx.blk, Pm.fn, slots, List.map, List.length, List.replicate, Nat.reduceAdd, Nat.reduceSub, List.cons_append, List.nil_append, List.append_nil, dOf])
local macro_rules | `(tactic| walk_at "dzb") => `(tactic| first
  | with_reducible refine br_t ?_
  | with_reducible refine br_f ?_
  | with_reducible refine br_t2 ?_
  | with_reducible refine br_f2 ?_
  | (with_reducible refine br_d ?_ ?_ <;> intro _)
  | (with_reducible refine br_d2 ?_ ?_ <;> intro _)
  | refine br_t ?_
  | refine br_f ?_
  | refine br_t2 ?_
  | refine br_f2 ?_
  | (with_reducible refine br_b ?_ ?_ <;> intro _)
  | (with_reducible refine br_b2 ?_ ?_ <;> intro _))
local macro_rules | `(tactic| walk_at "dz*") => `(tactic| repeat' (first
  | walk_at "dz"
  | walk_at "dzb"
  | (refine And.intro (show _ ≤ 10000 by (first | decide | (simp; done))) ?_)
  | dsimp only))

variable {Pg : Program} {w : World} {K : PySem.W.Frag} {mg : Str → Option Value} {base : Heap} {ad : Ad}

theorem abs_nat (i : Int) : (if i < 0 then -i else i) = (i.natAbs : Int) := by split <;> omega
abbrev pm_common : Pm := .f2 (fun _ x y => ∃ a b, x = .int a ∧ y = .int b) (fun x y r => ∀ a b, x = .int a → y = .int b → r = .int (gz a b))
theorem ok_common (T : Txt K mg ad) : FnOk Pg w K mg base (L2.CX Pg w) 1 ad.f__law_common ad.fd__law_common ["_law_one", "_law_other"] (spD K pm_common) := by
  refine fn_D T.F__law_common sc__law_common (fun W ds h => ?_) fun cdv A outer s E W G H ds hr o hp hx => ?_
  · obtain ⟨a, b, rfl, _⟩ := Pm.l2 h; rfl
  obtain ⟨_, _, rfl, a, b, rfl, rfl⟩ := Pm.l2 hp
  refine ⟨_, (pss_cons (ps_set (i := 0) sc__law_common.nd rfl (by first | exact Or.inl rfl | exact Or.inr rfl) (pe_callB call_abs (by rfl) T.b_abs (by decide +kernel) (pa_cons (pv 0) pa_nil)))
      (pss_cons (ps_set (i := 1) sc__law_common.nd rfl (by first | exact Or.inl rfl | exact Or.inr rfl) (pe_callB call_abs (by rfl) T.b_abs (by decide +kernel) (pa_cons (pv 1) pa_nil)))
      (pss_cons (ps_while (by passes_own) (pt_cmpR op_gt (pv 1) pe_int (nomark _)) (pss_one (ps_par (i := 0) (j := 1) rfl sc__law_common.nd rfl rfl (by decide) rfl rfl (pa_cons (pv 1) (pa_cons (pe_op op_mod (pe_callTy (T := "int") call_int1 (by rfl) T.b_int (by decide +kernel) (pa_cons (pv 0) pa_nil)) (pv 1)) pa_nil)) rfl)))
      (pss_one (ps_ret (pv 0)))))), ?_⟩
  walk_at "dz0"
  walk_at "dz*"
  rw [abs_nat, abs_nat]
  refine ws_while (fun m q => ∃ n : Nat, q = [.dat (.int (n : Int)), .dat (.int (m : Int))] ∧ Nat.gcd n m = Nat.gcd a.natAbs b.natAbs) ⟨b.natAbs, a.natAbs, rfl, rfl⟩ ?_
  rintro m _ ⟨n, rfl, hg⟩
  walk_at "dz*"
  · rename_i hm
    refine od_ci hm ?_
    walk_at "dz*"
    refine ⟨_, _, rfl, by simp, by simp, n % m, Nat.mod_lt _ (by omega), m, rfl, ?_⟩
    rw [← hg, Nat.gcd_comm n m, Nat.gcd_rec m n, Nat.gcd_comm]
  · rename_i hm
    intro a' b' e1 e2
    cases e1; cases e2
    have : m = 0 := by omega
    subst this
    rw [Nat.gcd_zero_right] at hg
    unfold gz
    rw [hg]
abbrev pm_ratio : Pm := .f2 (fun _ x y => ∃ a b, x = .int a ∧ y = .int b ∧ b ≠ 0 ∧ Bd 8900 b) (fun x y r => ∀ a b, x = .int a → y = .int b → r = rat a b)
theorem ok_ratio (T : Txt K mg ad) : FnOk Pg w K mg base (L2.CX Pg w) 2 ad.f__law_ratio ad.fd__law_ratio ["_law_top", "_law_bottom"] (spD K pm_ratio) := by
  have G__law_common := ok_common (Pg := Pg) (w := w) (base := base) T
  refine fn_D T.F__law_ratio sc__law_ratio (fun W ds h => ?_) fun cdv A outer s E W G H ds hr o hp hx => ?_
  · obtain ⟨a, b, rfl, _⟩ := Pm.l2 h; rfl
  obtain ⟨_, _, rfl, a, b, rfl, rfl, hb, zb⟩ := Pm.l2 hp
  refine ⟨_, (pss_cons (ps_set (i := 2) sc__law_ratio.nd rfl (by first | exact Or.inl rfl | exact Or.inr rfl) (pe_call G__law_common (hr.mono (by first | decide | exact Nat.le_refl _)) (by rfl) T.m__law_common T.k__law_common T.b__law_common .nil passL (pa_cons (pv 0) (pa_cons (pv 1) pa_nil))))
      (pss_one (ps_ret (pe_tup (pa_cons (pe_op op_fdivW (pv 0) (pv 2)) (pa_cons (pe_op op_fdivW (pv 1) (pv 2)) pa_nil)))))), ?_⟩
  walk_at "dz0"
  walk_at "dz*"
  have g0 := gz_pos (a := a) hb
  have g1 : Bd 8900 (gz a b) := zb.le (gz_le hb)
  refine ⟨⟨a, b, rfl, rfl⟩, ?_, fun _ _ _ h => h⟩
  intro d hd
  obtain rfl := hd a b rfl rfl
  walk_at "dz*"
  refine od_ci (CDivW.of g0 g1 (by decide)) ?_
  walk_at "dz*"
  refine od_ci (CDivW.of g0 g1 (by decide)) ?_
  walk_at "dz*"
  intro a' b' e1 e2
  cases e1; cases e2
  rfl
abbrev pm_signed : Pm := .f2 (fun _ x y => ∃ a b, x = .int a ∧ y = .int b ∧ b ≠ 0 ∧ Bd 8900 b) (fun x y r => ∀ a b, x = .int a → y = .int b → r = ratS a b)
theorem ok_signed (T : Txt K mg ad) : FnOk Pg w K mg base (L2.CX Pg w) 3 ad.f__law_signed ad.fd__law_signed ["_law_top", "_law_bottom"] (spD K pm_signed) := by
  have G__law_ratio := ok_ratio (Pg := Pg) (w := w) (base := base) T
  refine fn_D T.F__law_signed sc__law_signed (fun W ds h => ?_) fun cdv A outer s E W G H ds hr o hp hx => ?_
  · obtain ⟨a, b, rfl, _⟩ := Pm.l2 h; rfl
  obtain ⟨_, _, rfl, a, b, rfl, rfl, hb, zb⟩ := Pm.l2 hp
  refine ⟨_, (pss_one (ps_ret (pe_ifExp (pt_cmpR op_gt (pv 1) pe_int (nomark _)) (pe_call G__law_ratio (hr.mono (by first | decide | exact Nat.le_refl _)) (by rfl) T.m__law_ratio T.k__law_ratio T.b__law_ratio .nil passL (pa_cons (pv 0) (pa_cons (pv 1) pa_nil))) (pe_call G__law_ratio (hr.mono (by first | decide | exact Nat.le_refl _)) (by rfl) T.m__law_ratio T.k__law_ratio T.b__law_ratio .nil passL (pa_cons (pe_un un_neg (pv 0)) (pa_cons (pe_un un_neg (pv 1)) pa_nil)))))), ?_⟩
  walk_at "dz0"
  walk_at "dz*"
  · rename_i hc
    refine ⟨⟨a, b, rfl, rfl, hb, zb⟩, ?_, fun _ _ _ h => h⟩
    intro d hd a' b' e1 e2
    cases e1; cases e2
    rw [hd a b rfl rfl]
    exact (if_neg (by omega)).symm
  · rename_i hc
    refine ⟨⟨-a, -b, rfl, rfl, by omega, zb.neg⟩, ?_, fun _ _ _ h => h⟩
    intro d hd a' b' e1 e2
    cases e1; cases e2
    rw [hd (-a) (-b) rfl rfl]
    exact (if_pos (by omega)).symm
/-- a drawn ratio -/
structure RtG (x : D) (a b : Int) : Prop where
  eq : x = .tup [.int a, .int b]
  ps : 0 < b
  za : Bd 102 a
  zb : Bd 102 b
  g : gz a b = 1
theorem rat_low {a b : Int} (h : 0 < b) (za : Bd 102 a) (zb : Bd 102 b) : ∃ c d, RtG (rat a b) c d := by
  have g0 := gz_pos (a := a) (show b ≠ 0 by omega)
  have gb : gz a b ∣ b := Int.ofNat_dvd_left.mpr (Nat.gcd_dvd_right _ _)
  have ga : gz a b ∣ a := Int.ofNat_dvd_left.mpr (Nat.gcd_dvd_left _ _)
  refine ⟨a / gz a b, b / gz a b, rfl, Int.ediv_pos_of_pos_of_dvd h (by omega) gb, za.le (Int.natAbs_ediv_le_natAbs _ _), zb.le (Int.natAbs_ediv_le_natAbs _ _), ?_⟩
  have n0 : 0 < Nat.gcd a.natAbs b.natAbs := by unfold gz at g0; omega
  have e : ∀ x : Int, gz a b ∣ x → (x / gz a b).natAbs = x.natAbs / Nat.gcd a.natAbs b.natAbs := fun x hx => by
    rw [Int.natAbs_ediv_of_dvd hx]; rfl
  unfold gz at e ⊢
  rw [e a ga, e b gb, Nat.gcd_div (Nat.gcd_dvd_left _ _) (Nat.gcd_dvd_right _ _), Nat.div_self n0]; rfl
abbrev pm_drawn (K : PySem.W.Frag) : Pm := .f1 (fun W x => ∃ p, x = .adr p ∧ W = HandW K p) (fun _ r => ∃ a b, RtG r a b)
theorem ok_drawn (T : Txt K mg ad) : FnOk Pg w K mg base (L2.CX Pg w) 3 ad.f__law_drawn ad.fd__law_drawn ["_law_hand_here"] (spD K (pm_drawn K)) := by
  have G__law_take := ok_take (Pg := Pg) (w := w) (base := base) T
  have G__law_ratio := ok_ratio (Pg := Pg) (w := w) (base := base) T
  refine fn_D T.F__law_drawn sc__law_drawn (fun W ds h => ?_) fun cdv A outer s E W G H ds hr o hp hx => ?_
  · obtain ⟨a, rfl, _⟩ := Pm.l1 h; rfl
  obtain ⟨_, rfl, p, rfl, rfl⟩ := Pm.l1 hp
  refine ⟨_, (pss_cons (ps_if (pt_cmpR (op_eqD (Dz.hu64 hr)) (pe_call G__law_take (hr.mono (by first | decide | exact Nat.le_refl _)) (by rfl) T.m__law_take T.k__law_take T.b__law_take .nil passL (pa_cons (pv 0) (pa_cons pe_int pa_nil))) pe_int (nomark _)) (pss_one (ps_ret (pe_call G__law_ratio (hr.mono (by first | decide | exact Nat.le_refl _)) (by rfl) T.m__law_ratio T.k__law_ratio T.b__law_ratio .nil passL (pa_cons (pe_op op_sub (pe_call G__law_take (hr.mono (by first | decide | exact Nat.le_refl _)) (by rfl) T.m__law_take T.k__law_take T.b__law_take .nil passL (pa_cons (pv 0) (pa_cons (pe_op op_add (pe_op op_mulW pe_int (pe_op op_pow pe_int pe_int)) pe_int) pa_nil))) (pe_op op_pow pe_int pe_int)) (pa_cons (pe_op op_add pe_int (pe_call G__law_take (hr.mono (by first | decide | exact Nat.le_refl _)) (by rfl) T.m__law_take T.k__law_take T.b__law_take .nil passL (pa_cons (pv 0) (pa_cons (pe_op op_pow pe_int pe_int) pa_nil)))) pa_nil))))) pss_nil)
      (pss_one (ps_ret (pe_call G__law_ratio (hr.mono (by first | decide | exact Nat.le_refl _)) (by rfl) T.m__law_ratio T.k__law_ratio T.b__law_ratio .nil passL (pa_cons (pe_op op_sub (pe_call G__law_take (hr.mono (by first | decide | exact Nat.le_refl _)) (by rfl) T.m__law_take T.k__law_take T.b__law_take .nil passL (pa_cons (pv 0) (pa_cons pe_int pa_nil))) pe_int) (pa_cons (pe_op op_add pe_int (pe_call G__law_take (hr.mono (by first | decide | exact Nat.le_refl _)) (by rfl) T.m__law_take T.k__law_take T.b__law_take .nil passL (pa_cons (pv 0) (pa_cons pe_int pa_nil)))) pa_nil)))))), ?_⟩
  walk_at "dz0"
  walk_at "dz*"
  have lit : ∀ {x : Int}, decide (x.natAbs < 2 ^ 120) = true → Bd 8000 x := fun h => (Bd.lit h).mono (by decide)
  refine ⟨⟨p, 4, rfl, rfl, by decide, lit (by decide), rfl⟩, ?_, fun _ _ _ h => h⟩
  rintro _ ⟨_, v, e1, rfl, v0, v1⟩
  cases e1
  walk_at "dz*"
  · refine od_ci (CMulW.of (Bd.lit (n := 4) (by decide)) (Bd.lit (n := 120) (by decide)) (by decide)) ?_
    walk_at "dz*"
    refine ⟨⟨p, _, rfl, rfl, by decide, lit (by decide), rfl⟩, ?_, fun _ _ _ h => h⟩
    rintro _ ⟨_, x, e1, rfl, x0, x1⟩
    cases e1
    walk_at "dz*"
    refine ⟨⟨p, _, rfl, rfl, by decide, lit (by decide), rfl⟩, ?_, fun _ _ _ h => h⟩
    rintro _ ⟨_, y, e1, rfl, y0, y1⟩
    cases e1
    walk_at "dz*"
    have zx : Bd 102 (x - 10 ^ Int.toNat 30) := Bd.le (j := 10 ^ 30) (.lit (by decide)) (by
      rw [show (10 : Int) ^ Int.toNat 30 = 1000000000000000000000000000000 from by decide] at x1 ⊢
      rw [show (10 : Int) ^ 30 = 1000000000000000000000000000000 from by decide]
      omega)
    have zy : Bd 102 (1 + y) := Bd.le (j := 10 ^ 30) (.lit (by decide)) (by
      rw [show (10 : Int) ^ Int.toNat 30 = 1000000000000000000000000000000 from by decide] at y1
      rw [show (10 : Int) ^ 30 = 1000000000000000000000000000000 from by decide]
      omega)
    refine ⟨⟨_, _, rfl, rfl, by omega, zy.mono (by decide)⟩, ?_, fun _ _ _ h => h⟩
    intro d hd
    rw [hd _ _ rfl rfl]
    exact rat_low (by omega) zx zy
  · refine ⟨⟨p, _, rfl, rfl, by decide, lit (by decide), rfl⟩, ?_, fun _ _ _ h => h⟩
    rintro _ ⟨_, x, e1, rfl, x0, x1⟩
    cases e1
    walk_at "dz*"
    refine ⟨⟨p, _, rfl, rfl, by decide, lit (by decide), rfl⟩, ?_, fun _ _ _ h => h⟩
    rintro _ ⟨_, y, e1, rfl, y0, y1⟩
    cases e1
    walk_at "dz*"
    have zx : Bd 102 (x - 24) := Bd.le (j := 1000) (.lit (by decide)) (by omega)
    have zy : Bd 102 (1 + y) := Bd.le (j := 1000) (.lit (by decide)) (by omega)
    refine ⟨⟨_, _, rfl, rfl, by omega, zy.mono (by decide)⟩, ?_, fun _ _ _ h => h⟩
    intro d hd
    rw [hd _ _ rfl rfl]
    exact rat_low (by omega) zx zy
/-! ### trees of numbers, told to be tuples -/
def Tree : Nat → D → Prop
  | 0, _ => False
  | n + 1, d => (∃ i, d = .int i) ∨ ∃ l, d = .tup l ∧ l.length ≤ 100 ∧ ∀ x ∈ l, Tree n x
abbrev pm_tuples (n : Nat) : Pm := .f1 (fun _ x => Tree n x) (fun _ r => r = .bl true)
theorem ok_tuples (T : Txt K mg ad) : ∀ n, FnOk Pg w K mg base (L2.CX Pg w) n ad.f__law_tuples ad.fd__law_tuples ["_law_thing"] (spD K (pm_tuples n))
  | 0 => ⟨fun vs H Q E h => by obtain ⟨_, _, _, _, _, h, _⟩ := h; obtain ⟨_, _, h⟩ := Pm.l1 h; exact h.elim, fun A outer s H args us vs Q E _ _ _ _ h => by obtain ⟨_, _, _, _, _, h, _⟩ := h; obtain ⟨_, _, h⟩ := Pm.l1 h; exact h.elim⟩
  | n + 1 => by
    have G__law_tuples := ok_tuples T n
    refine fn_D T.F__law_tuples sc__law_tuples (fun W ds h => ?_) fun cdv A outer s E W G H ds hr o hp hx => ?_
    · obtain ⟨a, rfl, _⟩ := Pm.l1 h; rfl
    obtain ⟨d, rfl, ht⟩ := Pm.l1 hp
    refine ⟨_, (pss_cons (ps_if (pt_val (pe_callB call_isi (by rfl) T.b_isinstance (by decide +kernel) (pa_cons (pv 0) (pa_cons (pe_bltn (v := .ty "tuple") (by rfl) T.b_tuple (by decide +kernel) rfl) pa_nil)))) (pss_one (ps_ret (pe_notT (pe_lc (own := [("_law_item", 1)]) (by rfl) sc__law_tuples.nd (pi_tup (pv 0)) (blkOk_by (N := ["_law_thing", "_law_item"]) (sc := defScope s__law_tuples) (own := [("_law_item", 1)]) (by decide +kernel)) (fun _ _ _ _ _ => (pg_name (i := 1) sc__law_tuples.nd rfl (by first | exact Or.inl rfl | exact Or.inr rfl))) (fun _ _ _ _ _ => pts_one (pt_not (pt_val (pe_call G__law_tuples (hr.mono (by first | decide | exact Nat.le_refl _)) (by rfl) T.m__law_tuples T.k__law_tuples T.b__law_tuples .nil passL (pa_cons (pv 1) pa_nil))))) (fun _ _ _ _ _ => pe_int))))) pss_nil)
      (pss_one (ps_ret (pe_or (pe_cmp (pc_isN (pv 0))) (Dz.pe_or1 (pe_and (pe_callB call_isi (by rfl) T.b_isinstance (by decide +kernel) (pa_cons (pv 0) (pa_cons (pe_bltn (v := .ty "int") (by rfl) T.b_int (by decide +kernel) rfl) pa_nil))) (Dz.pe_and1 (pe_not (pe_callB call_isi (by rfl) T.b_isinstance (by decide +kernel) (pa_cons (pv 0) (pa_cons (pe_bltn (v := .ty "bool") (by rfl) T.b_bool (by decide +kernel) rfl) pa_nil))))))))))), ?_⟩
    walk_at "dz0"
    rcases ht with ⟨i, rfl⟩ | ⟨l, rfl, hz, ht⟩
    · walk_at "dz*"
      rfl
    · walk_at "dz*"
      refine wp_lcT ?_
      walk_at "dz*"
      refine ⟨Nat.le_trans hz (by decide), fun _ acc => acc = [], rfl, ?_, ?_⟩
      · rintro i x _ hi rfl
        have hx := ht x (List.mem_of_getElem? hi)
        refine ww_name (by decide) (by simp [wipeS]) ?_
        walk_at "dz*"
        refine ⟨hx, ?_, fun _ _ _ h => h⟩
        rintro _ rfl
        walk_at "dz*"
      · rintro _ rfl
        exact ⟨true, rfl, rfl⟩
end K01

set_option Elab.async false
set_option linter.all false
set_option maxRecDepth 100000
set_option maxHeartbeats 3999999
namespace K01
open L2 PySem PyProof.Rows PySem.Spec Dz
local macro_rules | `(tactic| walk_at "dzk") => `(tactic| first
  | exact kit_NoneType_bool
  | exact kit_NoneType_int
  | exact kit_NoneType_str
  | exact kit_NoneType_tuple
  | exact kit_NoneType_list
  | exact kit_bool_bool
  | exact kit_bool_int
  | exact kit_bool_str
  | exact kit_bool_tuple
  | exact kit_bool_list
  | exact kit_int_bool
  | exact kit_int_int
  | exact kit_int_str
  | exact kit_int_tuple
  | exact kit_int_list
  | exact kit_str_bool
  | exact kit_str_int
  | exact kit_str_str
  | exact kit_str_tuple
  | exact kit_str_list
  | exact kit_tuple_bool
  | exact kit_tuple_int
  | exact kit_tuple_str
  | exact kit_tuple_tuple
  | exact kit_tuple_list
  | exact kit_list_bool
  | exact kit_list_int
  | exact kit_list_str
  | exact kit_list_tuple
  | exact kit_list_list)
local macro_rules | `(tactic| walk_at "dz!") => `(tactic| first
  | rfl | assumption | decide | (simp only [List.length_cons, List.length_nil, List.length_set]; omega) | (simp; done))
local macro_rules | `(tactic| walk_at "dz") => `(tactic| first
  | with_reducible refine ws_seq ?_
  | with_reducible refine ws_next ?_
  | with_reducible refine ws_ret ?_
  | with_reducible refine ws_retN ?_
  | with_reducible refine ws_if ?_
  | with_reducible refine ws_setO rfl ?_
  | with_reducible refine ws_asg ?_
  | with_reducible refine ws_par ?_
  | ((with_reducible refine wg_name ?_ ?_); (focus walk_at "dz!"))
  | with_reducible refine wg_tup (by with_unfolding_all rfl) ?_
  | with_reducible refine wg_lst (by with_unfolding_all rfl) ?_
  | with_reducible refine wg_cons ?_
  | with_reducible refine wg_nil ?_
  | (with_reducible refine wp_var rfl ?_)
  | with_reducible refine wp_int ?_
  | with_reducible refine wp_bl ?_
  | with_reducible refine wp_str ?_
  | with_reducible refine wp_non ?_
  | with_reducible refine wp_ref (by assumption) ?_
  | with_reducible refine wp_ty ?_
  | with_reducible refine wp_ixO rfl ?_
  | with_reducible refine wp_op ?_
  | with_reducible refine wp_un ?_
  | with_reducible refine wp_if ?_
  | with_reducible refine wp_andV ?_
  | with_reducible refine wp_orV ?_
  | with_reducible refine wp_notV ?_
  | with_reducible refine wp_notT ?_
  | with_reducible refine wp_isN ?_
  | with_reducible refine wp_notN ?_
  | with_reducible refine wp_nil ?_
  | with_reducible refine wp_cons ?_
  | with_reducible refine wp_tup ?_
  | with_reducible refine wp_lst ?_
  | ((with_reducible refine wp_isi2 ?_); dsimp only)
  | with_reducible refine wp_lenO rfl ?_
  | with_reducible refine wp_tupO rfl ?_
  | with_reducible refine wp_cb ?_
  | ((with_reducible refine wp_call0 rfl ?_); dsimp only [List.map, dOf, List.nil_append, List.cons_append, List.append_nil])
  | with_reducible refine wp_chain ?_
  | with_reducible refine wt_test ?_
  | with_reducible refine wt_B ?_
  | with_reducible refine wt_and ?_
  | with_reducible refine wt_or ?_
  | with_reducible refine wt_not ?_
  | with_reducible refine wt_tru ?_
  | with_reducible refine wt_yes ?_
  | with_reducible refine od_i ?_
  | with_reducible refine od_b ?_
  | with_reducible refine od_ixT (by first | with_unfolding_all rfl | exact atI_cons0) ?_
  | with_reducible refine od_ixL (by first | with_unfolding_all rfl | exact atI_cons0) ?_
  | with_reducible refine od_eq (by with_unfolding_all rfl) (by with_unfolding_all rfl) ?_
  | with_reducible refine od_ne (by with_unfolding_all rfl) (by with_unfolding_all rfl) ?_
  | with_reducible refine od_bb ?_
  | with_reducible refine ud_neg ?_
  | with_reducible refine cb_lenT ?_
  | with_reducible refine cb_lenL ?_
  | with_reducible refine cb_abs ?_
  | with_reducible refine cb_int ?_
  | with_reducible refine cb_gcd ?_
  | with_reducible refine cb_min ?_
  | with_reducible refine cb_max ?_
  | with_reducible refine cb_listT ?_
  | with_reducible refine cb_listL ?_
  | with_reducible refine cb_tupT ?_
  | with_reducible refine cb_tupL ?_
  | with_reducible refine cb_isi (by with_unfolding_all rfl) (by walk_at "dzk") ?_
  | with_reducible refine ⟨_, _, _, (by with_unfolding_all rfl), (by walk_at "dzk"), (by walk_at "dzk"), ?_⟩
  | with_reducible refine ix_of (by with_unfolding_all rfl) ?_
  | with_reducible refine st_of (by with_unfolding_all rfl) ?_
  | with_reducible refine od_pow (by decide) ?_
  | with_reducible refine Exists.intro _ (And.intro rfl ?_))
local macro_rules | `(tactic| walk_at "dz0") => `(tactic| dsimp only [cxOf, Cx.tr, Cx.suite, Cx.nox, Cx.blk, Pm.fn, slots, List.map, List.length, List.replicate, Nat.reduceAdd, Nat.reduceSub, List.cons_append, List.nil_append, List.append_nil, dOf])
local macro_rules | `(tactic| walk_at "dzb") => `(tactic| first
  | with_reducible refine br_t ?_
  | with_reducible refine br_f ?_
  | with_reducible refine br_t2 ?_
  | with_reducible refine br_f2 ?_
  | (with_reducible refine br_d ?_ ?_ <;> intro _)
  | (with_reducible refine br_d2 ?_ ?_ <;> intro _)
  | refine br_t ?_
  | refine br_f ?_
  | refine br_t2 ?_
  | refine br_f2 ?_
  | (with_reducible refine br_b ?_ ?_ <;> intro _)
  | (with_reducible refine br_b2 ?_ ?_ <;> intro _))
local macro_rules | `(tactic| walk_at "dz*") => `(tactic| repeat' (first
  | walk_at "dz"
  | walk_at "dzb"
  | (refine And.intro (show _ ≤ 10000 by (first | decide | (simp; done))) ?_)
  | dsimp only))

variable {Pg : Program} {w : World} {K : PySem.W.Frag} {mg : Str → Option Value} {base : Heap} {ad : Ad}

def oops (f : Str) : D := .lst [.str "BadRatio", .str f]
def madeD (t b : D) : D := match mkFault t b with
  | some f => oops f
  | none => match t, b with
    | .int x, .int y => ratS x y
    | _, _ => .non
abbrev pm_made : Pm := .f2 (fun _ t b => PlainI t ∧ PlainI b ∧ ∀ k, b = .int k → Bd 8900 k) (fun t b r => r = madeD t b)
theorem ok_made (T : Txt K mg ad) : FnOk Pg w K mg base (L2.CX Pg w) 4 ad.f__law_made ad.fd__law_made ["_law_top", "_law_bottom"] (spD K pm_made) := by
  have G_make_ratio := ok_make_ratio (Pg := Pg) (w := w) (base := base) T
  obtain ⟨_, dv_make_ratio_2, bd_make_ratio_2⟩ := T.bd_make_ratio_2
  refine fn_D T.F__law_made sc__law_made (fun W ds h => ?_) fun cdv A outer s E W G H ds hr o hp hx => ?_
  · obtain ⟨a, b, rfl, _⟩ := Pm.l2 h; rfl
  obtain ⟨t, b, rfl, ht, hb, zb⟩ := Pm.l2 hp
  refine ⟨_, (pss_cons (Dz.ps_tryR (Wout := fun _ _ _ _ => False) rfl rfl sc__law_made.nd takes0 (fun W pn xe tk _ => (pss_one (ps_set (i := 2) sc__law_made.nd rfl (by first | exact Or.inl rfl | exact Or.inr rfl) (pe_callSD G_make_ratio (hr.mono (by first | decide | exact Nat.le_refl _)) (by rfl) T.m_make_ratio T.k_make_ratio bd_make_ratio_2 dv_make_ratio_2 (fun σ => passAt tk σ) (pa_cons (pv 0) (pa_cons (pv 1) pa_nil)))))) (HdsN.named (i := 3) ⟨by rfl, by decide, Or.inl T.m_BadRatio⟩ rfl rfl (fun a oe cls d pn hz hf => (pss_one (ps_set (i := 2) sc__law_made.nd rfl (by first | exact Or.inl rfl | exact Or.inr rfl) (pe_lst (pa_cons pe_str (pa_cons (pe_xf T.x_BadRatio T.xn_BadRatio_what hz hf (pv 3)) pa_nil)))))) (HdsN.plain ⟨by rfl, by decide, Or.inl T.m_ParcelError⟩ (fun a oe cls d pn hz hf => (pss_one (ps_set (i := 2) sc__law_made.nd rfl (by first | exact Or.inl rfl | exact Or.inr rfl) (pe_lst (pa_cons pe_str pa_nil))))) HdsN.nil)))
      (pss_one (ps_ret (pv 2)))), ?_⟩
  walk_at "dz0"
  walk_at "dz*"
  refine ws_tryR fun G1 Wx hW hX => ?_
  walk_at "dz*"
  refine wp_callS0 hW rfl ?_
  walk_at "dz*"
  refine ⟨⟨ht, hb, zb⟩, ?_, ?_⟩
  · rintro _ ⟨hf, x, y, rfl, rfl, rfl⟩
    walk_at "dz*"
    unfold madeD
    rw [hf]
  · rintro _ _ _ ⟨_, _, f, e1, hf, rfl, rfl, rfl⟩
    cases e1
    refine ⟨true, T.e_BadRatio_BadRatio, fun _ => ⟨by simp, fun a dx => ?_⟩, fun h => nomatch h⟩
    walk_at "dz*"
    refine wp_xf ?_
    walk_at "dz*"
    refine ⟨_, _, .str f, rfl, by simp [nWhat, List.lookup], ?_⟩
    walk_at "dz*"
    dsimp only [offF]
    walk_at "dz*"
    unfold madeD
    rw [hf]
    rfl
def partedD (a b c d : Int) : D := if c = 0 then oops "zero" else ratS (a * d) (b * c)
abbrev pm_parted : Pm := pmR partedD
theorem ok_parted (T : Txt K mg ad) : FnOk Pg w K mg base (L2.CX Pg w) 4 ad.f__law_parted ad.fd__law_parted ["_law_one", "_law_other"] (spD K pm_parted) := by
  have G_over := ok_over (Pg := Pg) (w := w) (base := base) T
  refine fn_D T.F__law_parted sc__law_parted (fun W ds h => ?_) fun cdv A outer s E W G H ds hr o hp hx => ?_
  · obtain ⟨a, b, rfl, _⟩ := Pm.l2 h; rfl
  obtain ⟨x, y, rfl, a, b, c, d, R1, R2⟩ := Pm.l2 hp
  refine ⟨_, (pss_cons (Dz.ps_tryR (Wout := fun _ _ _ _ => False) rfl rfl sc__law_parted.nd takes0 (fun W pn xe tk _ => (pss_one (ps_set (i := 2) sc__law_parted.nd rfl (by first | exact Or.inl rfl | exact Or.inr rfl) (pe_callSD G_over (hr.mono (by first | decide | exact Nat.le_refl _)) (by rfl) T.m_over T.k_over T.b_over .nil (fun σ => passAt tk σ) (pa_cons (pv 0) (pa_cons (pv 1) pa_nil)))))) (HdsN.named (i := 3) ⟨by rfl, by decide, Or.inl T.m_BadRatio⟩ rfl rfl (fun a oe cls d pn hz hf => (pss_one (ps_set (i := 2) sc__law_parted.nd rfl (by first | exact Or.inl rfl | exact Or.inr rfl) (pe_lst (pa_cons pe_str (pa_cons (pe_xf T.x_BadRatio T.xn_BadRatio_what hz hf (pv 3)) pa_nil)))))) (HdsN.plain ⟨by rfl, by decide, Or.inl T.m_ParcelError⟩ (fun a oe cls d pn hz hf => (pss_one (ps_set (i := 2) sc__law_parted.nd rfl (by first | exact Or.inl rfl | exact Or.inr rfl) (pe_lst (pa_cons pe_str pa_nil))))) HdsN.nil)))
      (pss_one (ps_ret (pv 2)))), ?_⟩
  walk_at "dz0"
  walk_at "dz*"
  refine ws_tryR fun G1 Wx hW hX => ?_
  walk_at "dz*"
  refine wp_callS0 hW rfl ?_
  walk_at "dz*"
  refine ⟨⟨a, b, c, d, R1, R2⟩, ?_, ?_⟩
  · intro r hd
    obtain ⟨hc, rfl⟩ := hd a b c d R1.pr R2.pr
    walk_at "dz*"
    intro a' b' c' d' q1 q2
    obtain ⟨rfl, rfl⟩ := Pair.det R1.pr q1
    obtain ⟨rfl, rfl⟩ := Pair.det R2.pr q2
    exact (if_neg hc).symm
  · rintro _ _ _ ⟨_, _, a', b', c', d', e1, q1, q2, hc, rfl, rfl, rfl⟩
    cases e1
    refine ⟨true, T.e_BadRatio_BadRatio, fun _ => ⟨by simp, fun ax dx => ?_⟩, fun h => nomatch h⟩
    walk_at "dz*"
    refine wp_xf ?_
    walk_at "dz*"
    refine ⟨_, _, .str "zero", rfl, by simp [nWhat, List.lookup], ?_⟩
    walk_at "dz*"
    dsimp only [offF]
    walk_at "dz*"
    intro a2 b2 c2 d2 p1 p2
    obtain ⟨_, _⟩ := Pair.det q1 p1
    obtain ⟨rfl, _⟩ := Pair.det q2 p2
    exact (if_pos hc).symm
end K01

set_option Elab.async false
set_option linter.all false
set_option maxRecDepth 100000
set_option maxHeartbeats 3999999
namespace K01
open L2 PySem PyProof.Rows PySem.Spec Dz
local macro_rules | `(tactic| walk_at "bd") => `(tactic| first
  | assumption
  | exact Bd.one
  | (apply Bd.neg; walk_at "bd")
  | (apply Bd.mul <;> walk_at "bd")
  | (apply Bd.add2 <;> walk_at "bd")
  | (apply Bd.sub2 <;> walk_at "bd")
  | (apply Bd.ediv; walk_at "bd")
  | exact Bd.lit (n := 20) (by decide))
local macro_rules | `(tactic| walk_at "dzm") => `(tactic| refine od_ci (CMulW.of (by walk_at "bd") (by walk_at "bd") (by decide)) ?_)
local macro_rules | `(tactic| walk_at "dzk") => `(tactic| first
  | exact kit_NoneType_bool
  | exact kit_NoneType_int
  | exact kit_NoneType_str
  | exact kit_NoneType_tuple
  | exact kit_NoneType_list
  | exact kit_bool_bool
  | exact kit_bool_int
  | exact kit_bool_str
  | exact kit_bool_tuple
  | exact kit_bool_list
  | exact kit_int_bool
  | exact kit_int_int
  | exact kit_int_str
  | exact kit_int_tuple
  | exact kit_int_list
  | exact kit_str_bool
  | exact kit_str_int
  | exact kit_str_str
  | exact kit_str_tuple
  | exact kit_str_list
  | exact kit_tuple_bool
  | exact kit_tuple_int
  | exact kit_tuple_str
  | exact kit_tuple_tuple
  | exact kit_tuple_list
  | exact kit_list_bool
  | exact kit_list_int
  | exact kit_list_str
  | exact kit_list_tuple
  | exact kit_list_list)
local macro_rules | `(tactic| walk_at "dz!") => `(tactic| first
  | rfl | assumption | decide | (simp only [List.length_cons, List.length_nil, List.length_set]; omega) | (simp; done))
local macro_rules | `(tactic| walk_at "dz") => `(tactic| first
  | with_reducible refine ws_seq ?_
  | with_reducible refine ws_next ?_
  | with_reducible refine ws_ret ?_
  | with_reducible refine ws_retN ?_
  | with_reducible refine ws_if ?_
  | with_reducible refine ws_setO rfl ?_
  | with_reducible refine ws_asg ?_
  | with_reducible refine ws_par ?_
  | ((with_reducible refine wg_name ?_ ?_); (focus walk_at "dz!"))
  | with_reducible refine wg_tup (by with_unfolding_all rfl) ?_
  | with_reducible refine wg_lst (by with_unfolding_all rfl) ?_
  | with_reducible refine wg_cons ?_
  | with_reducible refine wg_nil ?_
  | (with_reducible refine wp_var rfl ?_)
  | with_reducible refine wp_int ?_
  | with_reducible refine wp_bl ?_
  | with_reducible refine wp_str ?_
  | with_reducible refine wp_non ?_
  | with_reducible refine wp_ref (by assumption) ?_
  | with_reducible refine wp_ty ?_
  | with_reducible refine wp_ixO rfl ?_
  | with_reducible refine wp_op ?_
  | with_reducible refine wp_un ?_
  | with_reducible refine wp_andV ?_
  | with_reducible refine wp_orV ?_
  | with_reducible refine wp_notV ?_
  | with_reducible refine wp_notT ?_
  | with_reducible refine wp_isN ?_
  | with_reducible refine wp_notN ?_
  | with_reducible refine wp_nil ?_
  | with_reducible refine wp_cons ?_
  | with_reducible refine wp_tup ?_
  | with_reducible refine wp_lst ?_
  | ((with_reducible refine wp_isi2 ?_); dsimp only)
  | with_reducible refine wp_lenO rfl ?_
  | with_reducible refine wp_tupO rfl ?_
  | with_reducible refine wp_cb ?_
  | ((with_reducible refine wp_call0 rfl ?_); dsimp only [List.map, dOf, List.nil_append, List.cons_append, List.append_nil])
  | with_reducible refine wp_chain ?_
  | with_reducible refine wt_test ?_
  | with_reducible refine wt_B ?_
  | with_reducible refine wt_and ?_
  | with_reducible refine wt_or ?_
  | with_reducible refine wt_not ?_
  | with_reducible refine wt_tru ?_
  | with_reducible refine wt_yes ?_
  | with_reducible refine od_i ?_
  | with_reducible refine od_b ?_
  | with_reducible refine od_ixT (by first | with_unfolding_all rfl | exact atI_cons0) ?_
  | with_reducible refine od_ixL (by first | with_unfolding_all rfl | exact atI_cons0) ?_
  | with_reducible refine od_eqI ?_
  | with_reducible refine od_neI ?_
  | with_reducible refine od_eq_same (by with_unfolding_all rfl) ?_
  | with_reducible refine od_ne_same (by with_unfolding_all rfl) ?_
  | with_reducible refine od_eq (by with_unfolding_all rfl) (by with_unfolding_all rfl) ?_
  | with_reducible refine od_ne (by with_unfolding_all rfl) (by with_unfolding_all rfl) ?_
  | with_reducible refine od_bb ?_
  | with_reducible refine ud_neg ?_
  | with_reducible refine cb_lenT ?_
  | with_reducible refine cb_lenL ?_
  | with_reducible refine cb_abs ?_
  | with_reducible refine cb_int ?_
  | with_reducible refine cb_gcd ?_
  | with_reducible refine cb_min ?_
  | with_reducible refine cb_max ?_
  | with_reducible refine cb_listT ?_
  | with_reducible refine cb_listL ?_
  | with_reducible refine cb_tupT ?_
  | with_reducible refine cb_tupL ?_
  | with_reducible refine cb_isi (by with_unfolding_all rfl) (by walk_at "dzk") ?_
  | with_reducible refine ⟨_, _, _, (by with_unfolding_all rfl), (by walk_at "dzk"), (by walk_at "dzk"), ?_⟩
  | with_reducible refine ix_of (by with_unfolding_all rfl) ?_
  | with_reducible refine st_of (by with_unfolding_all rfl) ?_
  | with_reducible refine od_pow (by decide) ?_
  | with_reducible refine Exists.intro _ (And.intro rfl ?_))
local macro_rules | `(tactic| walk_at "dz0") => `(tactic| dsimp only [cxOf, Cx.tr, Cx.suite, Cx.nox, Cx.blk, Pm.fn, slots, List.map, List.length, List.replicate, Nat.reduceAdd, Nat.reduceSub, List.cons_append, List.nil_append, List.append_nil, dOf])
local macro_rules | `(tactic| walk_at "dzb") => `(tactic| first
  | with_reducible refine br_t ?_
  | with_reducible refine br_f ?_
  | with_reducible refine br_t2 ?_
  | with_reducible refine br_f2 ?_
  | (with_reducible refine br_d ?_ ?_ <;> intro _)
  | (with_reducible refine br_d2 ?_ ?_ <;> intro _)
  | (with_reducible refine br_nd ?_ ?_ <;> intro h <;> first | with_reducible exact absurd rfl h | skip)
  | (with_reducible refine br_nd2 ?_ ?_ <;> intro h <;> first | with_reducible exact absurd rfl h | skip)
  | refine br_t ?_
  | refine br_f ?_
  | refine br_t2 ?_
  | refine br_f2 ?_
  | (with_reducible refine br_b ?_ ?_ <;> intro _)
  | (with_reducible refine br_b2 ?_ ?_ <;> intro _))
local macro_rules | `(tactic| walk_at "dz-") => `(tactic| repeat' (first
  | walk_at "dz"
  | walk_at "dzb"
  | ((refine And.intro ?_ ?_); (focus (show _ ≤ 10000; first | decide | (simp; done) | (simp; omega))))
  | dsimp only))
local macro_rules | `(tactic| walk_at "dz*") => `(tactic| repeat' (first
  | walk_at "dz"
  | with_reducible refine wp_if ?_
  | walk_at "dzb"
  | ((refine And.intro ?_ ?_); (focus (show _ ≤ 10000; first | decide | (simp; done) | (simp; omega))))
  | dsimp only))

variable {Pg : Program} {w : World} {K : PySem.W.Frag} {mg : Str → Option Value} {base : Heap} {ad : Ad}

theorem RtG.rt {x : D} {a b : Int} (h : RtG x a b) : Rt 4000 x a b := ⟨by rw [h.eq]; exact .t a b, h.ps, h.za.mono (by decide), h.zb.mono (by decide)⟩
theorem callR {f : Int → Int → Int → Int → D} {x y : D} {a b c d : Int} {P : D → Prop} (R1 : Rt 4000 x a b) (R2 : Rt 4000 y c d) (k : P (f a b c d)) :
    (pmR f).pre W0 ([x, y] ++ []) ∧ (∀ r, (pmR f).post ([x, y] ++ []) r → P r) ∧ ∀ C ns es, ¬ (pmR f).exn ([x, y] ++ []) C ns es :=
  ⟨⟨a, b, c, d, R1, R2⟩, fun r h => by rw [h a b c d R1.pr R2.pr]; exact k, fun _ _ _ h => h⟩
theorem call_ratio {a b : Int} {P : D → Prop} (hb : b ≠ 0) (zb : Bd 8900 b) (k : P (rat a b)) :
    pm_ratio.pre W0 ([.int a, .int b] ++ []) ∧ (∀ r, pm_ratio.post ([.int a, .int b] ++ []) r → P r) ∧ ∀ C ns es, ¬ pm_ratio.exn ([.int a, .int b] ++ []) C ns es :=
  ⟨⟨a, b, rfl, rfl, hb, zb⟩, fun r h => by rw [h a b rfl rfl]; exact k, fun _ _ _ h => h⟩
theorem call_signed {a b : Int} {P : D → Prop} (hb : b ≠ 0) (zb : Bd 8900 b) (k : P (ratS a b)) :
    pm_signed.pre W0 ([.int a, .int b] ++ []) ∧ (∀ r, pm_signed.post ([.int a, .int b] ++ []) r → P r) ∧ ∀ C ns es, ¬ pm_signed.exn ([.int a, .int b] ++ []) C ns es :=
  ⟨⟨a, b, rfl, rfl, hb, zb⟩, fun r h => by rw [h a b rfl rfl]; exact k, fun _ _ _ h => h⟩
theorem cmp_ratS (a b : Int) : D.cmp (ratS a b) = true := by unfold ratS; split <;> rfl
theorem cmp_eq {a b c d : Int} (h : a * d = c * b) : cmp a b c d = 0 := if_pos h
theorem cmp_less {a b c d : Int} (h : a * d < c * b) : cmp a b c d = -1 := by unfold cmp; rw [if_neg (by omega), if_pos h]
theorem cmp_more {a b c d : Int} (h : c * b < a * d) : cmp a b c d = 1 := by unfold cmp; rw [if_neg (by omega), if_neg (by omega)]
theorem lt_up (a : Int) {b : Int} (h : 0 < b) : a < (a / b + 1) * b := by
  have h1 := Int.emod_lt_of_pos a h
  have h2 := Int.mul_ediv_add_emod a b
  rw [Int.add_mul, Int.one_mul, Int.mul_comm (a / b) b]
  omega
theorem tree1 (i : Int) : Tree 2 (.int i) := .inl ⟨i, rfl⟩
theorem tree2 (i j : Int) : Tree 3 (.tup [.int i, .int j]) := .inr ⟨_, rfl, by simp, fun x hx => by
  simp only [List.mem_cons, or_false, List.not_mem_nil] at hx
  rcases hx with rfl | rfl <;> exact tree1 _⟩
theorem tree3 (a b c d e f : Int) : Tree 4 (.tup [.tup [.int a, .int b], .tup [.int c, .int d], .tup [.int e, .int f]]) := .inr ⟨_, rfl, by simp, fun x hx => by
  simp only [List.mem_cons, or_false, List.not_mem_nil] at hx
  rcases hx with rfl | rfl | rfl <;> exact tree2 _ _⟩
theorem cmp_parted (a b c d : Int) : D.cmp (partedD a b c d) = true := by unfold partedD; split; · with_unfolding_all rfl
                                                                          · exact cmp_ratS _ _
theorem cmp_swap (a b c d : Int) : cmp c d a b = -cmp a b c d := by
  unfold cmp
  repeat' split
  all_goals first | rfl | (exfalso; omega)
abbrev pm_pair : Pm := .f2 (fun _ x y => (∃ a b, RtG x a b) ∧ ∃ c d, RtG y c d) (fun _ _ r => r = .bl true)
theorem ok_pair (T : Txt K mg ad) : FnOk Pg w K mg base (L2.CX Pg w) 5 ad.f__law_pair ad.fd__law_pair ["_law_one", "_law_other"] (spD K pm_pair) := by
  have G_plus := ok_plus (Pg := Pg) (w := w) (base := base) T
  have G_minus := ok_minus (Pg := Pg) (w := w) (base := base) T
  have G_times := ok_times (Pg := Pg) (w := w) (base := base) T
  have G_negative := ok_negative (Pg := Pg) (w := w) (base := base) T
  have G_compare := ok_compare (Pg := Pg) (w := w) (base := base) T
  have G_floor_of := ok_floor_of (Pg := Pg) (w := w) (base := base) T
  have G_broken_of := ok_broken_of (Pg := Pg) (w := w) (base := base) T
  have G__law_ratio := ok_ratio (Pg := Pg) (w := w) (base := base) T
  have G__law_signed := ok_signed (Pg := Pg) (w := w) (base := base) T
  have G__law_parted := ok_parted (Pg := Pg) (w := w) (base := base) T
  have G__law_tuples := ok_tuples (Pg := Pg) (w := w) (base := base) T 4
  refine fn_D T.F__law_pair sc__law_pair (fun W ds h => ?_) fun cdv A outer s E W G H ds hr o hp hx => ?_
  · obtain ⟨a, b, rfl, _⟩ := Pm.l2 h; rfl
  obtain ⟨x, y, rfl, ⟨a, b, A1⟩, c, d, A2⟩ := Pm.l2 hp
  have R1 := A1.rt
  have R2 := A2.rt
  obtain ⟨rfl, b0, za, zb, ga⟩ := A1
  obtain ⟨rfl, d0, zc, zd, gc⟩ := A2
  refine ⟨_, (pss_cons (ps_asg (pv 0) (pg_tup (n := 2) rfl (pgs_cons (pg_name (i := 2) sc__law_pair.nd rfl (by first | exact Or.inl rfl | exact Or.inr rfl)) (pgs_cons (pg_name (i := 3) sc__law_pair.nd rfl (by first | exact Or.inl rfl | exact Or.inr rfl)) pgs_nil))))
      (pss_cons (ps_asg (pv 1) (pg_tup (n := 2) rfl (pgs_cons (pg_name (i := 4) sc__law_pair.nd rfl (by first | exact Or.inl rfl | exact Or.inr rfl)) (pgs_cons (pg_name (i := 5) sc__law_pair.nd rfl (by first | exact Or.inl rfl | exact Or.inr rfl)) pgs_nil))))
      (pss_cons (ps_if (pw_or (pt_cmpR (op_neD (Dz.hu64 hr)) (pe_call G_plus (hr.mono (by first | decide | exact Nat.le_refl _)) (by rfl) T.m_plus T.k_plus T.b_plus .nil passL (pa_cons (pv 0) (pa_cons (pv 1) pa_nil))) (pe_call G__law_ratio (hr.mono (by first | decide | exact Nat.le_refl _)) (by rfl) T.m__law_ratio T.k__law_ratio T.b__law_ratio .nil passL (pa_cons (pe_op op_add (pe_op op_mulW (pv 2) (pv 5)) (pe_op op_mulW (pv 4) (pv 3))) (pa_cons (pe_op op_mulW (pv 3) (pv 5)) pa_nil))) (nomark _)) (pw_or1 (pt_cmpR (op_neD (Dz.hu64 hr)) (pe_call G_minus (hr.mono (by first | decide | exact Nat.le_refl _)) (by rfl) T.m_minus T.k_minus T.b_minus .nil passL (pa_cons (pv 0) (pa_cons (pv 1) pa_nil))) (pe_call G__law_ratio (hr.mono (by first | decide | exact Nat.le_refl _)) (by rfl) T.m__law_ratio T.k__law_ratio T.b__law_ratio .nil passL (pa_cons (pe_op op_sub (pe_op op_mulW (pv 2) (pv 5)) (pe_op op_mulW (pv 4) (pv 3))) (pa_cons (pe_op op_mulW (pv 3) (pv 5)) pa_nil))) (nomark _)))).pt (pss_one (ps_ret pe_bl)) pss_nil)
      (pss_cons (ps_if (pw_or (pt_cmpR (op_neD (Dz.hu64 hr)) (pe_call G_times (hr.mono (by first | decide | exact Nat.le_refl _)) (by rfl) T.m_times T.k_times T.b_times .nil passL (pa_cons (pv 0) (pa_cons (pv 1) pa_nil))) (pe_call G__law_ratio (hr.mono (by first | decide | exact Nat.le_refl _)) (by rfl) T.m__law_ratio T.k__law_ratio T.b__law_ratio .nil passL (pa_cons (pe_op op_mulW (pv 2) (pv 4)) (pa_cons (pe_op op_mulW (pv 3) (pv 5)) pa_nil))) (nomark _)) (pw_or1 (pt_cmpR (op_neD (Dz.hu64 hr)) (pe_call G_negative (hr.mono (by first | decide | exact Nat.le_refl _)) (by rfl) T.m_negative T.k_negative T.b_negative .nil passL (pa_cons (pv 0) pa_nil)) (pe_tup (pa_cons (pe_un un_neg (pv 2)) (pa_cons (pv 3) pa_nil))) (nomark _)))).pt (pss_one (ps_ret pe_bl)) pss_nil)
      (pss_cons (ps_set (i := 6) sc__law_pair.nd rfl (by first | exact Or.inl rfl | exact Or.inr rfl) (pe_ifExp (pt_cmpR (op_eqD (Dz.hu64 hr)) (pv 4) pe_int (nomark _)) (pe_lst (pa_cons pe_str (pa_cons pe_str pa_nil))) (pe_call G__law_signed (hr.mono (by first | decide | exact Nat.le_refl _)) (by rfl) T.m__law_signed T.k__law_signed T.b__law_signed .nil passL (pa_cons (pe_op op_mulW (pv 2) (pv 5)) (pa_cons (pe_op op_mulW (pv 3) (pv 4)) pa_nil)))))
      (pss_cons (ps_if (pt_cmpR (op_neD (Dz.hu64 hr)) (pe_call G__law_parted (hr.mono (by first | decide | exact Nat.le_refl _)) (by rfl) T.m__law_parted T.k__law_parted T.b__law_parted .nil passL (pa_cons (pv 0) (pa_cons (pv 1) pa_nil))) (pv 6) (nomark _)) (pss_one (ps_ret pe_bl)) pss_nil)
      (pss_cons (ps_set (i := 7) sc__law_pair.nd rfl (by first | exact Or.inl rfl | exact Or.inr rfl) (pe_ifExp (pt_cmpR (op_eqD (Dz.hu64 hr)) (pe_op op_mulW (pv 2) (pv 5)) (pe_op op_mulW (pv 4) (pv 3)) (nomark _)) pe_int (pe_ifExp (pt_cmpR op_lt (pe_op op_mulW (pv 2) (pv 5)) (pe_op op_mulW (pv 4) (pv 3)) (nomark _)) (pe_un un_neg pe_int) pe_int)))
      (pss_cons (ps_set (i := 8) sc__law_pair.nd rfl (by first | exact Or.inl rfl | exact Or.inr rfl) (pe_call G_compare (hr.mono (by first | decide | exact Nat.le_refl _)) (by rfl) T.m_compare T.k_compare T.b_compare .nil passL (pa_cons (pv 0) (pa_cons (pv 1) pa_nil))))
      (pss_cons (ps_if (pw_or (pt_cmpR (op_neD (Dz.hu64 hr)) (pv 8) (pv 7) (nomark _)) (pw_or (pt_val (pe_callB call_isi (by rfl) T.b_isinstance (by decide +kernel) (pa_cons (pv 8) (pa_cons (pe_bltn (v := .ty "bool") (by rfl) T.b_bool (by decide +kernel) rfl) pa_nil)))) (pw_or1 (pt_cmpR (op_neD (Dz.hu64 hr)) (pe_call G_compare (hr.mono (by first | decide | exact Nat.le_refl _)) (by rfl) T.m_compare T.k_compare T.b_compare .nil passL (pa_cons (pv 1) (pa_cons (pv 0) pa_nil))) (pe_un un_neg (pv 7)) (nomark _))))).pt (pss_one (ps_ret pe_bl)) pss_nil)
      (pss_cons (ps_set (i := 9) sc__law_pair.nd rfl (by first | exact Or.inl rfl | exact Or.inr rfl) (pe_call G_floor_of (hr.mono (by first | decide | exact Nat.le_refl _)) (by rfl) T.m_floor_of T.k_floor_of T.b_floor_of .nil passL (pa_cons (pv 0) pa_nil)))
      (pss_cons (ps_if (pw_or (pt_not (pt_val (pe_callB call_isi (by rfl) T.b_isinstance (by decide +kernel) (pa_cons (pv 9) (pa_cons (pe_bltn (v := .ty "int") (by rfl) T.b_int (by decide +kernel) rfl) pa_nil))))) (pw_or (pt_val (pe_callB call_isi (by rfl) T.b_isinstance (by decide +kernel) (pa_cons (pv 9) (pa_cons (pe_bltn (v := .ty "bool") (by rfl) T.b_bool (by decide +kernel) rfl) pa_nil)))) (pw_or1 (pt_not (pt_chain op_le op_lt (pe_op op_mulW (pv 9) (pv 3)) (pv 2) (pe_op op_mulW (pe_op op_add (pv 9) pe_int) (pv 3))))))).pt (pss_one (ps_ret pe_bl)) pss_nil)
      (pss_one (ps_ret (pe_and (pe_cmpR (op_eqD (Dz.hu64 hr)) (pe_call G_broken_of (hr.mono (by first | decide | exact Nat.le_refl _)) (by rfl) T.m_broken_of T.k_broken_of T.b_broken_of .nil passL (pa_cons (pv 0) pa_nil)) (pe_tup (pa_cons (pe_op op_sub (pv 2) (pe_op op_mulW (pv 9) (pv 3))) (pa_cons (pv 3) pa_nil))) (nomark _)) (Dz.pe_and1 (pe_call G__law_tuples (hr.mono (by first | decide | exact Nat.le_refl _)) (by rfl) T.m__law_tuples T.k__law_tuples T.b__law_tuples .nil passL (pa_cons (pe_tup (pa_cons (pe_call G_plus (hr.mono (by first | decide | exact Nat.le_refl _)) (by rfl) T.m_plus T.k_plus T.b_plus .nil passL (pa_cons (pv 0) (pa_cons (pv 1) pa_nil))) (pa_cons (pe_call G_times (hr.mono (by first | decide | exact Nat.le_refl _)) (by rfl) T.m_times T.k_times T.b_times .nil passL (pa_cons (pv 0) (pa_cons (pv 1) pa_nil))) (pa_cons (pe_call G_broken_of (hr.mono (by first | decide | exact Nat.le_refl _)) (by rfl) T.m_broken_of T.k_broken_of T.b_broken_of .nil passL (pa_cons (pv 0) pa_nil)) pa_nil)))) pa_nil))))))))))))))))), ?_⟩
  have bd0 : b * d ≠ 0 := by have := Int.mul_pos b0 d0; omega
  have zbd : Bd 8900 (b * d) := (zb.mul zd).mono (by decide)
  walk_at "dz0"
  walk_at "dz-"
  refine callR R1 R2 ?_
  walk_at "dz-"
  walk_at "dzm"
  walk_at "dz-"
  walk_at "dzm"
  walk_at "dz-"
  walk_at "dzm"
  walk_at "dz-"
  refine call_ratio bd0 zbd ?_
  walk_at "dz-"
  refine callR R1 R2 ?_
  walk_at "dz-"
  walk_at "dzm"
  walk_at "dz-"
  walk_at "dzm"
  walk_at "dz-"
  walk_at "dzm"
  walk_at "dz-"
  refine call_ratio bd0 zbd ?_
  walk_at "dz-"
  refine callR R1 R2 ?_
  walk_at "dz-"
  walk_at "dzm"
  walk_at "dz-"
  walk_at "dzm"
  walk_at "dz-"
  refine call_ratio bd0 zbd ?_
  walk_at "dz-"
  refine ⟨⟨a, b, R1.pr⟩, ?_, fun _ _ _ h => h⟩
  intro r hd
  obtain rfl := hd a b R1.pr
  walk_at "dz-"
  refine wp_is (partedD a b c d) ?_ ?_
  · walk_at "dz*"
    · rename_i hc
      exact (if_pos hc).symm
    · rename_i hc
      walk_at "dzm"
      walk_at "dz*"
      walk_at "dzm"
      walk_at "dz*"
      exact call_signed (Int.mul_ne_zero (by omega) hc) ((zb.mul zc).mono (by decide)) (if_neg hc).symm
  walk_at "dz-"
  refine callR R1 R2 ?_
  walk_at "dz-"
  refine od_ne_same (cmp_parted _ _ _ _) ?_
  walk_at "dz-"
  refine wp_is (.int (cmp a b c d)) ?_ ?_
  · walk_at "dz*"
    walk_at "dzm"
    walk_at "dz*"
    walk_at "dzm"
    walk_at "dz*"
    · rename_i he
      rw [cmp_eq he]
    · walk_at "dzm"
      walk_at "dz*"
      walk_at "dzm"
      walk_at "dz*"
      · rename_i hl
        rw [cmp_less hl]
      · rw [cmp_more (by omega)]
  walk_at "dz-"
  refine callR R1 R2 ?_
  walk_at "dz-"
  refine callR R2 R1 ?_
  rw [cmp_swap a b c d]
  walk_at "dz-"
  refine ⟨⟨a, b, R1⟩, ?_, fun _ _ _ h => h⟩
  intro r hd
  obtain rfl := hd a b R1.pr
  walk_at "dz-"
  walk_at "dzm"
  walk_at "dz-"
  · walk_at "dzm"
    walk_at "dz-"
    · exact absurd (lt_up a b0) ‹¬ _›
    · refine ⟨⟨a, b, R1⟩, ?_, fun _ _ _ h => h⟩
      intro r hd
      obtain rfl := hd a b R1.pr
      walk_at "dz-"
      walk_at "dzm"
      walk_at "dz-"
      refine callR R1 R2 ?_
      walk_at "dz-"
      refine callR R1 R2 ?_
      walk_at "dz-"
      refine ⟨⟨a, b, R1⟩, ?_, fun _ _ _ h => h⟩
      intro r hd
      obtain rfl := hd a b R1.pr
      walk_at "dz-"
      refine ⟨tree3 _ _ _ _ _ _, ?_, fun _ _ _ h => h⟩
      rintro _ rfl
      rfl
  · exact absurd (Int.ediv_mul_le a (show b ≠ 0 by omega)) ‹¬ _›
end K01

set_option Elab.async false
set_option linter.all false
set_option maxRecDepth 100000
set_option maxHeartbeats 3999999
namespace K01
open L2 PySem PyProof.Rows PySem.Spec Dz
local macro_rules | `(tactic| walk_at "bd") => `(tactic| first
  | assumption
  | exact Bd.one
  | (apply Bd.neg; walk_at "bd")
  | (apply Bd.mul <;> walk_at "bd")
  | (apply Bd.add2 <;> walk_at "bd")
  | (apply Bd.sub2 <;> walk_at "bd")
  | (apply Bd.ediv; walk_at "bd")
  | exact Bd.lit (n := 20) (by decide))
local macro_rules | `(tactic| walk_at "dzm") => `(tactic| refine od_ci (CMulW.of (by walk_at "bd") (by walk_at "bd") (by decide)) ?_)
local macro_rules | `(tactic| walk_at "dzk") => `(tactic| first
  | exact kit_NoneType_bool
  | exact kit_NoneType_int
  | exact kit_NoneType_str
  | exact kit_NoneType_tuple
  | exact kit_NoneType_list
  | exact kit_bool_bool
  | exact kit_bool_int
  | exact kit_bool_str
  | exact kit_bool_tuple
  | exact kit_bool_list
  | exact kit_int_bool
  | exact kit_int_int
  | exact kit_int_str
  | exact kit_int_tuple
  | exact kit_int_list
  | exact kit_str_bool
  | exact kit_str_int
  | exact kit_str_str
  | exact kit_str_tuple
  | exact kit_str_list
  | exact kit_tuple_bool
  | exact kit_tuple_int
  | exact kit_tuple_str
  | exact kit_tuple_tuple
  | exact kit_tuple_list
  | exact kit_list_bool
  | exact kit_list_int
  | exact kit_list_str
  | exact kit_list_tuple
  | exact kit_list_list)
local macro_rules | `(tactic| walk_at "dz!") => `(tactic| first
  | rfl | assumption | decide | (simp only [List.length_cons, List.length_nil, List.length_set]; omega) | (simp; done))
local macro_rules | `(tactic| walk_at "dz") => `(tactic| first
  | with_reducible refine ws_seq ?_
  | with_reducible refine ws_next ?_
  | with_reducible refine ws_ret ?_
  | with_reducible refine ws_retN ?_
  | with_reducible refine ws_if ?_
  | with_reducible refine ws_setO rfl ?_
  | with_reducible refine ws_asg ?_
  | with_reducible refine ws_par ?_
  | ((with_reducible refine wg_name ?_ ?_); (focus walk_at "dz!"))
  | with_reducible refine wg_tup (by with_unfolding_all rfl) ?_
  | with_reducible refine wg_lst (by with_unfolding_all rfl) ?_
  | with_reducible refine wg_cons ?_
  | with_reducible refine wg_nil ?_
  | (with_reducible refine wp_var rfl ?_)
  | with_reducible refine wp_int ?_
  | with_reducible refine wp_bl ?_
  | with_reducible refine wp_str ?_
  | with_reducible refine wp_non ?_
  | with_reducible refine wp_ref (by assumption) ?_
  | with_reducible refine wp_ty ?_
  | with_reducible refine wp_ixO rfl ?_
  | with_reducible refine wp_op ?_
  | with_reducible refine wp_un ?_
  | with_reducible refine wp_andV ?_
  | with_reducible refine wp_orV ?_
  | with_reducible refine wp_notV ?_
  | with_reducible refine wp_notT ?_
  | with_reducible refine wp_isN ?_
  | with_reducible refine wp_notN ?_
  | with_reducible refine wp_nil ?_
  | with_reducible refine wp_cons ?_
  | with_reducible refine wp_tup ?_
  | with_reducible refine wp_lst ?_
  | ((with_reducible refine wp_isi2 ?_); dsimp only)
  | with_reducible refine wp_lenO rfl ?_
  | with_reducible refine wp_tupO rfl ?_
  | with_reducible refine wp_cb ?_
  | ((with_reducible refine wp_call0 rfl ?_); dsimp only [List.map, dOf, List.nil_append, List.cons_append, List.append_nil])
  | with_reducible refine wp_chain ?_
  | with_reducible refine wt_test ?_
  | with_reducible refine wt_B ?_
  | with_reducible refine wt_and ?_
  | with_reducible refine wt_or ?_
  | with_reducible refine wt_not ?_
  | with_reducible refine wt_tru ?_
  | with_reducible refine wt_yes ?_
  | with_reducible refine od_i ?_
  | with_reducible refine od_b ?_
  | with_reducible refine od_ixT (by first | with_unfolding_all rfl | exact atI_cons0) ?_
  | with_reducible refine od_ixL (by first | with_unfolding_all rfl | exact atI_cons0) ?_
  | with_reducible refine od_eqI ?_
  | with_reducible refine od_neI ?_
  | with_reducible refine od_eq_same (by with_unfolding_all rfl) ?_
  | with_reducible refine od_ne_same (by with_unfolding_all rfl) ?_
  | with_reducible refine od_eq (by with_unfolding_all rfl) (by with_unfolding_all rfl) ?_
  | with_reducible refine od_ne (by with_unfolding_all rfl) (by with_unfolding_all rfl) ?_
  | with_reducible refine od_bb ?_
  | with_reducible refine ud_neg ?_
  | with_reducible refine cb_lenT ?_
  | with_reducible refine cb_lenL ?_
  | with_reducible refine cb_abs ?_
  | with_reducible refine cb_int ?_
  | with_reducible refine cb_gcd ?_
  | with_reducible refine cb_min ?_
  | with_reducible refine cb_max ?_
  | with_reducible refine cb_listT ?_
  | with_reducible refine cb_listL ?_
  | with_reducible refine cb_tupT ?_
  | with_reducible refine cb_tupL ?_
  | with_reducible refine cb_isi (by with_unfolding_all rfl) (by walk_at "dzk") ?_
  | with_reducible refine ⟨_, _, _, (by with_unfolding_all rfl), (by walk_at "dzk"), (by walk_at "dzk"), ?_⟩
  | with_reducible refine ix_of (by with_unfolding_all rfl) ?_
  | with_reducible refine st_of (by with_unfolding_all rfl) ?_
  | with_reducible refine od_pow (by decide) ?_
  | with_reducible refine Exists.intro _ (And.intro rfl ?_))
local macro_rules | `(tactic| walk_at "dz0") => `(tactic| dsimp only [cxOf, Cx.tr, Cx.suite, Cx.nox, Cx.blk, Pm.fn, slots, List.map, List.length, List.replicate, Nat.reduceAdd, Nat.reduceSub, List.cons_append, List.nil_append, List.append_nil, dOf])
local macro_rules | `(tactic| walk_at "dzb") => `(tactic| first
  | with_reducible refine br_t ?_
  | with_reducible refine br_f ?_
  | with_reducible refine br_t2 ?_
  | with_reducible refine br_f2 ?_
  | (with_reducible refine br_d ?_ ?_ <;> intro _)
  | (with_reducible refine br_d2 ?_ ?_ <;> intro _)
  | (with_reducible refine br_nd ?_ ?_ <;> intro h <;> first | with_reducible exact absurd rfl h | skip)
  | (with_reducible refine br_nd2 ?_ ?_ <;> intro h <;> first | with_reducible exact absurd rfl h | skip)
  | refine br_t ?_
  | refine br_f ?_
  | refine br_t2 ?_
  | refine br_f2 ?_
  | (with_reducible refine br_b ?_ ?_ <;> intro _)
  | (with_reducible refine br_b2 ?_ ?_ <;> intro _))
local macro_rules | `(tactic| walk_at "dz-") => `(tactic| repeat' (first
  | walk_at "dz"
  | walk_at "dzb"
  | ((refine And.intro ?_ ?_); (focus (show _ ≤ 10000; first | decide | (simp; done) | (simp; omega))))
  | dsimp only))
local macro_rules | `(tactic| walk_at "dz*") => `(tactic| repeat' (first
  | walk_at "dz"
  | with_reducible refine wp_if ?_
  | walk_at "dzb"
  | ((refine And.intro ?_ ?_); (focus (show _ ≤ 10000; first | decide | (simp; done) | (simp; omega))))
  | dsimp only))

variable {Pg : Program} {w : World} {K : PySem.W.Frag} {mg : Str → Option Value} {base : Heap} {ad : Ad}

def coupleL (p : Int × Int) : D := .lst [.int p.1, .int p.2]
/-- drawn rows -/
def Dr (ps : List (Int × Int)) : Prop := ∀ p ∈ ps, 0 < p.2 ∧ Bd 102 p.1 ∧ Bd 102 p.2
theorem Dr.t : ∀ {ps : List (Int × Int)}, Dr ps → RtL 200 (ps.map couple) ps
  | [], _ => .nil
  | p :: r, h => .cons ⟨.t _ _, (h p (by simp)).1, (h p (by simp)).2.1.mono (by decide), (h p (by simp)).2.2.mono (by decide)⟩ (Dr.t fun x hx => h x (by simp [hx]))
theorem Dr.l : ∀ {ps : List (Int × Int)}, Dr ps → RtL 200 (ps.map coupleL) ps
  | [], _ => .nil
  | p :: r, h => .cons ⟨.l _ _, (h p (by simp)).1, (h p (by simp)).2.1.mono (by decide), (h p (by simp)).2.2.mono (by decide)⟩ (Dr.l fun x hx => h x (by simp [hx]))
theorem cmp_rowsL (ps : List (Int × Int)) : D.cmp (.lst (ps.map coupleL)) = true := by
  have a : D.purL (ps.map coupleL) = true := by
    induction ps with
    | nil => with_unfolding_all rfl
    | cons p r ih => rw [List.map_cons]; unfold D.purL; rw [ih]; with_unfolding_all rfl
  have b : D.depL (ps.map coupleL) ≤ 1 := by
    clear a
    induction ps with
    | nil => exact Nat.zero_le _
    | cons p r ih => rw [List.map_cons]; unfold D.depL; exact Nat.max_le.mpr ⟨by with_unfolding_all exact Nat.le_refl _, ih⟩
  unfold D.cmp D.pur D.dep
  rw [a, decide_eq_true (by omega)]; rfl
theorem less_or (p b : Int × Int) : lessR p b = p ∨ lessR p b = b := by unfold lessR; split <;> simp
theorem more_or (p b : Int × Int) : moreR p b = p ∨ moreR p b = b := by unfold moreR; split <;> simp
theorem leastR_one (p : Int × Int) : leastR [p] = p := (less_or p p).elim id id
theorem greatestR_one (p : Int × Int) : greatestR [p] = p := (more_or p p).elim id id
theorem leastR_more (p0 : Int × Int) (pr : List (Int × Int)) (x : Int × Int) : leastR (p0 :: (pr ++ [x])) = lessR x (leastR (p0 :: pr)) := by
  show (p0 :: (pr ++ [x])).foldl (fun b p => lessR p b) p0 = _
  rw [← List.cons_append, List.foldl_append]; rfl
theorem greatestR_more (p0 : Int × Int) (pr : List (Int × Int)) (x : Int × Int) : greatestR (p0 :: (pr ++ [x])) = moreR x (greatestR (p0 :: pr)) := by
  show (p0 :: (pr ++ [x])).foldl (fun b p => moreR p b) p0 = _
  rw [← List.cons_append, List.foldl_append]; rfl
abbrev pm_rows : Pm := .f1 (fun _ x => ∃ ps, x = .lst (ps.map couple) ∧ Dr ps ∧ ps.length ≤ 16) (fun _ r => r = .bl true)
theorem ok_rows (T : Txt K mg ad) : FnOk Pg w K mg base (L2.CX Pg w) 4 ad.f__law_rows ad.fd__law_rows ["_law_rows_here"] (spD K pm_rows) := by
  have G_sum_of := ok_sum_of (Pg := Pg) (w := w) (base := base) T
  have G_least_of := ok_least_of (Pg := Pg) (w := w) (base := base) T
  have G_greatest_of := ok_greatest_of (Pg := Pg) (w := w) (base := base) T
  have G__law_ratio := ok_ratio (Pg := Pg) (w := w) (base := base) T
  refine fn_D T.F__law_rows sc__law_rows (fun W ds h => ?_) fun cdv A outer s E W G H ds hr o hp hx => ?_
  · obtain ⟨a, rfl, _⟩ := Pm.l1 h; rfl
  obtain ⟨_, rfl, ps, rfl, hd, hz⟩ := Pm.l1 hp
  refine ⟨_, (pss_cons (ps_set (i := 1) sc__law_rows.nd rfl (by first | exact Or.inl rfl | exact Or.inr rfl) (pe_tup (pa_cons pe_int (pa_cons pe_int pa_nil))))
      (pss_cons (ps_set (i := 2) sc__law_rows.nd rfl (by first | exact Or.inl rfl | exact Or.inr rfl) pe_non)
      (pss_cons (ps_set (i := 3) sc__law_rows.nd rfl (by first | exact Or.inl rfl | exact Or.inr rfl) pe_non)
      (pss_cons (ps_for (by passes_own) rfl (pi_list (pv 0)) (pg_name (i := 4) sc__law_rows.nd rfl (by first | exact Or.inl rfl | exact Or.inr rfl)) (pss_cons (ps_set (i := 1) sc__law_rows.nd rfl (by first | exact Or.inl rfl | exact Or.inr rfl) (pe_call G__law_ratio (hr.mono (by first | decide | exact Nat.le_refl _)) (by rfl) T.m__law_ratio T.k__law_ratio T.b__law_ratio .nil passL (pa_cons (pe_op op_add (pe_op op_mulW (pe_ix ix_seq (pv 1) pe_int (fun _ _ => rfl)) (pe_ix ix_seq (pv 4) pe_int (fun _ _ => rfl))) (pe_op op_mulW (pe_ix ix_seq (pv 4) pe_int (fun _ _ => rfl)) (pe_ix ix_seq (pv 1) pe_int (fun _ _ => rfl)))) (pa_cons (pe_op op_mulW (pe_ix ix_seq (pv 1) pe_int (fun _ _ => rfl)) (pe_ix ix_seq (pv 4) pe_int (fun _ _ => rfl))) pa_nil))))
      (pss_cons (ps_set (i := 2) sc__law_rows.nd rfl (by first | exact Or.inl rfl | exact Or.inr rfl) (pe_ifExp (pw_or (pt_cmp (pc_isN (pv 2))) (pw_or1 (pt_cmpR op_lt (pe_op op_mulW (pe_ix ix_seq (pv 4) pe_int (fun _ _ => rfl)) (pe_ix ix_seq (pv 2) pe_int (fun _ _ => rfl))) (pe_op op_mulW (pe_ix ix_seq (pv 2) pe_int (fun _ _ => rfl)) (pe_ix ix_seq (pv 4) pe_int (fun _ _ => rfl))) (nomark _)))).pt (pv 4) (pv 2)))
      (pss_one (ps_set (i := 3) sc__law_rows.nd rfl (by first | exact Or.inl rfl | exact Or.inr rfl) (pe_ifExp (pw_or (pt_cmp (pc_isN (pv 3))) (pw_or1 (pt_cmpR op_gt (pe_op op_mulW (pe_ix ix_seq (pv 4) pe_int (fun _ _ => rfl)) (pe_ix ix_seq (pv 3) pe_int (fun _ _ => rfl))) (pe_op op_mulW (pe_ix ix_seq (pv 3) pe_int (fun _ _ => rfl)) (pe_ix ix_seq (pv 4) pe_int (fun _ _ => rfl))) (nomark _)))).pt (pv 4) (pv 3)))))))
      (pss_cons (ps_setLc (i := 5) (own := [("_law_one", 4)]) (by rfl) sc__law_rows.nd rfl rfl (sw_true rfl rfl rfl (by decide +kernel)) (pi_list (pv 0)) (blkOk_by (N := ["_law_rows_here", "_law_total", "_law_low", "_law_high", "_law_one", "_law_kept"]) (sc := defScope s__law_rows) (own := [("_law_one", 4)]) (by decide +kernel)) (fun _ _ _ _ _ => (pg_name (i := 4) sc__law_rows.nd rfl (by first | exact Or.inl rfl | exact Or.inr rfl))) (fun _ _ _ _ _ => pts_nil) (fun _ _ _ _ _ => (pe_callTy (T := "list") (Dz.call_list_ofK (K := K) rfl) (by rfl) T.b_list (by decide +kernel) (pa_cons (pv 4) pa_nil))))
      (pss_cons (ps_if (pw_or (pt_cmpR (op_neD (Dz.hu64 hr)) (pe_call G_sum_of (hr.mono (by first | decide | exact Nat.le_refl _)) (by rfl) T.m_sum_of T.k_sum_of T.b_sum_of .nil passL (pa_cons (pv 5) pa_nil)) (pv 1) (nomark _)) (pw_or (pt_cmpR (op_neD (Dz.hu64 hr)) (pe_call G_sum_of (hr.mono (by first | decide | exact Nat.le_refl _)) (by rfl) T.m_sum_of T.k_sum_of T.b_sum_of .nil passL (pa_cons (pe_callTy (T := "tuple") call_tuple_of (by rfl) T.b_tuple (by decide +kernel) (pa_cons (pv 0) pa_nil)) pa_nil)) (pv 1) (nomark _)) (pw_or1 (pt_cmpR (op_neD (Dz.hu64 hr)) (pv 5) (pe_lc (own := [("_law_one", 4)]) (by rfl) sc__law_rows.nd (pi_list (pv 0)) (blkOk_by (N := ["_law_rows_here", "_law_total", "_law_low", "_law_high", "_law_one", "_law_kept"]) (sc := defScope s__law_rows) (own := [("_law_one", 4)]) (by decide +kernel)) (fun _ _ _ _ _ => (pg_name (i := 4) sc__law_rows.nd rfl (by first | exact Or.inl rfl | exact Or.inr rfl))) (fun _ _ _ _ _ => pts_nil) (fun _ _ _ _ _ => (pe_callTy (T := "list") (Dz.call_list_ofK (K := K) rfl) (by rfl) T.b_list (by decide +kernel) (pa_cons (pv 4) pa_nil)))) (nomark _))))).pt (pss_one (ps_ret pe_bl)) pss_nil)
      (pss_cons (ps_if (pt_not (pt_truth (pv 0) (by intro _; rfl))) (pss_one (ps_ret pe_bl)) pss_nil)
      (pss_one (ps_ret (pe_and (pe_cmpR (op_eqD (Dz.hu64 hr)) (pe_call G_least_of (hr.mono (by first | decide | exact Nat.le_refl _)) (by rfl) T.m_least_of T.k_least_of T.b_least_of .nil passL (pa_cons (pv 0) pa_nil)) (pv 2) (nomark _)) (pe_and (pe_cmpR (op_eqD (Dz.hu64 hr)) (pe_call G_greatest_of (hr.mono (by first | decide | exact Nat.le_refl _)) (by rfl) T.m_greatest_of T.k_greatest_of T.b_greatest_of .nil passL (pa_cons (pe_callTy (T := "tuple") call_tuple_of (by rfl) T.b_tuple (by decide +kernel) (pa_cons (pv 0) pa_nil)) pa_nil)) (pv 3) (nomark _)) (pe_and (pe_cmpR (op_eqD (Dz.hu64 hr)) (pe_call G_least_of (hr.mono (by first | decide | exact Nat.le_refl _)) (by rfl) T.m_least_of T.k_least_of T.b_least_of .nil passL (pa_cons (pv 5) pa_nil)) (pv 2) (nomark _)) (Dz.pe_and1 (pe_callB call_isi (by rfl) T.b_isinstance (by decide +kernel) (pa_cons (pe_call G_least_of (hr.mono (by first | decide | exact Nat.le_refl _)) (by rfl) T.m_least_of T.k_least_of T.b_least_of .nil passL (pa_cons (pv 5) pa_nil)) (pa_cons (pe_bltn (v := .ty "tuple") (by rfl) T.b_tuple (by decide +kernel) rfl) pa_nil)))))))))))))))), ?_⟩
  have lt := hd.t
  have ll := hd.l
  have hx1 : ∀ {i : Nat} {x : D}, (ps.map couple)[i]? = some x → ∃ p, ps[i]? = some p ∧ x = .tup [.int p.1, .int p.2] := fun {i x} h => by
    rw [List.getElem?_map] at h
    cases e : ps[i]? with
    | none => rw [e] at h; exact nomatch h
    | some p => rw [e] at h; cases h; exact ⟨p, rfl, rfl⟩
  walk_at "dz0"
  walk_at "dz-"
  refine ws_forL ?_
  walk_at "dz-"
  refine ⟨fun i q => ∃ u v low high z y, q = [.dat (.lst (ps.map couple)), .dat (.tup [.int u, .int v]), .dat low, .dat high, z, y] ∧ (u, v) = sumR (ps.take i) ∧
    ((i = 0 ∧ low = .non ∧ high = .non) ∨ ∃ p0 pr a b c d, ps.take i = p0 :: pr ∧ low = .tup [.int a, .int b] ∧ high = .tup [.int c, .int d] ∧ (a, b) = leastR (ps.take i) ∧ (c, d) = greatestR (ps.take i) ∧ Bd 102 a ∧ Bd 102 b ∧ Bd 102 c ∧ Bd 102 d),
    ⟨0, 1, .non, .non, _, _, rfl, rfl, .inl ⟨rfl, rfl, rfl⟩⟩, ?_, ?_⟩
  · rintro i x q hi ⟨u, v, low, high, z, y, rfl, hs, hlh⟩
    obtain ⟨⟨a, b⟩, hi2, rfl⟩ := hx1 hi
    have ilt := (List.getElem?_eq_some_iff.mp hi2).1
    have sz := Szs.sum lt Szs.zero i
    have e1 : (ps.take i).foldl addR (0, 1) = (u, v) := hs.symm
    rw [e1] at sz
    obtain ⟨sp, sa, sb⟩ := sz
    have su : Bd 4000 u := sa.mono (by omega)
    have sv : Bd 4000 v := sb.mono (by omega)
    obtain ⟨b0, za, zb⟩ := hd (a, b) (List.mem_of_getElem? hi2)
    dsimp only at sp su sv b0 za zb
    have q0 : 0 < v * b := Int.mul_pos sp b0
    walk_at "dz-"
    walk_at "dzm"
    walk_at "dz-"
    walk_at "dzm"
    walk_at "dz-"
    walk_at "dzm"
    walk_at "dz-"
    refine call_ratio (by omega) ((sv.mul zb).mono (by decide)) ?_
    have et : rat (u * b + a * v) (v * b) = couple (sumR (ps.take (i + 1))) := by
      rw [take_more hi2, sumR_more, ← hs]; rfl
    have e2 : sumR (ps.take (i + 1)) = ((u * b + a * v) / gz (u * b + a * v) (v * b), v * b / gz (u * b + a * v) (v * b)) := by
      rw [take_more hi2, sumR_more, ← hs]; rfl
    walk_at "dz-"
    rcases hlh with ⟨rfl, rfl, rfl⟩ | ⟨p0, pr, la, lb, ha, hb, ep, rfl, rfl, el, eh, y1, y2, y3, y4⟩
    · refine wp_is (.tup [.int a, .int b]) ?_ ?_
      · walk_at "dz*"
      walk_at "dz-"
      refine wp_is (.tup [.int a, .int b]) ?_ ?_
      · walk_at "dz*"
      walk_at "dz-"
      have e3 : ps.take (0 + 1) = [(a, b)] := by rw [take_more hi2]; rfl
      refine ⟨_, _, _, _, _, _, rfl, e2.symm, .inr ⟨(a, b), [], a, b, a, b, e3, rfl, rfl, ?_, ?_, za, zb, za, zb⟩⟩
      · rw [e3, leastR_one]
      · rw [e3, greatestR_one]
    · refine wp_is (couple (lessR (a, b) (la, lb))) ?_ ?_
      · walk_at "dz*"
        walk_at "dzm"
        walk_at "dz*"
        walk_at "dzm"
        walk_at "dz*"
        · rename_i hc
          rw [lessR_y hc]; rfl
        · rename_i hc
          rw [lessR_n hc]; rfl
      walk_at "dz-"
      refine wp_is (couple (moreR (a, b) (ha, hb))) ?_ ?_
      · walk_at "dz*"
        walk_at "dzm"
        walk_at "dz*"
        walk_at "dzm"
        walk_at "dz*"
        · rename_i hc
          rw [moreR_y hc]; rfl
        · rename_i hc
          rw [moreR_n hc]; rfl
      walk_at "dz-"
      have e3 : ps.take (i + 1) = p0 :: (pr ++ [(a, b)]) := by rw [take_more hi2, ep]; rfl
      refine ⟨_, _, _, _, _, _, rfl, e2.symm, .inr ⟨p0, _, _, _, _, _, e3, rfl, rfl, ?_, ?_, ?_⟩⟩
      · rw [e3, leastR_more, ← ep, ← el]
      · rw [e3, greatestR_more, ← ep, ← eh]
      · refine ⟨?_, ?_, ?_, ?_⟩
        · rcases less_or (a, b) (la, lb) with e | e <;> rw [e] <;> assumption
        · rcases less_or (a, b) (la, lb) with e | e <;> rw [e] <;> assumption
        · rcases more_or (a, b) (ha, hb) with e | e <;> rw [e] <;> assumption
        · rcases more_or (a, b) (ha, hb) with e | e <;> rw [e] <;> assumption
  · rintro q ⟨u, v, low, high, z, y, rfl, hs, hlh⟩
    rw [List.length_map, List.take_length] at hs hlh
    have comp : ∀ acc, acc = (ps.take ps.length).map coupleL → D.lst acc = .lst (ps.map coupleL) := by
      rintro _ rfl; rw [List.take_length]
    walk_at "dz-"
    refine wp_lcL ?_
    walk_at "dz-"
    refine ⟨fun i acc => acc = (ps.take i).map coupleL, rfl, ?_, ?_⟩
    · rintro i x _ hi rfl
      obtain ⟨p, hi2, rfl⟩ := hx1 hi
      refine ww_name (by decide) (by simp [wipeS]) ?_
      refine wt_yes ?_
      walk_at "dz-"
      rw [take_more hi2, List.map_append]; rfl
    · rintro acc hac
      rw [List.length_map] at hac
      rw [comp acc hac]
      walk_at "dz-"
      refine ⟨⟨_, ps, .inr rfl, ll, hz⟩, ?_, fun _ _ _ h => h⟩
      intro r h1
      rw [h1 _ ps (.inr rfl) ll, show couple (sumR ps) = .tup [.int u, .int v] by rw [← hs]; rfl]
      walk_at "dz-"
      refine ⟨⟨_, ps, .inl rfl, lt, hz⟩, ?_, fun _ _ _ h => h⟩
      intro r h1
      rw [h1 _ ps (.inl rfl) lt, show couple (sumR ps) = .tup [.int u, .int v] by rw [← hs]; rfl]
      walk_at "dz-"
      refine wp_lcL ?_
      walk_at "dz-"
      refine ⟨fun i acc => acc = (ps.take i).map coupleL, rfl, ?_, ?_⟩
      · rintro i x _ hi rfl
        obtain ⟨p, hi2, rfl⟩ := hx1 hi
        refine ww_name (by decide) (by simp [wipeS]) ?_
        refine wt_yes ?_
        walk_at "dz-"
        rw [take_more hi2, List.map_append]; rfl
      rintro acc hac
      rw [List.length_map] at hac
      rw [comp acc hac]
      rcases hlh with ⟨e0, rfl, rfl⟩ | ⟨p0, pr, la, lb, ha, hb, ep, rfl, rfl, el, eh, y1, y2, y3, y4⟩
      · have : ps = [] := List.length_eq_zero_iff.mp e0
        subst this
        refine od_ne_same (cmp_rowsL _) ?_
        walk_at "dz-"
      · subst ep
        have hn : p0 :: pr ≠ [] := by simp
        refine od_ne_same (cmp_rowsL _) ?_
        walk_at "dz-"
        refine ⟨⟨_, _, .inr rfl, lt, hn⟩, ?_, fun _ _ _ h => h⟩
        intro r h1
        rw [h1 _ _ (.inr rfl) lt, show couple (leastR (p0 :: pr)) = .tup [.int la, .int lb] by rw [← el]; rfl]
        walk_at "dz-"
        refine ⟨⟨_, _, .inl rfl, lt, hn⟩, ?_, fun _ _ _ h => h⟩
        intro r h1
        rw [h1 _ _ (.inl rfl) lt, show couple (greatestR (p0 :: pr)) = .tup [.int ha, .int hb] by rw [← eh]; rfl]
        walk_at "dz-"
        refine ⟨⟨_, _, .inr rfl, ll, hn⟩, ?_, fun _ _ _ h => h⟩
        intro r h1
        rw [h1 _ _ (.inr rfl) ll, show couple (leastR (p0 :: pr)) = .tup [.int la, .int lb] by rw [← el]; rfl]
        walk_at "dz-"
        refine ⟨⟨_, _, .inr rfl, ll, hn⟩, ?_, fun _ _ _ h => h⟩
        intro r h1
        rw [h1 _ _ (.inr rfl) ll, show couple (leastR (p0 :: pr)) = .tup [.int la, .int lb] by rw [← el]; rfl]
        walk_at "dz-"
end K01

set_option Elab.async false
set_option linter.all false
set_option maxRecDepth 100000
set_option maxHeartbeats 3999999
namespace K01
open L2 PySem PyProof.Rows PySem.Spec Dz
local macro_rules | `(tactic| walk_at "bd") => `(tactic| first
  | assumption
  | exact Bd.one
  | (apply Bd.neg; walk_at "bd")
  | (apply Bd.mul <;> walk_at "bd")
  | (apply Bd.add2 <;> walk_at "bd")
  | (apply Bd.sub2 <;> walk_at "bd")
  | (apply Bd.ediv; walk_at "bd")
  | exact Bd.lit (n := 20) (by decide))
local macro_rules | `(tactic| walk_at "dzm") => `(tactic| refine od_ci (CMulW.of (by walk_at "bd") (by walk_at "bd") (by decide)) ?_)
local macro_rules | `(tactic| walk_at "dzk") => `(tactic| first
  | exact kit_NoneType_bool
  | exact kit_NoneType_int
  | exact kit_NoneType_str
  | exact kit_NoneType_tuple
  | exact kit_NoneType_list
  | exact kit_bool_bool
  | exact kit_bool_int
  | exact kit_bool_str
  | exact kit_bool_tuple
  | exact kit_bool_list
  | exact kit_int_bool
  | exact kit_int_int
  | exact kit_int_str
  | exact kit_int_tuple
  | exact kit_int_list
  | exact kit_str_bool
  | exact kit_str_int
  | exact kit_str_str
  | exact kit_str_tuple
  | exact kit_str_list
  | exact kit_tuple_bool
  | exact kit_tuple_int
  | exact kit_tuple_str
  | exact kit_tuple_tuple
  | exact kit_tuple_list
  | exact kit_list_bool
  | exact kit_list_int
  | exact kit_list_str
  | exact kit_list_tuple
  | exact kit_list_list)
local macro_rules | `(tactic| walk_at "dz!") => `(tactic| first
  | rfl | assumption | decide | (simp only [List.length_cons, List.length_nil, List.length_set]; omega) | (simp; done))
local macro_rules | `(tactic| walk_at "dz") => `(tactic| first
  | with_reducible refine ws_seq ?_
  | with_reducible refine ws_next ?_
  | with_reducible refine ws_ret ?_
  | with_reducible refine ws_retN ?_
  | with_reducible refine ws_if ?_
  | with_reducible refine ws_setO rfl ?_
  | with_reducible refine ws_asg ?_
  | with_reducible refine ws_par ?_
  | ((with_reducible refine wg_name ?_ ?_); (focus walk_at "dz!"))
  | with_reducible refine wg_tup (by with_unfolding_all rfl) ?_
  | with_reducible refine wg_lst (by with_unfolding_all rfl) ?_
  | with_reducible refine wg_cons ?_
  | with_reducible refine wg_nil ?_
  | (with_reducible refine wp_var rfl ?_)
  | with_reducible refine wp_int ?_
  | with_reducible refine wp_bl ?_
  | with_reducible refine wp_str ?_
  | with_reducible refine wp_non ?_
  | with_reducible refine wp_ref (by assumption) ?_
  | with_reducible refine wp_ty ?_
  | with_reducible refine wp_ixO rfl ?_
  | with_reducible refine wp_op ?_
  | with_reducible refine wp_un ?_
  | with_reducible refine wp_andV ?_
  | with_reducible refine wp_orV ?_
  | with_reducible refine wp_notV ?_
  | with_reducible refine wp_notT ?_
  | with_reducible refine wp_isN ?_
  | with_reducible refine wp_notN ?_
  | with_reducible refine wp_nil ?_
  | with_reducible refine wp_cons ?_
  | with_reducible refine wp_tup ?_
  | with_reducible refine wp_lst ?_
  | ((with_reducible refine wp_isi2 ?_); dsimp only)
  | with_reducible refine wp_lenO rfl ?_
  | with_reducible refine wp_tupO rfl ?_
  | with_reducible refine wp_cb ?_
  | ((with_reducible refine wp_call0 rfl ?_); dsimp only [List.map, dOf, List.nil_append, List.cons_append, List.append_nil])
  | with_reducible refine wp_chain ?_
  | with_reducible refine wt_test ?_
  | with_reducible refine wt_B ?_
  | with_reducible refine wt_and ?_
  | with_reducible refine wt_or ?_
  | with_reducible refine wt_not ?_
  | with_reducible refine wt_tru ?_
  | with_reducible refine wt_yes ?_
  | with_reducible refine od_i ?_
  | with_reducible refine od_b ?_
  | with_reducible refine od_ixT (by first | with_unfolding_all rfl | exact atI_cons0) ?_
  | with_reducible refine od_ixL (by first | with_unfolding_all rfl | exact atI_cons0) ?_
  | with_reducible refine od_eqI ?_
  | with_reducible refine od_neI ?_
  | with_reducible refine od_eq_same (by with_unfolding_all rfl) ?_
  | with_reducible refine od_ne_same (by with_unfolding_all rfl) ?_
  | with_reducible refine od_eq (by with_unfolding_all rfl) (by with_unfolding_all rfl) ?_
  | with_reducible refine od_ne (by with_unfolding_all rfl) (by with_unfolding_all rfl) ?_
  | with_reducible refine od_bb ?_
  | with_reducible refine ud_neg ?_
  | with_reducible refine cb_lenT ?_
  | with_reducible refine cb_lenL ?_
  | with_reducible refine cb_abs ?_
  | with_reducible refine cb_int ?_
  | with_reducible refine cb_gcd ?_
  | with_reducible refine cb_min ?_
  | with_reducible refine cb_max ?_
  | with_reducible refine cb_listT ?_
  | with_reducible refine cb_listL ?_
  | with_reducible refine cb_tupT ?_
  | with_reducible refine cb_tupL ?_
  | with_reducible refine cb_isi (by with_unfolding_all rfl) (by walk_at "dzk") ?_
  | with_reducible refine ⟨_, _, _, (by with_unfolding_all rfl), (by walk_at "dzk"), (by walk_at "dzk"), ?_⟩
  | with_reducible refine ix_of (by with_unfolding_all rfl) ?_
  | with_reducible refine st_of (by with_unfolding_all rfl) ?_
  | with_reducible refine od_pow (by decide) ?_
  | with_reducible refine Exists.intro _ (And.intro rfl ?_))
local macro_rules | `(tactic| walk_at "dz0") => `(tactic| dsimp only [cxOf, Cx.tr, Cx.suite, Cx.nox, Cx.blk, Pm.fn, slots, List.map, List.length, List.replicate, Nat.reduceAdd, Nat.reduceSub, List.cons_append, List.nil_append, List.append_nil, dOf])
local macro_rules | `(tactic| walk_at "dzb") => `(tactic| first
  | with_reducible refine br_t ?_
  | with_reducible refine br_f ?_
  | with_reducible refine br_t2 ?_
  | with_reducible refine br_f2 ?_
  | (with_reducible refine br_d ?_ ?_ <;> intro _)
  | (with_reducible refine br_d2 ?_ ?_ <;> intro _)
  | (with_reducible refine br_nd ?_ ?_ <;> intro h <;> first | with_reducible exact absurd rfl h | skip)
  | (with_reducible refine br_nd2 ?_ ?_ <;> intro h <;> first | with_reducible exact absurd rfl h | skip)
  | refine br_t ?_
  | refine br_f ?_
  | refine br_t2 ?_
  | refine br_f2 ?_
  | (with_reducible refine br_b ?_ ?_ <;> intro _)
  | (with_reducible refine br_b2 ?_ ?_ <;> intro _))
local macro_rules | `(tactic| walk_at "dz-") => `(tactic| repeat' (first
  | walk_at "dz"
  | walk_at "dzb"
  | ((refine And.intro ?_ ?_); (focus (show _ ≤ 10000; first | decide | (simp; done) | (simp; omega))))
  | dsimp only))
local macro_rules | `(tactic| walk_at "dz*") => `(tactic| repeat' (first
  | walk_at "dz"
  | with_reducible refine wp_if ?_
  | walk_at "dzb"
  | ((refine And.intro ?_ ?_); (focus (show _ ≤ 10000; first | decide | (simp; done) | (simp; omega))))
  | dsimp only))

variable {Pg : Program} {w : World} {K : PySem.W.Frag} {mg : Str → Option Value} {base : Heap} {ad : Ad}

theorem callIR {x : D} {b : Bool} {P : D → Prop} (hp : Plain x) (e : ratioD x = b) (k : P (.bl b)) :
    pm_is_ratio.pre W0 ([x] ++ []) ∧ (∀ r, pm_is_ratio.post ([x] ++ []) r → P r) ∧ ∀ C ns es, ¬ pm_is_ratio.exn ([x] ++ []) C ns es :=
  ⟨hp, fun r h => by cases (show r = .bl (ratioD x) from h); rw [e]; exact k, fun _ _ _ h => h⟩
theorem callIW {d l h : D} {b : Bool} {P : D → Prop} (hp : PlainI d) (hl : Opt l) (hh : Opt h) (e : wholeD d l h = b) (k : P (.bl b)) :
    pm_is_whole.pre W0 [d, l, h] ∧ (∀ r, pm_is_whole.post [d, l, h] r → P r) ∧ ∀ C ns es, ¬ pm_is_whole.exn [d, l, h] C ns es :=
  ⟨⟨hp, hl, hh⟩, fun r z => by cases (show r = .bl (wholeD d l h) from z); rw [e]; exact k, fun _ _ _ h => h⟩
theorem callMade {t b r : D} {P : D → Prop} (ht : PlainI t) (hb : PlainI b) (z : ∀ k, b = .int k → Bd 8900 k) (e : madeD t b = r) (k : P r) :
    pm_made.pre W0 ([t, b] ++ []) ∧ (∀ r, pm_made.post ([t, b] ++ []) r → P r) ∧ ∀ C ns es, ¬ pm_made.exn ([t, b] ++ []) C ns es :=
  ⟨⟨ht, hb, z⟩, fun r' h => by cases (show r' = madeD t b from h); rw [e]; exact k, fun _ _ _ h => h⟩
theorem callTake {p : Addr} {m : Int} {P : D → Prop} (m0 : 0 < m) (zm : Bd 8000 m) (k : ∀ v, 0 ≤ v → v < m → P (.int v)) :
    (pm_take K).pre (HandW K p) ([.adr p, .int m] ++ []) ∧ (∀ r, (pm_take K).post ([.adr p, .int m] ++ []) r → P r) ∧ ∀ C ns es, ¬ (pm_take K).exn ([.adr p, .int m] ++ []) C ns es :=
  ⟨⟨p, m, rfl, rfl, m0, zm, rfl⟩, fun r h => by
    obtain ⟨m', v, e, rfl, v0, v1⟩ := h
    cases e; exact k v v0 v1, fun _ _ _ h => h⟩
theorem plain2 (x y : D) (hx : PlainI x) (hy : PlainI y) : Plain (.tup [x, y]) := fun d hd => by
  simp only [List.mem_cons, or_false, List.not_mem_nil] at hd
  rcases hd with rfl | rfl <;> assumption
theorem plain3 (x y z : D) (hx : PlainI x) (hy : PlainI y) (hz : PlainI z) : Plain (.tup [x, y, z]) := fun d hd => by
  simp only [List.mem_cons, or_false, List.not_mem_nil] at hd
  rcases hd with rfl | rfl | rfl <;> assumption
theorem plain1 (x : D) (hx : PlainI x) : Plain (.tup [x]) := fun d hd => by
  simp only [List.mem_cons, or_false, List.not_mem_nil] at hd
  rcases hd with rfl; assumption
theorem plainL (x y : D) (hx : PlainI x) (hy : PlainI y) : Plain (.lst [x, y]) := plain2 x y hx hy
theorem pint (i : Int) : PlainI (.int i) := ⟨_, rfl⟩
theorem pbl (b : Bool) : PlainI (.bl b) := ⟨_, rfl⟩
theorem ratio_ii (a b : Int) : ratioD (.tup [.int a, .int b]) = (decide (1 ≤ b) && decide (gz a b = 1)) := by
  show (true && ((decide (1 ≤ b) && true) && decide (gz a b = 1))) = _
  rw [Bool.true_and, Bool.and_true]
theorem ratio_li (a b : Int) : ratioD (.lst [.int a, .int b]) = (decide (1 ≤ b) && decide (gz a b = 1)) := ratio_ii a b
theorem gz_scale (a b s : Int) : gz (a * s) (b * s) = gz a b * (s.natAbs : Int) := by
  unfold gz
  rw [Int.natAbs_mul, Int.natAbs_mul, Nat.gcd_mul_right]; rfl
theorem six_four {s : Int} (h : 0 < s) : ratS (6 * s) (-4 * s) = .tup [.int (-3), .int 2] := by
  have e : gz (-(6 * s)) (-(-4 * s)) = 2 * s := by
    unfold gz
    rw [Int.natAbs_neg, Int.natAbs_neg, Int.natAbs_mul, Int.natAbs_mul, Nat.gcd_mul_right]
    show ((2 * s.natAbs : Nat) : Int) = 2 * s
    omega
  unfold ratS
  rw [if_pos (by omega)]
  unfold rat
  rw [e]
  have e1 : -(6 * s) / (2 * s) = -3 := Int.ediv_eq_of_eq_mul_left (by omega) (by omega)
  have e2 : -(-4 * s) / (2 * s) = 2 := Int.ediv_eq_of_eq_mul_left (by omega) (by omega)
  rw [e1, e2]
theorem wp_callN0 {c : Cn} {q : List Sl} {P : D → Prop} {p : Pm} {n m : Nat} {gV : List V → List V → List V} (gD : List D → List D → List D) {E : XK} {ta tk : TA}
    (hg : ∀ G ds es xs ys, ds.length = n → es.length = m → IsL c.K G ds xs → IsL c.K G es ys → IsL c.K G (gD ds es) (gV xs ys))
    (h : wpA c ta q fun ds => wpA c tk q fun es => ds.length = n ∧ es.length = m ∧ p.pre c.W (gD ds es) ∧ (∀ d, p.post (gD ds es) d → P d) ∧ ∀ C ns zs, ¬ p.exn (gD ds es) C ns zs) :
    wpE c (tCallN n m (spD c.K p) gV E ta tk) q P :=
  wp_callN (Z := fun _ _ _ => False) (fun _ _ _ _ _ _ _ z => z.elim) hg h
theorem optI {K : PySem.W.Frag} {G : Hp} {ds : List D} {xs : List V} (h : IsL K G ds xs) (i : Nat) : IsL K G ds[i]?.toList xs[i]?.toList := by
  cases e : ds[i]? with
  | none =>
    have : xs[i]? = none := List.getElem?_eq_none (by rw [IsL.len h]; exact List.getElem?_eq_none_iff.mp e)
    rw [this]; rfl
  | some d =>
    obtain ⟨x, e1, ix⟩ := IsL.get h e
    rw [e1]; exact IsL.one ix
theorem hg_high {K : PySem.W.Frag} (G : Hp) (ds es : List D) (xs ys : List V) (_ : ds.length = 1) (_ : es.length = 1) (i1 : IsL K G ds xs) (i2 : IsL K G es ys) :
    IsL K G (g_is_whole_1_high ds [.non, .non] es) (g_is_whole_1_high xs [.non, .non] ys) :=
  IsL.app (IsL.app (optI i1 0) (optI (isDef (vs := [.non, .non]) rfl) 0)) (optI i2 0)
theorem hg_low_high {K : PySem.W.Frag} (G : Hp) (ds es : List D) (xs ys : List V) (_ : ds.length = 1) (_ : es.length = 2) (i1 : IsL K G ds xs) (i2 : IsL K G es ys) :
    IsL K G (g_is_whole_1_low_high ds [.non, .non] es) (g_is_whole_1_low_high xs [.non, .non] ys) :=
  IsL.app (IsL.app (optI i1 0) (optI i2 0)) (optI i2 1)
theorem hg_bottom {K : PySem.W.Frag} (G : Hp) (ds es : List D) (xs ys : List V) (_ : ds.length = 1) (_ : es.length = 1) (i1 : IsL K G ds xs) (i2 : IsL K G es ys) :
    IsL K G (g_make_ratio_1_bottom ds [.int 1] es) (g_make_ratio_1_bottom xs [.int 1] ys) :=
  IsL.app (optI i1 0) (optI i2 0)
theorem madeD_top {d b : D} (h : ∀ k, d ≠ .int k) : madeD d b = .lst [.str "BadRatio", .str "top"] := by
  cases d <;> first | rfl | exact absurd rfl (h _)
theorem madeD_bottom {a : Int} {d : D} (h : ∀ k, d ≠ .int k) : madeD (.int a) d = .lst [.str "BadRatio", .str "bottom"] := by
  cases d <;> first | rfl | exact absurd rfl (h _)
theorem odd_at {i : Int} (h0 : 0 ≤ i) (h1 : i < 5) : ∃ d, atI [D.bl true, .non, .str "1", .tup [.int 1], .bl false] i = some d ∧ PlainI d ∧ ∀ k, d ≠ .int k := by
  have : i = 0 ∨ i = 1 ∨ i = 2 ∨ i = 3 ∨ i = 4 := by omega
  rcases this with rfl | rfl | rfl | rfl | rfl
  all_goals exact ⟨_, by with_unfolding_all rfl, ⟨_, rfl⟩, fun k e => by cases e⟩
abbrev pm_odd (K : PySem.W.Frag) : Pm := .f2 (fun W x y => ∃ p a b, x = .adr p ∧ W = HandW K p ∧ RtG y a b) (fun _ _ r => r = .bl true)
theorem ok_odd_ones (T : Txt K mg ad) : FnOk Pg w K mg base (L2.CX Pg w) 5 ad.f__law_odd_ones ad.fd__law_odd_ones ["_law_hand_here", "_law_one"] (spD K (pm_odd K)) := by
  have G__law_take := ok_take (Pg := Pg) (w := w) (base := base) T
  have G__law_made := ok_made (Pg := Pg) (w := w) (base := base) T
  have G_is_ratio := ok_is_ratio (Pg := Pg) (w := w) (base := base) T
  have G_is_whole := ok_is_whole (Pg := Pg) (w := w) (base := base) T
  have G_make_ratio := ok_make_ratio (Pg := Pg) (w := w) (base := base) T
  obtain ⟨_, dv_is_whole_1, bd_is_whole_1⟩ := T.bd_is_whole_1
  obtain ⟨_, dv_is_whole_2, bd_is_whole_2⟩ := T.bd_is_whole_2
  obtain ⟨_, dv_is_whole_3, bd_is_whole_3⟩ := T.bd_is_whole_3
  obtain ⟨_, kb_is_whole_1_high⟩ := T.kb_is_whole_1_high
  obtain ⟨_, kb_is_whole_1_low_high⟩ := T.kb_is_whole_1_low_high
  obtain ⟨_, kb_make_ratio_1_bottom⟩ := T.kb_make_ratio_1_bottom
  refine fn_D T.F__law_odd_ones sc__law_odd_ones (fun W ds h => ?_) fun cdv A outer s E W G H ds hr o hp hx => ?_
  · obtain ⟨a, b, rfl, _⟩ := Pm.l2 h; rfl
  obtain ⟨_, _, rfl, p, a, b, rfl, rfl, rfl, b0, za, zb, ga⟩ := Pm.l2 hp
  refine ⟨_, (pss_cons (ps_asg (pv 1) (pg_tup (n := 2) rfl (pgs_cons (pg_name (i := 2) sc__law_odd_ones.nd rfl (by first | exact Or.inl rfl | exact Or.inr rfl)) (pgs_cons (pg_name (i := 3) sc__law_odd_ones.nd rfl (by first | exact Or.inl rfl | exact Or.inr rfl)) pgs_nil))))
      (pss_cons (ps_set (i := 4) sc__law_odd_ones.nd rfl (by first | exact Or.inl rfl | exact Or.inr rfl) (pe_op op_add pe_int (pe_call G__law_take (hr.mono (by first | decide | exact Nat.le_refl _)) (by rfl) T.m__law_take T.k__law_take T.b__law_take .nil passL (pa_cons (pv 0) (pa_cons pe_int pa_nil)))))
      (pss_cons (ps_if (pw_or (pt_val (pe_call G_is_ratio (hr.mono (by first | decide | exact Nat.le_refl _)) (by rfl) T.m_is_ratio T.k_is_ratio T.b_is_ratio .nil passL (pa_cons (pe_tup (pa_cons (pe_op op_mulW (pv 2) (pv 4)) (pa_cons (pe_op op_mulW (pv 3) (pv 4)) pa_nil))) pa_nil))) (pw_or (pt_val (pe_call G_is_ratio (hr.mono (by first | decide | exact Nat.le_refl _)) (by rfl) T.m_is_ratio T.k_is_ratio T.b_is_ratio .nil passL (pa_cons (pe_tup (pa_cons (pv 2) (pa_cons (pe_un un_neg (pv 3)) pa_nil))) pa_nil))) (pw_or (pt_val (pe_call G_is_ratio (hr.mono (by first | decide | exact Nat.le_refl _)) (by rfl) T.m_is_ratio T.k_is_ratio T.b_is_ratio .nil passL (pa_cons (pe_tup (pa_cons (pv 2) (pa_cons pe_int pa_nil))) pa_nil))) (pw_or (pt_val (pe_call G_is_ratio (hr.mono (by first | decide | exact Nat.le_refl _)) (by rfl) T.m_is_ratio T.k_is_ratio T.b_is_ratio .nil passL (pa_cons (pe_tup (pa_cons (pv 2) (pa_cons (pv 3) (pa_cons pe_int pa_nil)))) pa_nil))) (pw_or1 (pt_val (pe_call G_is_ratio (hr.mono (by first | decide | exact Nat.le_refl _)) (by rfl) T.m_is_ratio T.k_is_ratio T.b_is_ratio .nil passL (pa_cons (pv 2) pa_nil)))))))).pt (pss_one (ps_ret pe_bl)) pss_nil)
      (pss_cons (ps_if (pw_or (pt_val (pe_call G_is_ratio (hr.mono (by first | decide | exact Nat.le_refl _)) (by rfl) T.m_is_ratio T.k_is_ratio T.b_is_ratio .nil passL (pa_cons (pe_tup (pa_cons pe_bl (pa_cons pe_int pa_nil))) pa_nil))) (pw_or (pt_val (pe_call G_is_ratio (hr.mono (by first | decide | exact Nat.le_refl _)) (by rfl) T.m_is_ratio T.k_is_ratio T.b_is_ratio .nil passL (pa_cons (pe_tup (pa_cons (pv 2) (pa_cons pe_bl pa_nil))) pa_nil))) (pw_or (pt_val (pe_call G_is_ratio (hr.mono (by first | decide | exact Nat.le_refl _)) (by rfl) T.m_is_ratio T.k_is_ratio T.b_is_ratio .nil passL (pa_cons pe_str pa_nil))) (pw_or (pt_val (pe_call G_is_ratio (hr.mono (by first | decide | exact Nat.le_refl _)) (by rfl) T.m_is_ratio T.k_is_ratio T.b_is_ratio .nil passL (pa_cons pe_non pa_nil))) (pw_or1 (pt_val (pe_call G_is_ratio (hr.mono (by first | decide | exact Nat.le_refl _)) (by rfl) T.m_is_ratio T.k_is_ratio T.b_is_ratio .nil passL (pa_cons (pe_tup (pa_cons (pv 2) pa_nil)) pa_nil)))))))).pt (pss_one (ps_ret pe_bl)) pss_nil)
      (pss_cons (ps_if (pw_or (pt_cmpR op_isnot_bl (pe_call G_is_ratio (hr.mono (by first | decide | exact Nat.le_refl _)) (by rfl) T.m_is_ratio T.k_is_ratio T.b_is_ratio .nil passL (pa_cons (pe_tup (pa_cons (pv 2) (pa_cons (pv 3) pa_nil))) pa_nil)) pe_bl (nomark _)) (pw_or1 (pt_cmpR op_isnot_bl (pe_call G_is_ratio (hr.mono (by first | decide | exact Nat.le_refl _)) (by rfl) T.m_is_ratio T.k_is_ratio T.b_is_ratio .nil passL (pa_cons (pe_lst (pa_cons (pv 2) (pa_cons (pv 3) pa_nil))) pa_nil)) pe_bl (nomark _)))).pt (pss_one (ps_ret pe_bl)) pss_nil)
      (pss_cons (ps_set (i := 5) sc__law_odd_ones.nd rfl (by first | exact Or.inl rfl | exact Or.inr rfl) (pe_op op_sub (pe_call G__law_take (hr.mono (by first | decide | exact Nat.le_refl _)) (by rfl) T.m__law_take T.k__law_take T.b__law_take .nil passL (pa_cons (pv 0) (pa_cons pe_int pa_nil))) pe_int))
      (pss_cons (ps_if (pw_or (pt_cmpR op_isnot_bl (pe_call G_is_whole (hr.mono (by first | decide | exact Nat.le_refl _)) (by rfl) T.m_is_whole T.k_is_whole bd_is_whole_1 dv_is_whole_1 passL (pa_cons (pv 2) pa_nil)) pe_bl (nomark _)) (pw_or (pt_val (pe_call G_is_whole (hr.mono (by first | decide | exact Nat.le_refl _)) (by rfl) T.m_is_whole T.k_is_whole bd_is_whole_1 dv_is_whole_1 passL (pa_cons pe_bl pa_nil))) (pw_or (pt_val (pe_call G_is_whole (hr.mono (by first | decide | exact Nat.le_refl _)) (by rfl) T.m_is_whole T.k_is_whole bd_is_whole_2 dv_is_whole_2 passL (pa_cons pe_non (pa_cons pe_int pa_nil)))) (pw_or (pt_val (pe_call G_is_whole (hr.mono (by first | decide | exact Nat.le_refl _)) (by rfl) T.m_is_whole T.k_is_whole bd_is_whole_1 dv_is_whole_1 passL (pa_cons pe_str pa_nil))) (pw_or1 (pt_val (pe_call G_is_whole (hr.mono (by first | decide | exact Nat.le_refl _)) (by rfl) T.m_is_whole T.k_is_whole bd_is_whole_3 dv_is_whole_3 passL (pa_cons (pe_tup (pa_cons pe_int pa_nil)) (pa_cons pe_int (pa_cons pe_int pa_nil)))))))))).pt (pss_one (ps_ret pe_bl)) pss_nil)
      (pss_cons (ps_if (pw_or (pt_cmpR op_isnot_bl (pe_callN G_is_whole (hr.mono (by first | decide | exact Nat.le_refl _)) (by rfl) T.m_is_whole T.k_is_whole kb_is_whole_1_low_high passL (pa_cons (pv 5) pa_nil) (pk_cons (pv 5) (pk_cons (pv 5) pk_nil))) pe_bl (nomark _)) (pw_or (pt_val (pe_callN G_is_whole (hr.mono (by first | decide | exact Nat.le_refl _)) (by rfl) T.m_is_whole T.k_is_whole kb_is_whole_1_high passL (pa_cons (pv 5) pa_nil) (pk_cons (pe_op op_sub (pv 5) pe_int) pk_nil))) (pw_or1 (pt_cmpR (op_neD (Dz.hu64 hr)) (pe_callN G_make_ratio (hr.mono (by first | decide | exact Nat.le_refl _)) (by rfl) T.m_make_ratio T.k_make_ratio kb_make_ratio_1_bottom (passes_call (takes_of rfl rfl rfl rfl) (fun _ _ _ _ h => h)) (pa_cons (pe_op op_mulW pe_int (pv 4)) pa_nil) (pk_cons (pe_op op_mulW (pe_un un_neg pe_int) (pv 4)) pk_nil)) (pe_tup (pa_cons (pe_un un_neg pe_int) (pa_cons pe_int pa_nil))) (nomark _))))).pt (pss_one (ps_ret pe_bl)) pss_nil)
      (pss_cons (ps_if (pw_or (pt_cmpR op_isnot_bl (pe_call G_is_whole (hr.mono (by first | decide | exact Nat.le_refl _)) (by rfl) T.m_is_whole T.k_is_whole bd_is_whole_3 dv_is_whole_3 passL (pa_cons (pv 5) (pa_cons (pv 5) (pa_cons (pv 5) pa_nil)))) pe_bl (nomark _)) (pw_or (pt_val (pe_call G_is_whole (hr.mono (by first | decide | exact Nat.le_refl _)) (by rfl) T.m_is_whole T.k_is_whole bd_is_whole_2 dv_is_whole_2 passL (pa_cons (pe_op op_sub (pv 5) pe_int) (pa_cons (pv 5) pa_nil)))) (pw_or (pt_val (pe_call G_is_whole (hr.mono (by first | decide | exact Nat.le_refl _)) (by rfl) T.m_is_whole T.k_is_whole bd_is_whole_3 dv_is_whole_3 passL (pa_cons (pe_op op_add (pv 5) pe_int) (pa_cons pe_non (pa_cons (pv 5) pa_nil))))) (pw_or1 (pt_not (pt_val (pe_call G_is_whole (hr.mono (by first | decide | exact Nat.le_refl _)) (by rfl) T.m_is_whole T.k_is_whole bd_is_whole_2 dv_is_whole_2 passL (pa_cons (pe_op op_add (pv 5) pe_int) (pa_cons (pv 5) pa_nil))))))))).pt (pss_one (ps_ret pe_bl)) pss_nil)
      (pss_cons (ps_set (i := 6) sc__law_odd_ones.nd rfl (by first | exact Or.inl rfl | exact Or.inr rfl) (pe_ix ix_seq (pe_lst (pa_cons pe_bl (pa_cons pe_non (pa_cons pe_str (pa_cons (pe_tup (pa_cons pe_int pa_nil)) (pa_cons pe_bl pa_nil)))))) (pe_call G__law_take (hr.mono (by first | decide | exact Nat.le_refl _)) (by rfl) T.m__law_take T.k__law_take T.b__law_take .nil passL (pa_cons (pv 0) (pa_cons pe_int pa_nil))) (fun _ _ => rfl)))
      (pss_cons (ps_if (pw_or (pt_cmpR (op_neD (Dz.hu64 hr)) (pe_call G__law_made (hr.mono (by first | decide | exact Nat.le_refl _)) (by rfl) T.m__law_made T.k__law_made T.b__law_made .nil passL (pa_cons (pv 6) (pa_cons pe_int pa_nil))) (pe_lst (pa_cons pe_str (pa_cons pe_str pa_nil))) (nomark _)) (pw_or (pt_cmpR (op_neD (Dz.hu64 hr)) (pe_call G__law_made (hr.mono (by first | decide | exact Nat.le_refl _)) (by rfl) T.m__law_made T.k__law_made T.b__law_made .nil passL (pa_cons (pv 2) (pa_cons (pv 6) pa_nil))) (pe_lst (pa_cons pe_str (pa_cons pe_str pa_nil))) (nomark _)) (pw_or1 (pt_cmpR (op_neD (Dz.hu64 hr)) (pe_call G__law_made (hr.mono (by first | decide | exact Nat.le_refl _)) (by rfl) T.m__law_made T.k__law_made T.b__law_made .nil passL (pa_cons (pv 6) (pa_cons (pv 6) pa_nil))) (pe_lst (pa_cons pe_str (pa_cons pe_str pa_nil))) (nomark _))))).pt (pss_one (ps_ret pe_bl)) pss_nil)
      (pss_one (ps_ret (pe_cmpR (op_eqD (Dz.hu64 hr)) (pe_call G__law_made (hr.mono (by first | decide | exact Nat.le_refl _)) (by rfl) T.m__law_made T.k__law_made T.b__law_made .nil passL (pa_cons (pv 2) (pa_cons pe_int pa_nil))) (pe_lst (pa_cons pe_str (pa_cons pe_str pa_nil))) (nomark _))))))))))))))), ?_⟩
  walk_at "dz0"
  walk_at "dz-"
  refine callTake (by decide) (Bd.lit (n := 20) (by decide) |>.mono (by decide)) fun v v0 v1 => ?_
  have zv : Bd 20 (2 + v) := Bd.le (j := 100) (.lit (by decide)) (by omega)
  walk_at "dz-"
  have hs : ∀ P : D → Prop, P (.int (2 + v)) → P (.int (2 + v)) := fun _ h => h
  walk_at "dzm"
  walk_at "dz-"
  walk_at "dzm"
  walk_at "dz-"
  refine callIR (b := false) (plain2 _ _ (pint _) (pint _)) (by rw [ratio_ii, gz_scale, ga, decide_eq_false (show ¬ (1 : Int) * ((2 + v).natAbs : Int) = 1 by omega), Bool.and_false]) ?_
  walk_at "dz-"
  refine callIR (b := false) (plain2 _ _ (pint _) (pint _)) (by rw [ratio_ii, decide_eq_false (show ¬ 1 ≤ -b by omega), Bool.false_and]) ?_
  walk_at "dz-"
  refine callIR (b := false) (plain2 _ _ (pint _) (pint _)) (by rw [ratio_ii, decide_eq_false (show ¬ (1 : Int) ≤ 0 by omega), Bool.false_and]) ?_
  walk_at "dz-"
  refine callIR (b := false) (plain3 _ _ _ (pint _) (pint _) (pint _)) rfl ?_
  walk_at "dz-"
  refine callIR (x := .int a) (b := false) (pint _) rfl ?_
  walk_at "dz-"
  refine callIR (b := false) (plain2 _ _ (pbl _) (pint _)) rfl ?_
  walk_at "dz-"
  refine callIR (b := false) (plain2 _ _ (pint _) (pbl _)) rfl ?_
  walk_at "dz-"
  refine callIR (x := .str "12") (b := false) (show PlainI (.str "12") from ⟨_, rfl⟩) rfl ?_
  walk_at "dz-"
  refine callIR (x := .non) (b := false) (show PlainI .non from ⟨_, rfl⟩) rfl ?_
  walk_at "dz-"
  refine callIR (b := false) (plain1 _ (pint _)) rfl ?_
  walk_at "dz-"
  refine callIR (b := true) (plain2 _ _ (pint _) (pint _)) (by rw [ratio_ii, ga, decide_eq_true (show 1 ≤ b by omega)]; rfl) ?_
  walk_at "dz-"
  refine callIR (b := true) (plainL _ _ (pint _) (pint _)) (by rw [ratio_li, ga, decide_eq_true (show 1 ≤ b by omega)]; rfl) ?_
  walk_at "dz-"
  refine callTake (by decide) (Bd.lit (n := 20) (by decide) |>.mono (by decide)) fun u u0 u1 => ?_
  walk_at "dz-"
  refine callIW (b := true) (pint _) (.inl rfl) (.inl rfl) rfl ?_
  walk_at "dz-"
  refine callIW (b := false) (pbl _) (.inl rfl) (.inl rfl) rfl ?_
  walk_at "dz-"
  refine callIW (d := .non) (b := false) ⟨_, rfl⟩ (.inr ⟨_, rfl⟩) (.inl rfl) rfl ?_
  walk_at "dz-"
  refine callIW (d := .str "1") (b := false) ⟨_, rfl⟩ (.inl rfl) (.inl rfl) rfl ?_
  walk_at "dz-"
  refine callIW (d := .tup [.int 1]) (b := false) ⟨_, rfl⟩ (.inr ⟨_, rfl⟩) (.inr ⟨_, rfl⟩) rfl ?_
  walk_at "dz-"
  have cN : ∀ {P : D → Prop} {d l h : D} {b : Bool}, PlainI d → Opt l → Opt h → wholeD d l h = b → P (.bl b) →
      pm_is_whole.pre W0 [d, l, h] ∧ (∀ r, pm_is_whole.post [d, l, h] r → P r) ∧ ∀ C ns es, ¬ pm_is_whole.exn [d, l, h] C ns es := fun a b c d e => callIW a b c d e
  refine wp_callN0 (fun us ws => g_is_whole_1_low_high us [.non, .non] ws) hg_low_high ?_
  walk_at "dz-"
  refine ⟨rfl, rfl, callIW (b := true) (pint _) (.inr ⟨_, rfl⟩) (.inr ⟨_, rfl⟩) (by simp [wholeD]) ?_⟩
  walk_at "dz-"
  refine wp_callN0 (fun us ws => g_is_whole_1_high us [.non, .non] ws) hg_high ?_
  walk_at "dz-"
  refine ⟨rfl, rfl, callIW (b := false) (pint _) (.inl rfl) (.inr ⟨_, rfl⟩) (by simp [wholeD]; omega) ?_⟩
  walk_at "dz-"
  refine wp_callN0 (fun us ws => g_make_ratio_1_bottom us [.int 1] ws) hg_bottom ?_
  walk_at "dz-"
  walk_at "dzm"
  walk_at "dz-"
  walk_at "dzm"
  walk_at "dz-"
  refine ⟨rfl, rfl, ⟨pint _, pint _, fun k e => ?_⟩, ?_, ?_⟩
  · cases e
    exact (Bd.le (n := 20) (j := 1000) (.lit (by decide)) (by omega)).mono (by decide)
  · rintro _ ⟨_, x, y, e1, e2, rfl⟩
    cases e1; cases e2
    rw [six_four (by omega)]
    walk_at "dz-"
    refine callIW (b := true) (pint _) (.inr ⟨_, rfl⟩) (.inr ⟨_, rfl⟩) (by simp [wholeD]) ?_
    walk_at "dz-"
    refine callIW (b := false) (pint _) (.inr ⟨_, rfl⟩) (.inl rfl) (by simp [wholeD]; omega) ?_
    walk_at "dz-"
    refine callIW (b := false) (pint _) (.inl rfl) (.inr ⟨_, rfl⟩) (by simp [wholeD]; omega) ?_
    walk_at "dz-"
    refine callIW (b := true) (pint _) (.inr ⟨_, rfl⟩) (.inl rfl) (by simp [wholeD]; omega) ?_
    walk_at "dz-"
    refine callTake (by decide) (Bd.lit (n := 20) (by decide) |>.mono (by decide)) fun i i0 i1 => ?_
    obtain ⟨d, ed, pd, nd⟩ := odd_at i0 i1
    walk_at "dz-"
    refine od_ixL ed ?_
    walk_at "dz-"
    refine callMade pd (pint _) (fun k e => by cases e; exact (Bd.lit (n := 20) (by decide)).mono (by decide)) (madeD_top nd) ?_
    walk_at "dz-"
    refine callMade (pint _) pd (fun k e => (nd k e).elim) (madeD_bottom nd) ?_
    walk_at "dz-"
    refine callMade pd pd (fun k e => (nd k e).elim) (madeD_top nd) ?_
    walk_at "dz-"
    refine callMade (r := .lst [.str "BadRatio", .str "bottom"]) (pint _) (pint _) (fun k e => by cases e; exact (Bd.lit (n := 20) (by decide)).mono (by decide)) rfl ?_
    walk_at "dz-"
  · rintro C ns es ⟨t, b', f, e, hf, _⟩
    cases e
    have hf : (if -4 * (2 + v) = 0 then some ("bottom" : Str) else none) = some f := hf
    rw [if_neg (by omega)] at hf
    cases hf
end K01

set_option Elab.async false
set_option linter.all false
set_option maxRecDepth 100000
set_option maxHeartbeats 3999999
namespace K01
open L2 PySem PyProof.Rows PySem.Spec Dz
local macro_rules | `(tactic| walk_at "bd") => `(tactic| first
  | assumption
  | exact Bd.one
  | (apply Bd.neg; walk_at "bd")
  | (apply Bd.mul <;> walk_at "bd")
  | (apply Bd.add2 <;> walk_at "bd")
  | (apply Bd.sub2 <;> walk_at "bd")
  | (apply Bd.ediv; walk_at "bd")
  | exact Bd.lit (n := 20) (by decide))
local macro_rules | `(tactic| walk_at "dzm") => `(tactic| refine od_ci (CMulW.of (by walk_at "bd") (by walk_at "bd") (by decide)) ?_)
local macro_rules | `(tactic| walk_at "dzk") => `(tactic| first
  | exact kit_NoneType_bool
  | exact kit_NoneType_int
  | exact kit_NoneType_str
  | exact kit_NoneType_tuple
  | exact kit_NoneType_list
  | exact kit_bool_bool
  | exact kit_bool_int
  | exact kit_bool_str
  | exact kit_bool_tuple
  | exact kit_bool_list
  | exact kit_int_bool
  | exact kit_int_int
  | exact kit_int_str
  | exact kit_int_tuple
  | exact kit_int_list
  | exact kit_str_bool
  | exact kit_str_int
  | exact kit_str_str
  | exact kit_str_tuple
  | exact kit_str_list
  | exact kit_tuple_bool
  | exact kit_tuple_int
  | exact kit_tuple_str
  | exact kit_tuple_tuple
  | exact kit_tuple_list
  | exact kit_list_bool
  | exact kit_list_int
  | exact kit_list_str
  | exact kit_list_tuple
  | exact kit_list_list)
local macro_rules | `(tactic| walk_at "dz!") => `(tactic| first
  | rfl | assumption | decide | (simp only [List.length_cons, List.length_nil, List.length_set]; omega) | (simp; done))
local macro_rules | `(tactic| walk_at "dz") => `(tactic| first
  | with_reducible refine ws_seq ?_
  | with_reducible refine ws_next ?_
  | with_reducible refine ws_ret ?_
  | with_reducible refine ws_retN ?_
  | with_reducible refine ws_if ?_
  | with_reducible refine ws_setO rfl ?_
  | with_reducible refine ws_asg ?_
  | ((with_reducible refine ws_own ?_ ?_); (focus walk_at "dz!"))
  | with_reducible refine wf_lst ?_
  | with_reducible refine ws_app rfl ?_
  | with_reducible refine wp_slL ?_
  | with_reducible refine wo_none ?_
  | with_reducible refine wo_some ?_
  | with_reducible refine cb_lenS ?_
  | with_reducible refine ws_par ?_
  | ((with_reducible refine wg_name ?_ ?_); (focus walk_at "dz!"))
  | with_reducible refine wg_tup (by with_unfolding_all rfl) ?_
  | with_reducible refine wg_lst (by with_unfolding_all rfl) ?_
  | with_reducible refine wg_cons ?_
  | with_reducible refine wg_nil ?_
  | (with_reducible refine wp_var rfl ?_)
  | with_reducible refine wp_int ?_
  | with_reducible refine wp_bl ?_
  | with_reducible refine wp_str ?_
  | with_reducible refine wp_non ?_
  | with_reducible refine wp_ref (by assumption) ?_
  | with_reducible refine wp_ty ?_
  | with_reducible refine wp_ixO rfl ?_
  | with_reducible refine wp_op ?_
  | with_reducible refine wp_un ?_
  | with_reducible refine wp_andV ?_
  | with_reducible refine wp_orV ?_
  | with_reducible refine wp_notV ?_
  | with_reducible refine wp_notT ?_
  | with_reducible refine wp_isN ?_
  | with_reducible refine wp_notN ?_
  | with_reducible refine wp_nil ?_
  | with_reducible refine wp_cons ?_
  | with_reducible refine wp_tup ?_
  | with_reducible refine wp_lst ?_
  | ((with_reducible refine wp_isi2 ?_); dsimp only)
  | with_reducible refine wp_lenO rfl ?_
  | with_reducible refine wp_tupO rfl ?_
  | with_reducible refine wp_cb ?_
  | ((with_reducible refine wp_call0 rfl ?_); dsimp only [List.map, dOf, List.nil_append, List.cons_append, List.append_nil])
  | with_reducible refine wp_chain ?_
  | with_reducible refine wt_test ?_
  | with_reducible refine wt_B ?_
  | with_reducible refine wt_and ?_
  | with_reducible refine wt_or ?_
  | with_reducible refine wt_not ?_
  | with_reducible refine wt_tru ?_
  | with_reducible refine wt_yes ?_
  | with_reducible refine od_i ?_
  | with_reducible refine od_b ?_
  | with_reducible refine od_ixT (by first | with_unfolding_all rfl | exact atI_cons0) ?_
  | with_reducible refine od_ixL (by first | with_unfolding_all rfl | exact atI_cons0) ?_
  | with_reducible refine od_eqI ?_
  | with_reducible refine od_neI ?_
  | with_reducible refine od_eq_same (by with_unfolding_all rfl) ?_
  | with_reducible refine od_ne_same (by with_unfolding_all rfl) ?_
  | with_reducible refine od_eq (by with_unfolding_all rfl) (by with_unfolding_all rfl) ?_
  | with_reducible refine od_ne (by with_unfolding_all rfl) (by with_unfolding_all rfl) ?_
  | with_reducible refine od_bb ?_
  | with_reducible refine ud_neg ?_
  | with_reducible refine cb_lenT ?_
  | with_reducible refine cb_lenL ?_
  | with_reducible refine cb_abs ?_
  | with_reducible refine cb_int ?_
  | with_reducible refine cb_gcd ?_
  | with_reducible refine cb_min ?_
  | with_reducible refine cb_max ?_
  | with_reducible refine cb_listT ?_
  | with_reducible refine cb_listL ?_
  | with_reducible refine cb_tupT ?_
  | with_reducible refine cb_tupL ?_
  | with_reducible refine cb_isi (by with_unfolding_all rfl) (by walk_at "dzk") ?_
  | with_reducible refine ⟨_, _, _, (by with_unfolding_all rfl), (by walk_at "dzk"), (by walk_at "dzk"), ?_⟩
  | with_reducible refine ix_of (by with_unfolding_all rfl) ?_
  | with_reducible refine st_of (by with_unfolding_all rfl) ?_
  | with_reducible refine od_pow (by decide) ?_
  | with_reducible refine Exists.intro _ (And.intro rfl ?_))
local macro_rules | `(tactic| walk_at "dz0") => `(tactic| dsimp only [cxOf, Cx.tr, Cx.suite, Cx.nox, Cx.blk, Pm.fn, slots, List.map, List.length, List.replicate, Nat.reduceAdd, Nat.reduceSub, List.cons_append, List.nil_append, List.append_nil, dOf])
local macro_rules | `(tactic| walk_at "dzb") => `(tactic| first
  | with_reducible refine br_t ?_
  | with_reducible refine br_f ?_
  | with_reducible refine br_t2 ?_
  | with_reducible refine br_f2 ?_
  | (with_reducible refine br_d ?_ ?_ <;> intro _)
  | (with_reducible refine br_d2 ?_ ?_ <;> intro _)
  | (with_reducible refine br_nd ?_ ?_ <;> intro h <;> first | with_reducible exact absurd rfl h | skip)
  | (with_reducible refine br_nd2 ?_ ?_ <;> intro h <;> first | with_reducible exact absurd rfl h | skip)
  | refine br_t ?_
  | refine br_f ?_
  | refine br_t2 ?_
  | refine br_f2 ?_
  | (with_reducible refine br_b ?_ ?_ <;> intro _)
  | (with_reducible refine br_b2 ?_ ?_ <;> intro _))
local macro_rules | `(tactic| walk_at "dz-") => `(tactic| repeat' (first
  | walk_at "dz"
  | walk_at "dzb"
  | ((refine And.intro ?_ ?_); (focus (show _ ≤ 10000; first | decide | (simp; done) | (simp; omega))))
  | dsimp only))
local macro_rules | `(tactic| walk_at "dz*") => `(tactic| repeat' (first
  | walk_at "dz"
  | with_reducible refine wp_if ?_
  | walk_at "dzb"
  | ((refine And.intro ?_ ?_); (focus (show _ ≤ 10000; first | decide | (simp; done) | (simp; omega))))
  | dsimp only))

variable {Pg : Program} {w : World} {K : PySem.W.Frag} {mg : Str → Option Value} {base : Heap} {ad : Ad}

theorem ok_new (T : Txt K mg ad) : FnOk Pg w K mg base (L2.CX Pg w) 1 ad.f__law_hand ad.fd__law_hand ["_law_script"] (spNew K) := by
  refine fn_new T.F__law_hand sc__law_hand rfl fun cdv A outer s E G H ns hr hz => ?_
  refine ⟨_, (pss_cons (ps_set (i := 1) sc__law_hand.nd rfl (by first | exact Or.inl rfl | exact Or.inr rfl) (pe_op op_add (pe_op op_mulW pe_int (pe_callB call_len_seq (by rfl) T.b_len (by decide +kernel) (pa_cons (pv 0) pa_nil))) pe_int))
      (pss_cons (Dz.ps_own (ps_set (i := 2) sc__law_hand.nd rfl (by first | exact Or.inl rfl | exact Or.inr rfl) (pe_lst pa_nil)))
      (pss_cons (ps_for (by passes_own) rfl (pi_list (pv 0)) (pg_name (i := 3) sc__law_hand.nd rfl (by first | exact Or.inl rfl | exact Or.inr rfl)) (pss_cons (ps_set (i := 1) sc__law_hand.nd rfl (by first | exact Or.inl rfl | exact Or.inr rfl) (pe_op op_mod (pe_callTy (T := "int") call_int1 (by rfl) T.b_int (by decide +kernel) (pa_cons (pe_op op_add (pe_op op_mulW (pv 1) pe_int) (pe_callTy (T := "int") call_int1 (by rfl) T.b_int (by decide +kernel) (pa_cons (pv 3) pa_nil))) pa_nil)) pe_int))
      (pss_one (ps_expr (pe_bm PySem.F.plainAttrs_list PySem.F.slot_list_append PySem.F.type_list_append mt_append (pv 2) (pa_cons (pe_callB call_abs (by rfl) T.b_abs (by decide +kernel) (pa_cons (pe_callTy (T := "int") call_int1 (by rfl) T.b_int (by decide +kernel) (pa_cons (pv 3) pa_nil)) pa_nil)) pa_nil))))))
      (pss_one (Dz.ps_retF (ps_ret (pe_lst (pa_cons (pv 2) (pa_cons pe_int (pa_cons pe_int (pa_cons (pv 1) pa_nil))))))))))), ?_⟩
  have hl : (ns.map D.int).length = ns.length := List.length_map ..
  have zl : Bd 20 ((ns.map D.int).length : Int) := Bd.le (j := 100) (.lit (by decide)) (by omega)
  walk_at "dz0"
  walk_at "dz-"
  walk_at "dzm"
  walk_at "dz-"
  intro a
  walk_at "dz-"
  refine ws_forS ?_
  walk_at "dz-"
  refine ⟨fun i q => ∃ t cs z, q = [.dat (.scr (ns.map D.int)), .dat (.int t), .own a (cs.map D.int), z] ∧ 0 ≤ t ∧ t < 2147483549 ∧ cs.length = i ∧ ∀ x ∈ cs, (0 : Int) ≤ x, ⟨_, [], _, rfl, by omega, by omega, rfl, by simp⟩, ?_, ?_⟩
  · rintro i x _ hi ⟨t, cs, z, rfl, t0, t1, hc, h0⟩
    have zt : Bd 40 t := .of_range t0 t1 (.lit (by decide))
    obtain ⟨n, hn, rfl⟩ : ∃ n, ns[i]? = some n ∧ x = .int n := by
      rw [List.getElem?_map] at hi
      cases e : ns[i]? with
      | none => rw [e] at hi; cases hi
      | some n => rw [e] at hi; cases hi; exact ⟨n, rfl, rfl⟩
    have ilt := (List.getElem?_eq_some_iff.mp hn).1
    walk_at "dz-"
    walk_at "dzm"
    walk_at "dz-"
    refine od_modF (by decide) fun u u0 u1 => ?_
    walk_at "dz-"
    refine ⟨u, cs ++ [if n < 0 then -n else n], .dat (.int n), ?_, u0, u1, by rw [List.length_append, hc]; rfl, ?_⟩
    · rw [List.map_append]; rfl
    · intro x hx
      rcases List.mem_append.mp hx with hy | hx
      · exact h0 x hy
      · cases List.mem_singleton.mp hx
        split <;> omega
  · rintro _ ⟨t, cs, z, rfl, t0, t1, hc, h0⟩
    walk_at "dz-"
    refine ws_keep (i := 2) rfl ?_
    refine ws_retO 1 (by simp) ?_
    walk_at "dz-"
    refine fun a => ⟨1, a, cs, t, rfl, rfl, ⟨by omega, by decide, by omega, by decide, t0, t1, h0⟩⟩

theorem ratS_one (a : Int) : ratS a 1 = .tup [.int a, .int 1] := by
  have e : gz a 1 = 1 := by unfold gz; rw [show (1 : Int).natAbs = 1 from rfl, Nat.gcd_one_right]; rfl
  unfold ratS
  rw [if_neg (by decide)]
  unfold rat
  rw [e, Int.ediv_one, Int.ediv_one]
theorem madeD_ii (a b : Int) : madeD (.int a) (.int b) = if b = 0 then oops "bottom" else ratS a b := by
  unfold madeD mkFault
  dsimp only
  split <;> rename_i h
  · split at h
    · cases h; rw [if_pos (by assumption)]
    · cases h
  · split at h
    · cases h
    · rw [if_neg (by assumption)]
theorem cmp_due (c : Prop) [Decidable c] (a b : Int) : D.cmp (if c then oops "bottom" else ratS a b) = true := by
  split
  · with_unfolding_all rfl
  · exact cmp_ratS _ _
theorem dr_app {ps qs : List (Int × Int)} (h : Dr ps) (k : Dr qs) : Dr (ps ++ qs) := fun x hx => (List.mem_append.mp hx).elim (h x) (k x)
theorem callDrawn {p : Addr} {P : D → Prop} (k : ∀ a b, RtG (.tup [.int a, .int b]) a b → P (.tup [.int a, .int b])) :
    (pm_drawn K).pre (HandW K p) ([.adr p] ++ []) ∧ (∀ r, (pm_drawn K).post ([.adr p] ++ []) r → P r) ∧ ∀ C ns es, ¬ (pm_drawn K).exn ([.adr p] ++ []) C ns es :=
  ⟨⟨p, rfl, rfl⟩, fun r h => by
    obtain ⟨a, b, h⟩ := h
    have e := h.eq
    subst e
    exact k a b h, fun _ _ _ h => h⟩
theorem callPair {x y : D} {a b c d : Int} {P : D → Prop} (h : RtG x a b) (i : RtG y c d) (k : P (.bl true)) :
    pm_pair.pre W0 ([x, y] ++ []) ∧ (∀ r, pm_pair.post ([x, y] ++ []) r → P r) ∧ ∀ C ns es, ¬ pm_pair.exn ([x, y] ++ []) C ns es :=
  ⟨⟨⟨a, b, h⟩, c, d, i⟩, fun r h => by cases (show r = .bl true from h); exact k, fun _ _ _ h => h⟩
theorem callRows {ps : List (Int × Int)} {P : D → Prop} (h : Dr ps) (z : ps.length ≤ 16) (k : P (.bl true)) :
    pm_rows.pre W0 ([.lst (ps.map couple)] ++ []) ∧ (∀ r, pm_rows.post ([.lst (ps.map couple)] ++ []) r → P r) ∧ ∀ C ns es, ¬ pm_rows.exn ([.lst (ps.map couple)] ++ []) C ns es :=
  ⟨⟨ps, rfl, h, z⟩, fun r h => by cases (show r = .bl true from h); exact k, fun _ _ _ h => h⟩
theorem callOdd {p : Addr} {y : D} {a b : Int} {P : D → Prop} (h : RtG y a b) (k : P (.bl true)) :
    (pm_odd K).pre (HandW K p) ([.adr p, y] ++ []) ∧ (∀ r, (pm_odd K).post ([.adr p, y] ++ []) r → P r) ∧ ∀ C ns es, ¬ (pm_odd K).exn ([.adr p, y] ++ []) C ns es :=
  ⟨⟨p, a, b, rfl, rfl, h⟩, fun r h => by cases (show r = .bl true from h); exact k, fun _ _ _ h => h⟩
theorem zeroG : RtG (.tup [.int 0, .int 1]) 0 1 := ⟨rfl, by decide, (Bd.lit (n := 20) (by decide)).mono (by decide), (Bd.lit (n := 20) (by decide)).mono (by decide), rfl⟩
theorem ok_law (T : Txt K mg ad) : FnOk Pg w K mg base (L2.CX Pg w) 6 ad.f_law ad.fd_law ["_law_script"] (spLaw K) := by
  have G__law_hand := ok_new (Pg := Pg) (w := w) (base := base) T
  have G__law_take := ok_take (Pg := Pg) (w := w) (base := base) T
  have G__law_drawn := ok_drawn (Pg := Pg) (w := w) (base := base) T
  have G__law_signed := ok_signed (Pg := Pg) (w := w) (base := base) T
  have G__law_made := ok_made (Pg := Pg) (w := w) (base := base) T
  have G__law_pair := ok_pair (Pg := Pg) (w := w) (base := base) T
  have G__law_rows := ok_rows (Pg := Pg) (w := w) (base := base) T
  have G__law_odd_ones := ok_odd_ones (Pg := Pg) (w := w) (base := base) T
  have G_make_ratio := ok_make_ratio (Pg := Pg) (w := w) (base := base) T
  have iZ := T.i_ZERO
  have iO := T.i_ONE
  have iH := T.i_HALF
  obtain ⟨_, dv_make_ratio_1, bd_make_ratio_1⟩ := T.bd_make_ratio_1
  refine fn_law (fh := ad.f__law_hand) T.F_law sc_law rfl fun cdv A outer s E H0 hr => ?_
  refine ⟨_, (pss_cons (ps_set (i := 1) sc_law.nd rfl (by first | exact Or.inl rfl | exact Or.inr rfl) (pe_call G__law_hand (hr.mono (by first | decide | exact Nat.le_refl _)) (by rfl) T.m__law_hand T.k__law_hand T.b__law_hand .nil passL (pa_cons (pv 0) pa_nil)))
      (pss_cons (ps_set (i := 2) sc_law.nd rfl (by first | exact Or.inl rfl | exact Or.inr rfl) (pe_call G__law_drawn (hr.mono (by first | decide | exact Nat.le_refl _)) (by rfl) T.m__law_drawn T.k__law_drawn T.b__law_drawn .nil passL (pa_cons (pv 1) pa_nil)))
      (pss_cons (ps_set (i := 3) sc_law.nd rfl (by first | exact Or.inl rfl | exact Or.inr rfl) (pe_call G__law_drawn (hr.mono (by first | decide | exact Nat.le_refl _)) (by rfl) T.m__law_drawn T.k__law_drawn T.b__law_drawn .nil passL (pa_cons (pv 1) pa_nil)))
      (pss_cons (ps_if (pw_or (pt_cmpR (op_neD (Dz.hu64 hr)) (pe_glob (v := .ref _) (by rfl) T.m_ZERO rfl) (pe_tup (pa_cons pe_int (pa_cons pe_int pa_nil))) (nomark _)) (pw_or (pt_cmpR (op_neD (Dz.hu64 hr)) (pe_glob (v := .ref _) (by rfl) T.m_ONE rfl) (pe_tup (pa_cons pe_int (pa_cons pe_int pa_nil))) (nomark _)) (pw_or (pt_cmpR (op_neD (Dz.hu64 hr)) (pe_glob (v := .ref _) (by rfl) T.m_HALF rfl) (pe_tup (pa_cons pe_int (pa_cons pe_int pa_nil))) (nomark _)) (pw_or1 (pt_cmpR (op_neD (Dz.hu64 hr)) (pe_call G_make_ratio (hr.mono (by first | decide | exact Nat.le_refl _)) (by rfl) T.m_make_ratio T.k_make_ratio bd_make_ratio_1 dv_make_ratio_1 (passes_call (takes_of rfl rfl rfl rfl) (fun _ _ _ _ h => h)) (pa_cons (pe_ix ix_seq (pv 2) pe_int (fun _ _ => rfl)) pa_nil)) (pe_tup (pa_cons (pe_ix ix_seq (pv 2) pe_int (fun _ _ => rfl)) (pa_cons pe_int pa_nil))) (nomark _)))))).pt (pss_one (ps_ret pe_bl)) pss_nil)
      (pss_cons (ps_set (i := 4) sc_law.nd rfl (by first | exact Or.inl rfl | exact Or.inr rfl) (pe_op op_sub (pe_call G__law_take (hr.mono (by first | decide | exact Nat.le_refl _)) (by rfl) T.m__law_take T.k__law_take T.b__law_take .nil passL (pa_cons (pv 1) (pa_cons pe_int pa_nil))) pe_int))
      (pss_cons (ps_set (i := 5) sc_law.nd rfl (by first | exact Or.inl rfl | exact Or.inr rfl) (pe_ifExp (pt_cmpR (op_eqD (Dz.hu64 hr)) (pv 4) pe_int (nomark _)) (pe_lst (pa_cons pe_str (pa_cons pe_str pa_nil))) (pe_call G__law_signed (hr.mono (by first | decide | exact Nat.le_refl _)) (by rfl) T.m__law_signed T.k__law_signed T.b__law_signed .nil passL (pa_cons (pe_op op_mulW (pe_ix ix_seq (pv 2) pe_int (fun _ _ => rfl)) (pv 4)) (pa_cons (pe_op op_mulW (pe_ix ix_seq (pv 2) pe_int (fun _ _ => rfl)) (pv 4)) pa_nil)))))
      (pss_cons (ps_if (pt_cmpR (op_neD (Dz.hu64 hr)) (pe_call G__law_made (hr.mono (by first | decide | exact Nat.le_refl _)) (by rfl) T.m__law_made T.k__law_made T.b__law_made .nil passL (pa_cons (pe_op op_mulW (pe_ix ix_seq (pv 2) pe_int (fun _ _ => rfl)) (pv 4)) (pa_cons (pe_op op_mulW (pe_ix ix_seq (pv 2) pe_int (fun _ _ => rfl)) (pv 4)) pa_nil))) (pv 5) (nomark _)) (pss_one (ps_ret pe_bl)) pss_nil)
      (pss_cons (ps_if (pw_or (pt_not (pt_val (pe_call G__law_pair (hr.mono (by first | decide | exact Nat.le_refl _)) (by rfl) T.m__law_pair T.k__law_pair T.b__law_pair .nil passL (pa_cons (pv 2) (pa_cons (pv 3) pa_nil))))) (pw_or (pt_not (pt_val (pe_call G__law_pair (hr.mono (by first | decide | exact Nat.le_refl _)) (by rfl) T.m__law_pair T.k__law_pair T.b__law_pair .nil passL (pa_cons (pv 3) (pa_cons (pv 2) pa_nil))))) (pw_or (pt_not (pt_val (pe_call G__law_pair (hr.mono (by first | decide | exact Nat.le_refl _)) (by rfl) T.m__law_pair T.k__law_pair T.b__law_pair .nil passL (pa_cons (pv 2) (pa_cons (pv 2) pa_nil))))) (pw_or1 (pt_not (pt_val (pe_call G__law_pair (hr.mono (by first | decide | exact Nat.le_refl _)) (by rfl) T.m__law_pair T.k__law_pair T.b__law_pair .nil passL (pa_cons (pv 2) (pa_cons (pe_tup (pa_cons pe_int (pa_cons pe_int pa_nil))) pa_nil))))))))).pt (pss_one (ps_ret pe_bl)) pss_nil)
      (pss_cons (ps_setLc (i := 6) (own := [("_law_turn", 7)]) (by rfl) sc_law.nd rfl rfl (sw_true rfl rfl rfl (by decide +kernel)) (pi_range1 (by rfl) T.b_range (pa_cons (pe_call G__law_take (hr.mono (by first | decide | exact Nat.le_refl _)) (by rfl) T.m__law_take T.k__law_take T.b__law_take .nil passL (pa_cons (pv 1) (pa_cons pe_int pa_nil))) pa_nil)) (blkOk_by (N := ["_law_script", "_law_hand_here", "_law_one", "_law_other", "_law_size", "_law_due", "_law_rows_here", "_law_turn"]) (sc := defScope s_law) (own := [("_law_turn", 7)]) (by decide +kernel)) (fun _ _ _ _ _ => (pg_name (i := 7) sc_law.nd rfl (by first | exact Or.inl rfl | exact Or.inr rfl))) (fun _ _ _ _ _ => pts_nil) (fun _ _ _ _ _ => (pe_call G__law_drawn (hr.mono (by first | decide | exact Nat.le_refl _)) (by rfl) T.m__law_drawn T.k__law_drawn T.b__law_drawn .nil passL (pa_cons (pv 1) pa_nil))))
      (pss_one (ps_ret (pe_and (pe_call G__law_rows (hr.mono (by first | decide | exact Nat.le_refl _)) (by rfl) T.m__law_rows T.k__law_rows T.b__law_rows .nil passL (pa_cons (pv 6) pa_nil)) (pe_and (pe_call G__law_rows (hr.mono (by first | decide | exact Nat.le_refl _)) (by rfl) T.m__law_rows T.k__law_rows T.b__law_rows .nil passL (pa_cons (pe_op op_cat (pv 6) (pe_slice sl_list (pv 6) po_none (po_some pe_int))) pa_nil)) (Dz.pe_and1 (pe_call G__law_odd_ones (hr.mono (by first | decide | exact Nat.le_refl _)) (by rfl) T.m__law_odd_ones T.k__law_odd_ones T.b__law_odd_ones .nil passL (pa_cons (pv 1) (pa_cons (pv 2) pa_nil))))))))))))))))), by decide, fun G H p d0 => ?_⟩
  walk_at "dz0"
  walk_at "dz-"
  refine callDrawn fun a b A1 => ?_
  walk_at "dz-"
  refine callDrawn fun c d A2 => ?_
  walk_at "dz-"
  have A1' := A1
  obtain ⟨_, b0, za, zb, ga⟩ := A1'
  refine ⟨⟨pint _, pint _, fun k e => by cases e; exact (Bd.lit (n := 20) (by decide)).mono (by decide)⟩, ?_, ?_⟩
  · rintro _ ⟨_, x, y, e1, e2, rfl⟩
    cases e1; cases e2
    rw [ratS_one]
    walk_at "dz-"
    refine callTake (by decide) (Bd.lit (n := 20) (by decide) |>.mono (by decide)) fun v v0 v1 => ?_
    have zv : Bd 20 (v - 20) := Bd.le (j := 100) (.lit (by decide)) (by omega)
    walk_at "dz-"
    refine wp_is (if v - 20 = 0 then oops "bottom" else ratS (a * (v - 20)) (b * (v - 20))) ?_ ?_
    · walk_at "dz*"
      · rename_i hc
        exact (if_pos hc).symm
      · rename_i hc
        walk_at "dzm"
        walk_at "dz*"
        walk_at "dzm"
        walk_at "dz*"
        exact call_signed (Int.mul_ne_zero (by omega) hc) ((zb.mul zv).mono (by decide)) (if_neg hc).symm
    walk_at "dz-"
    walk_at "dzm"
    walk_at "dz-"
    walk_at "dzm"
    walk_at "dz-"
    refine callMade (r := if v - 20 = 0 then oops "bottom" else ratS (a * (v - 20)) (b * (v - 20))) (pint _) (pint _) (fun k e => by cases e; exact (zb.mul zv).mono (by decide)) ?_ ?_
    · rw [madeD_ii]
      by_cases hc : v - 20 = 0
      · rw [if_pos hc, if_pos (by rw [hc, Int.mul_zero])]
      · rw [if_neg hc, if_neg (Int.mul_ne_zero (by omega) hc)]
    walk_at "dz-"
    refine od_ne_same (cmp_due _ _ _) ?_
    walk_at "dz-"
    refine callPair A1 A2 ?_
    walk_at "dz-"
    refine callPair A2 A1 ?_
    walk_at "dz-"
    refine callPair A1 A1 ?_
    walk_at "dz-"
    refine callPair A1 zeroG ?_
    walk_at "dz-"
    refine wp_lcR1 ?_
    walk_at "dz-"
    refine callTake (by decide) (Bd.lit (n := 20) (by decide) |>.mono (by decide)) fun m m0 m1 => ?_
    walk_at "dz-"
    refine ⟨by omega, by omega, fun i acc => ∃ ps, acc = ps.map couple ∧ Dr ps ∧ ps.length = i, ⟨[], rfl, by simp [Dr], rfl⟩, ?_, ?_⟩
    · rintro i _ hi ⟨ps, rfl, h1, h2⟩
      refine ww_name (by decide) (by simp [wipeS]) ?_
      refine wt_yes ?_
      walk_at "dz-"
      refine callDrawn fun x y A3 => ?_
      obtain ⟨_, y0, zx, zy, gx⟩ := A3
      refine ⟨ps ++ [(x, y)], by rw [List.map_append]; rfl, dr_app h1 fun z hz => ?_, by rw [List.length_append, h2]; rfl⟩
      cases List.mem_singleton.mp hz
      exact ⟨y0, zx, zy⟩
    · rintro _ ⟨ps, rfl, h1, h2⟩
      have hz : ps.length ≤ 8 := by omega
      walk_at "dz-"
      refine callRows h1 (by omega) ?_
      walk_at "dz-"
      rw [cut_one]
      refine od_catL (by rw [List.length_take, List.length_map]; omega) ?_
      rw [← List.map_take, ← List.map_append]
      walk_at "dz-"
      refine callRows (dr_app h1 fun x hx => h1 x (List.mem_of_mem_take hx)) (by rw [List.length_append, List.length_take]; omega) ?_
      walk_at "dz-"
      refine callOdd A1 ?_
      walk_at "dz-"
  · rintro C ns es ⟨t, b', f, e, hf, _⟩
    cases e
    have hf : (if (1 : Int) = 0 then some ("bottom" : Str) else none) = some f := hf
    rw [if_neg (by omega)] at hf
    cases hf
end K01

set_option Elab.async false
set_option linter.all false
set_option maxRecDepth 100000
set_option maxHeartbeats 3999999
namespace K01
open L2 PySem PyProof.Rows PySem.Spec Dz
theorem zb_is_sequence {K : PySem.W.Frag} {f : Addr} {fd : FuncData} (F : Fun K "is_sequence" "is_sequence" s_is_sequence f fd) : L2.Binds K fd ["thing", "low", "high"] [] := F.binds fun _ _ _ _ _ _ us hl => match us, hl with | [_, _, _], _ => rfl
theorem zb_is_ratio {K : PySem.W.Frag} {f : Addr} {fd : FuncData} (F : Fun K "is_ratio" "is_ratio" s_is_ratio f fd) : L2.Binds K fd ["thing"] [] := F.binds fun _ _ _ _ _ _ us hl => match us, hl with | [_], _ => rfl
theorem zb_lowest {K : PySem.W.Frag} {f : Addr} {fd : FuncData} (F : Fun K "lowest" "lowest" s_lowest f fd) : L2.Binds K fd ["top", "bottom"] [] := F.binds fun _ _ _ _ _ _ us hl => match us, hl with | [_, _], _ => rfl
theorem zb_plus {K : PySem.W.Frag} {f : Addr} {fd : FuncData} (F : Fun K "plus" "plus" s_plus f fd) : L2.Binds K fd ["one", "other"] [] := F.binds fun _ _ _ _ _ _ us hl => match us, hl with | [_, _], _ => rfl
theorem zb_minus {K : PySem.W.Frag} {f : Addr} {fd : FuncData} (F : Fun K "minus" "minus" s_minus f fd) : L2.Binds K fd ["one", "other"] [] := F.binds fun _ _ _ _ _ _ us hl => match us, hl with | [_, _], _ => rfl
theorem zb_times {K : PySem.W.Frag} {f : Addr} {fd : FuncData} (F : Fun K "times" "times" s_times f fd) : L2.Binds K fd ["one", "other"] [] := F.binds fun _ _ _ _ _ _ us hl => match us, hl with | [_, _], _ => rfl
theorem zb_over {K : PySem.W.Frag} {f : Addr} {fd : FuncData} (F : Fun K "over" "over" s_over f fd) : L2.Binds K fd ["one", "other"] [] := F.binds fun _ _ _ _ _ _ us hl => match us, hl with | [_, _], _ => rfl
theorem zb_negative {K : PySem.W.Frag} {f : Addr} {fd : FuncData} (F : Fun K "negative" "negative" s_negative f fd) : L2.Binds K fd ["one"] [] := F.binds fun _ _ _ _ _ _ us hl => match us, hl with | [_], _ => rfl
theorem zb_compare {K : PySem.W.Frag} {f : Addr} {fd : FuncData} (F : Fun K "compare" "compare" s_compare f fd) : L2.Binds K fd ["one", "other"] [] := F.binds fun _ _ _ _ _ _ us hl => match us, hl with | [_, _], _ => rfl
theorem zb_sum_of {K : PySem.W.Frag} {f : Addr} {fd : FuncData} (F : Fun K "sum_of" "sum_of" s_sum_of f fd) : L2.Binds K fd ["ratios"] [] := F.binds fun _ _ _ _ _ _ us hl => match us, hl with | [_], _ => rfl
theorem zb_least_of {K : PySem.W.Frag} {f : Addr} {fd : FuncData} (F : Fun K "least_of" "least_of" s_least_of f fd) : L2.Binds K fd ["ratios"] [] := F.binds fun _ _ _ _ _ _ us hl => match us, hl with | [_], _ => rfl
theorem zb_greatest_of {K : PySem.W.Frag} {f : Addr} {fd : FuncData} (F : Fun K "greatest_of" "greatest_of" s_greatest_of f fd) : L2.Binds K fd ["ratios"] [] := F.binds fun _ _ _ _ _ _ us hl => match us, hl with | [_], _ => rfl
theorem zb_floor_of {K : PySem.W.Frag} {f : Addr} {fd : FuncData} (F : Fun K "floor_of" "floor_of" s_floor_of f fd) : L2.Binds K fd ["one"] [] := F.binds fun _ _ _ _ _ _ us hl => match us, hl with | [_], _ => rfl
theorem zb_broken_of {K : PySem.W.Frag} {f : Addr} {fd : FuncData} (F : Fun K "broken_of" "broken_of" s_broken_of f fd) : L2.Binds K fd ["one"] [] := F.binds fun _ _ _ _ _ _ us hl => match us, hl with | [_], _ => rfl
theorem zb__law_hand {K : PySem.W.Frag} {f : Addr} {fd : FuncData} (F : Fun K "_law_hand" "_law_hand" s__law_hand f fd) : L2.Binds K fd ["_law_script"] [] := F.binds fun _ _ _ _ _ _ us hl => match us, hl with | [_], _ => rfl
theorem zb__law_mixed {K : PySem.W.Frag} {f : Addr} {fd : FuncData} (F : Fun K "_law_mixed" "_law_mixed" s__law_mixed f fd) : L2.Binds K fd ["_law_number", "_law_turn"] [] := F.binds fun _ _ _ _ _ _ us hl => match us, hl with | [_, _], _ => rfl
theorem zb__law_take {K : PySem.W.Frag} {f : Addr} {fd : FuncData} (F : Fun K "_law_take" "_law_take" s__law_take f fd) : L2.Binds K fd ["_law_hand_here", "_law_many"] [] := F.binds fun _ _ _ _ _ _ us hl => match us, hl with | [_, _], _ => rfl
theorem zb__law_common {K : PySem.W.Frag} {f : Addr} {fd : FuncData} (F : Fun K "_law_common" "_law_common" s__law_common f fd) : L2.Binds K fd ["_law_one", "_law_other"] [] := F.binds fun _ _ _ _ _ _ us hl => match us, hl with | [_, _], _ => rfl
theorem zb__law_ratio {K : PySem.W.Frag} {f : Addr} {fd : FuncData} (F : Fun K "_law_ratio" "_law_ratio" s__law_ratio f fd) : L2.Binds K fd ["_law_top", "_law_bottom"] [] := F.binds fun _ _ _ _ _ _ us hl => match us, hl with | [_, _], _ => rfl
theorem zb__law_tuples {K : PySem.W.Frag} {f : Addr} {fd : FuncData} (F : Fun K "_law_tuples" "_law_tuples" s__law_tuples f fd) : L2.Binds K fd ["_law_thing"] [] := F.binds fun _ _ _ _ _ _ us hl => match us, hl with | [_], _ => rfl
theorem zb__law_drawn {K : PySem.W.Frag} {f : Addr} {fd : FuncData} (F : Fun K "_law_drawn" "_law_drawn" s__law_drawn f fd) : L2.Binds K fd ["_law_hand_here"] [] := F.binds fun _ _ _ _ _ _ us hl => match us, hl with | [_], _ => rfl
theorem zb__law_made {K : PySem.W.Frag} {f : Addr} {fd : FuncData} (F : Fun K "_law_made" "_law_made" s__law_made f fd) : L2.Binds K fd ["_law_top", "_law_bottom"] [] := F.binds fun _ _ _ _ _ _ us hl => match us, hl with | [_, _], _ => rfl
theorem zb__law_parted {K : PySem.W.Frag} {f : Addr} {fd : FuncData} (F : Fun K "_law_parted" "_law_parted" s__law_parted f fd) : L2.Binds K fd ["_law_one", "_law_other"] [] := F.binds fun _ _ _ _ _ _ us hl => match us, hl with | [_, _], _ => rfl
theorem zb__law_signed {K : PySem.W.Frag} {f : Addr} {fd : FuncData} (F : Fun K "_law_signed" "_law_signed" s__law_signed f fd) : L2.Binds K fd ["_law_top", "_law_bottom"] [] := F.binds fun _ _ _ _ _ _ us hl => match us, hl with | [_, _], _ => rfl
theorem zb__law_pair {K : PySem.W.Frag} {f : Addr} {fd : FuncData} (F : Fun K "_law_pair" "_law_pair" s__law_pair f fd) : L2.Binds K fd ["_law_one", "_law_other"] [] := F.binds fun _ _ _ _ _ _ us hl => match us, hl with | [_, _], _ => rfl
theorem zb__law_rows {K : PySem.W.Frag} {f : Addr} {fd : FuncData} (F : Fun K "_law_rows" "_law_rows" s__law_rows f fd) : L2.Binds K fd ["_law_rows_here"] [] := F.binds fun _ _ _ _ _ _ us hl => match us, hl with | [_], _ => rfl
theorem zb__law_odd_ones {K : PySem.W.Frag} {f : Addr} {fd : FuncData} (F : Fun K "_law_odd_ones" "_law_odd_ones" s__law_odd_ones f fd) : L2.Binds K fd ["_law_hand_here", "_law_one"] [] := F.binds fun _ _ _ _ _ _ us hl => match us, hl with | [_, _], _ => rfl
theorem zb_law {K : PySem.W.Frag} {f : Addr} {fd : FuncData} (F : Fun K "law" "law" s_law f fd) : L2.Binds K fd ["_law_script"] [] := F.binds fun _ _ _ _ _ _ us hl => match us, hl with | [_], _ => rfl
theorem zb_BadRatio {K : PySem.W.Frag} {f : Addr} {fd : FuncData} (F : Fun K "__init__" "BadRatio.__init__" s_BadRatio___init__ f fd) : L2.Binds K fd ["self", "what"] [] := F.binds fun _ _ _ _ _ _ us hl => match us, hl with | [_, _], _ => rfl
theorem zb_is_whole_1 {K : PySem.W.Frag} {f : Addr} {fd : FuncData} (F : FunD K "is_whole" "is_whole" (defArgs s_is_whole) (defBody s_is_whole) (defScope s_is_whole) [.non, .non] [] f fd) : ∃ ds : List Value, Vals [.non, .non] ds ∧ L2.Binds K fd ["thing", "low", "high"] ds :=
  F.binds1 1 0 (by simp) rfl fun _ _ _ _ _ _ _ us its h1 h2 => match us, its, h1, h2 with | [_], [_, _], _, _ => ⟨_, rfl, rfl⟩
theorem zb_is_whole_2 {K : PySem.W.Frag} {f : Addr} {fd : FuncData} (F : FunD K "is_whole" "is_whole" (defArgs s_is_whole) (defBody s_is_whole) (defScope s_is_whole) [.non, .non] [] f fd) : ∃ ds : List Value, Vals [.non] ds ∧ L2.Binds K fd ["thing", "low", "high"] ds :=
  F.binds1 2 1 (by simp) rfl fun _ _ _ _ _ _ _ us its h1 h2 => match us, its, h1, h2 with | [_, _], [_, _], _, _ => ⟨_, rfl, rfl⟩
theorem zb_make_ratio_2 {K : PySem.W.Frag} {f : Addr} {fd : FuncData} (F : FunD K "make_ratio" "make_ratio" (defArgs s_make_ratio) (defBody s_make_ratio) (defScope s_make_ratio) [.int 1] [] f fd) : ∃ ds : List Value, Vals [] ds ∧ L2.Binds K fd ["top", "bottom"] ds :=
  F.binds1 2 1 (by simp) rfl fun _ _ _ _ _ _ _ us its h1 h2 => match us, its, h1, h2 with | [_, _], [_], _, _ => ⟨_, rfl, rfl⟩
theorem zb_is_whole_3 {K : PySem.W.Frag} {f : Addr} {fd : FuncData} (F : FunD K "is_whole" "is_whole" (defArgs s_is_whole) (defBody s_is_whole) (defScope s_is_whole) [.non, .non] [] f fd) : ∃ ds : List Value, Vals [] ds ∧ L2.Binds K fd ["thing", "low", "high"] ds :=
  F.binds1 3 2 (by simp) rfl fun _ _ _ _ _ _ _ us its h1 h2 => match us, its, h1, h2 with | [_, _, _], [_, _], _, _ => ⟨_, rfl, rfl⟩
theorem zk_is_whole_1_high {K : PySem.W.Frag} {f : Addr} {fd : FuncData} (F : FunD K "is_whole" "is_whole" (defArgs s_is_whole) (defBody s_is_whole) (defScope s_is_whole) [.non, .non] [] f fd) : ∃ its : List Value, KBn K fd ["thing", "low", "high"] 1 ["high"] (fun us ws => g_is_whole_1_high us its ws) (fun us ws => g_is_whole_1_high us [.non, .non] ws) :=
  F.kbindsD 1 ["high"] g_is_whole_1_high (by simp) (fun r1 r2 r3 => (Vals.append (Vals.append (valsI r1 0) (valsI r2 0)) (valsI r3 0))) fun _ _ _ _ _ _ _ us its ws h1 h2 h3 => match us, its, ws, h1, h2, h3 with | [_], [_, _], [_], _, _, _ => ⟨_, rfl, rfl⟩
theorem zk_is_whole_1_low_high {K : PySem.W.Frag} {f : Addr} {fd : FuncData} (F : FunD K "is_whole" "is_whole" (defArgs s_is_whole) (defBody s_is_whole) (defScope s_is_whole) [.non, .non] [] f fd) : ∃ its : List Value, KBn K fd ["thing", "low", "high"] 1 ["low", "high"] (fun us ws => g_is_whole_1_low_high us its ws) (fun us ws => g_is_whole_1_low_high us [.non, .non] ws) :=
  F.kbindsD 1 ["low", "high"] g_is_whole_1_low_high (by simp) (fun r1 r2 r3 => (Vals.append (Vals.append (valsI r1 0) (valsI r3 0)) (valsI r3 1))) fun _ _ _ _ _ _ _ us its ws h1 h2 h3 => match us, its, ws, h1, h2, h3 with | [_], [_, _], [_, _], _, _, _ => ⟨_, rfl, rfl⟩
theorem zk_make_ratio_1_bottom {K : PySem.W.Frag} {f : Addr} {fd : FuncData} (F : FunD K "make_ratio" "make_ratio" (defArgs s_make_ratio) (defBody s_make_ratio) (defScope s_make_ratio) [.int 1] [] f fd) : ∃ its : List Value, KBn K fd ["top", "bottom"] 1 ["bottom"] (fun us ws => g_make_ratio_1_bottom us its ws) (fun us ws => g_make_ratio_1_bottom us [.int 1] ws) :=
  F.kbindsD 1 ["bottom"] g_make_ratio_1_bottom (by simp) (fun r1 r2 r3 => (Vals.append (valsI r1 0) (valsI r3 0))) fun _ _ _ _ _ _ _ us its ws h1 h2 h3 => match us, its, ws, h1, h2, h3 with | [_], [_], [_], _, _, _ => ⟨_, rfl, rfl⟩
theorem zb_make_ratio_1 {K : PySem.W.Frag} {f : Addr} {fd : FuncData} (F : FunD K "make_ratio" "make_ratio" (defArgs s_make_ratio) (defBody s_make_ratio) (defScope s_make_ratio) [.int 1] [] f fd) : ∃ ds : List Value, Vals [.int 1] ds ∧ L2.Binds K fd ["top", "bottom"] ds :=
  F.binds1 1 0 (by simp) rfl fun _ _ _ _ _ _ _ us its h1 h2 => match us, its, h1, h2 with | [_], [_], _, _ => ⟨_, rfl, rfl⟩
theorem cls_elim {K : PySem.W.Frag} {h : Heap} {mg : Str → Option Value} {Goal : Prop} {ParcelError : Addr} {BadRatio : Addr} {BadRatio_i : Addr} {nm_BadRatio q_BadRatio : Str} {N_BadRatio : Addr} {bs_BadRatio bm_BadRatio : List Value} {sn_BadRatio : List Str} {su_BadRatio : List Value} {ab_BadRatio : Bool} {co_BadRatio : Option Bool} {dd_BadRatio : Option Addr} {m0_BadRatio m1_BadRatio m2_BadRatio m3_BadRatio m5_BadRatio : Option Value} {oc_BadRatio kV_BadRatio dc_BadRatio pm_BadRatio cd_BadRatio ct_BadRatio : Value} {od_BadRatio an_BadRatio : Option Addr} {sl_BadRatio : Array (Option Value)} (X : K.In h) (G : h.Ns mainGlobals mg)
  (a_ParcelError : PySem.W.nsIn K mainGlobals "ParcelError" = some (some (.ref ParcelError)))
  (a_BadRatio : PySem.W.nsIn K mainGlobals "BadRatio" = some (some (.ref BadRatio)))
  (ex_ParcelError : PySem.W.subIn K (.ref ParcelError) (.type "BaseException") = some true)
  (ty_ParcelError : PySem.W.typeIn K (.ref ParcelError) = some (.type "type"))
  (is_ParcelError : PySem.W.isClsIn K ParcelError = true)
  (ex_BadRatio : PySem.W.subIn K (.ref BadRatio) (.type "BaseException") = some true)
  (ty_BadRatio : PySem.W.typeIn K (.ref BadRatio) = some (.type "type"))
  (is_BadRatio : PySem.W.isClsIn K BadRatio = true)
  (x_BadRatio : K.lookup BadRatio = some (excClassObj nm_BadRatio q_BadRatio BadRatio N_BadRatio bs_BadRatio bm_BadRatio true sn_BadRatio su_BadRatio ab_BadRatio co_BadRatio dd_BadRatio m0_BadRatio m1_BadRatio m2_BadRatio m3_BadRatio m5_BadRatio "ValueError.__new__"))
  (rv_BadRatio : PySem.HandSPX.refsVE bm_BadRatio = true)
  (sa_BadRatio : PySem.W.findIn K (.ref BadRatio) "__setattr__" = some (some (.builtin "object.__setattr__")))
  (kp_BadRatio : PySem.W.keepIn K (.ref BadRatio) = true)
  (ga_BadRatio : PySem.W.findIn K (.ref BadRatio) "__getattribute__" = some (some (.builtin "BaseException.__getattribute__")))
  (gg_BadRatio : PySem.W.findIn K (.ref BadRatio) "__getattr__" = some none)
  (hd_BadRatio : PySem.W.hasDictIn K BadRatio = true)
  (ia_BadRatio : PySem.W.findIn K (.ref BadRatio) "__init__" = some (some (.ref BadRatio_i)))
  (it_BadRatio : PySem.W.typeIn K (.ref BadRatio_i) = some (.type "function"))
  (il_BadRatio : K.lookup BadRatio_i = some ⟨oc_BadRatio, od_BadRatio, .func (PySem.W.fnOf "__init__" "BadRatio.__init__" (defArgs s_BadRatio___init__) (defBody s_BadRatio___init__) (defScope s_BadRatio___init__) .none kV_BadRatio dc_BadRatio pm_BadRatio an_BadRatio cd_BadRatio ct_BadRatio), sl_BadRatio⟩)
  (ic_BadRatio : PySem.W.codeIn K cd_BadRatio "BadRatio.__init__" = true)
  (ik_BadRatio : PySem.W.keepIn K (.ref BadRatio_i) = true)
  (no_BadRatio_what : PySem.W.findIn K (.ref BadRatio) "what" = some none)
  (sb_BadRatio_BadRatio : PySem.W.subIn K (.ref BadRatio) (.ref BadRatio) = some true)
  (sb_BadRatio_ParcelError : PySem.W.subIn K (.ref BadRatio) (.ref ParcelError) = some true)
  (go : ∀ (ParcelError : Addr) (BadRatio : Addr) (BadRatio_i : Addr) (fd_BadRatio : FuncData), mg "ParcelError" = some (.ref ParcelError) → mg "BadRatio" = some (.ref BadRatio) → OexC K BadRatio → PySem.W.findIn K (.ref BadRatio) "__init__" = some (some (.ref BadRatio_i)) → PySem.W.typeIn K (.ref BadRatio_i) = some (.type "function") → Fun K "__init__" "BadRatio.__init__" s_BadRatio___init__ BadRatio_i fd_BadRatio → XfC K BadRatio → PySem.W.findIn K (.ref BadRatio) "what" = some none → PySem.W.exmOne K (.ref BadRatio) (.ref BadRatio) = some true → PySem.W.exmOne K (.ref BadRatio) (.ref ParcelError) = some true → Goal) : Goal :=
  go _ _ _ _ (PySem.W.mg_of X G a_ParcelError) (PySem.W.mg_of X G a_BadRatio) (oex_at x_BadRatio rv_BadRatio sa_BadRatio ex_BadRatio ty_BadRatio kp_BadRatio) (ia_BadRatio) (it_BadRatio) (fun_mk il_BadRatio ic_BadRatio ik_BadRatio) ⟨ga_BadRatio, gg_BadRatio, ex_BadRatio, hd_BadRatio⟩ (no_BadRatio_what) (exm_at ex_BadRatio is_BadRatio ty_BadRatio sb_BadRatio_BadRatio) (exm_at ex_ParcelError is_ParcelError ty_ParcelError sb_BadRatio_ParcelError)
end K01

set_option Elab.async false
set_option linter.all false
set_option maxRecDepth 100000
set_option maxHeartbeats 3999999
open L2 PySem PyProof.Rows PySem.Spec Dz
open PyProof.Rows PySem PySem.W in
set_option maxRecDepth 99999 in
set_option maxHeartbeats 0 in
theorem PySem.Challenge.cw_tautparcel_k01_whole_ratios_in_lowest_te_holds : PySem.Challenge.rw_tautparcel_k01_whole_ratios_in_lowest_te.Holds := by
  w_on; o_law
  k_head
  (case hw => w_witness2)
  k_fill
  refine L2.walk_of (l := PySem.Challenge.rw_tautparcel_k01_whole_ratios_in_lowest_te) (n := 63) (k := 6) (x := "_law_script") (CX := fun w => L2.CX (OpenLaw.prog PySem.Challenge.rw_tautparcel_k01_whole_ratios_in_lowest_te) w) (sp := fun w => Dz.spLaw _) rfl (by decide) rfl ⟨rfl, by decide, by decide⟩ (fun w h Y => PySem.W.kIn_of Y) ?F (fun _ _ a ns hl _ hS => Dz.spLaw_of hl hS) (fun _ _ _ _ _ ⟨_, _, _, _, _, _, _, _, _, _, _, _, z⟩ => z)
  case F =>
    intro w mg fa h KX G hmg
    have b_tuple : mg "tuple" = none := PySem.W.mg_none_of KX G (by k_is)
    have b_abs : mg "abs" = none := PySem.W.mg_none_of KX G (by k_is)
    have b_isinstance : mg "isinstance" = none := PySem.W.mg_none_of KX G (by k_is)
    have b_bool : mg "bool" = none := PySem.W.mg_none_of KX G (by k_is)
    have b_int : mg "int" = none := PySem.W.mg_none_of KX G (by k_is)
    have b_list : mg "list" = none := PySem.W.mg_none_of KX G (by k_is)
    have b_len : mg "len" = none := PySem.W.mg_none_of KX G (by k_is)
    have b_range : mg "range" = none := PySem.W.mg_none_of KX G (by k_is)
    have m_gcd : mg "gcd" = some (.builtin "math.gcd") := PySem.W.mg_of KX G (by k_is)
    refine' Dz.const_elim (x := "ZERO") (xs := [.int 0, .int 1]) KX G ?c ?l ?v (by rfl) (by decide) fun c_ZERO m_ZERO i_ZERO => ?_
    (case c => k_is); (case l => k_is); (case v => (repeat refine .cons (by first | exact ⟨_, rfl⟩ | rfl) ?_); exact .nil)
    refine' Dz.const_elim (x := "ONE") (xs := [.int 1, .int 1]) KX G ?c ?l ?v (by rfl) (by decide) fun c_ONE m_ONE i_ONE => ?_
    (case c => k_is); (case l => k_is); (case v => (repeat refine .cons (by first | exact ⟨_, rfl⟩ | rfl) ?_); exact .nil)
    refine' Dz.const_elim (x := "HALF") (xs := [.int 1, .int 2]) KX G ?c ?l ?v (by rfl) (by decide) fun c_HALF m_HALF i_HALF => ?_
    (case c => k_is); (case l => k_is); (case v => (repeat refine .cons (by first | exact ⟨_, rfl⟩ | rfl) ?_); exact .nil)
    refine' K01.cls_elim KX G ?a_ParcelError ?a_BadRatio ?ex_ParcelError ?ty_ParcelError ?is_ParcelError ?ex_BadRatio ?ty_BadRatio ?is_BadRatio ?x_BadRatio ?rv_BadRatio ?sa_BadRatio ?kp_BadRatio ?ga_BadRatio ?gg_BadRatio ?hd_BadRatio ?ia_BadRatio ?it_BadRatio ?il_BadRatio ?ic_BadRatio ?ik_BadRatio ?no_BadRatio_what ?sb_BadRatio_BadRatio ?sb_BadRatio_ParcelError fun ParcelError BadRatio BadRatio_i fd_BadRatio m_ParcelError m_BadRatio o_BadRatio i_BadRatio t_BadRatio F_BadRatio x_BadRatio xn_BadRatio_what e_BadRatio_BadRatio e_BadRatio_ParcelError => ?_
    (case a_ParcelError => first | k_is | rfl)
    (case a_BadRatio => first | k_is | rfl)
    (case ex_ParcelError => first | k_is | rfl)
    (case ty_ParcelError => first | k_is | rfl)
    (case is_ParcelError => first | k_is | rfl)
    (case ex_BadRatio => first | k_is | rfl)
    (case ty_BadRatio => first | k_is | rfl)
    (case is_BadRatio => first | k_is | rfl)
    (case x_BadRatio => first | k_is | rfl)
    (case rv_BadRatio => decide +kernel)
    (case sa_BadRatio => first | k_is | rfl)
    (case kp_BadRatio => first | k_is | rfl)
    (case ga_BadRatio => first | k_is | rfl)
    (case gg_BadRatio => first | k_is | rfl)
    (case hd_BadRatio => first | k_is | rfl)
    (case ia_BadRatio => first | k_is | rfl)
    (case it_BadRatio => first | k_is | rfl)
    (case il_BadRatio => first | k_is | rfl)
    (case ic_BadRatio => first | k_is | rfl)
    (case ik_BadRatio => first | k_is | rfl)
    (case no_BadRatio_what => first | k_is | rfl)
    (case sb_BadRatio_BadRatio => first | k_is | rfl)
    (case sb_BadRatio_ParcelError => first | k_is | rfl)
    refine' Dz.defD_elim (x := "is_whole") (st := K01.s_is_whole) (dvs := [.non, .non]) KX G ?a ?l ?c ?k ?t ?v (by simp) fun f_is_whole fd_is_whole m_is_whole k_is_whole F_is_whole => ?_
    (case a => k_is); (case l => k_is); (case c => k_is); (case k => k_is); (case t => k_is); (case v => (repeat refine .cons (by first | exact ⟨_, rfl⟩ | rfl) ?_); exact .nil)
    refine' Dz.def_elim (x := "is_sequence") (st := K01.s_is_sequence) KX G ?a ?l ?c ?k fun f_is_sequence fd_is_sequence m_is_sequence k_is_sequence F_is_sequence => ?_
    (case a => k_is); (case l => k_is); (case c => k_is); (case k => k_is)
    refine' Dz.def_elim (x := "is_ratio") (st := K01.s_is_ratio) KX G ?a ?l ?c ?k fun f_is_ratio fd_is_ratio m_is_ratio k_is_ratio F_is_ratio => ?_
    (case a => k_is); (case l => k_is); (case c => k_is); (case k => k_is)
    refine' Dz.defD_elim (x := "make_ratio") (st := K01.s_make_ratio) (dvs := [.int 1]) KX G ?a ?l ?c ?k ?t ?v (by simp) fun f_make_ratio fd_make_ratio m_make_ratio k_make_ratio F_make_ratio => ?_
    (case a => k_is); (case l => k_is); (case c => k_is); (case k => k_is); (case t => k_is); (case v => (repeat refine .cons (by first | exact ⟨_, rfl⟩ | rfl) ?_); exact .nil)
    refine' Dz.def_elim (x := "lowest") (st := K01.s_lowest) KX G ?a ?l ?c ?k fun f_lowest fd_lowest m_lowest k_lowest F_lowest => ?_
    (case a => k_is); (case l => k_is); (case c => k_is); (case k => k_is)
    refine' Dz.def_elim (x := "plus") (st := K01.s_plus) KX G ?a ?l ?c ?k fun f_plus fd_plus m_plus k_plus F_plus => ?_
    (case a => k_is); (case l => k_is); (case c => k_is); (case k => k_is)
    refine' Dz.def_elim (x := "minus") (st := K01.s_minus) KX G ?a ?l ?c ?k fun f_minus fd_minus m_minus k_minus F_minus => ?_
    (case a => k_is); (case l => k_is); (case c => k_is); (case k => k_is)
    refine' Dz.def_elim (x := "times") (st := K01.s_times) KX G ?a ?l ?c ?k fun f_times fd_times m_times k_times F_times => ?_
    (case a => k_is); (case l => k_is); (case c => k_is); (case k => k_is)
    refine' Dz.def_elim (x := "over") (st := K01.s_over) KX G ?a ?l ?c ?k fun f_over fd_over m_over k_over F_over => ?_
    (case a => k_is); (case l => k_is); (case c => k_is); (case k => k_is)
    refine' Dz.def_elim (x := "negative") (st := K01.s_negative) KX G ?a ?l ?c ?k fun f_negative fd_negative m_negative k_negative F_negative => ?_
    (case a => k_is); (case l => k_is); (case c => k_is); (case k => k_is)
    refine' Dz.def_elim (x := "compare") (st := K01.s_compare) KX G ?a ?l ?c ?k fun f_compare fd_compare m_compare k_compare F_compare => ?_
    (case a => k_is); (case l => k_is); (case c => k_is); (case k => k_is)
    refine' Dz.def_elim (x := "sum_of") (st := K01.s_sum_of) KX G ?a ?l ?c ?k fun f_sum_of fd_sum_of m_sum_of k_sum_of F_sum_of => ?_
    (case a => k_is); (case l => k_is); (case c => k_is); (case k => k_is)
    refine' Dz.def_elim (x := "least_of") (st := K01.s_least_of) KX G ?a ?l ?c ?k fun f_least_of fd_least_of m_least_of k_least_of F_least_of => ?_
    (case a => k_is); (case l => k_is); (case c => k_is); (case k => k_is)
    refine' Dz.def_elim (x := "greatest_of") (st := K01.s_greatest_of) KX G ?a ?l ?c ?k fun f_greatest_of fd_greatest_of m_greatest_of k_greatest_of F_greatest_of => ?_
    (case a => k_is); (case l => k_is); (case c => k_is); (case k => k_is)
    refine' Dz.def_elim (x := "floor_of") (st := K01.s_floor_of) KX G ?a ?l ?c ?k fun f_floor_of fd_floor_of m_floor_of k_floor_of F_floor_of => ?_
    (case a => k_is); (case l => k_is); (case c => k_is); (case k => k_is)
    refine' Dz.def_elim (x := "broken_of") (st := K01.s_broken_of) KX G ?a ?l ?c ?k fun f_broken_of fd_broken_of m_broken_of k_broken_of F_broken_of => ?_
    (case a => k_is); (case l => k_is); (case c => k_is); (case k => k_is)
    refine' Dz.def_elim (x := "_law_hand") (st := K01.s__law_hand) KX G ?a ?l ?c ?k fun f__law_hand fd__law_hand m__law_hand k__law_hand F__law_hand => ?_
    (case a => k_is); (case l => k_is); (case c => k_is); (case k => k_is)
    refine' Dz.def_elim (x := "_law_mixed") (st := K01.s__law_mixed) KX G ?a ?l ?c ?k fun f__law_mixed fd__law_mixed m__law_mixed k__law_mixed F__law_mixed => ?_
    (case a => k_is); (case l => k_is); (case c => k_is); (case k => k_is)
    refine' Dz.def_elim (x := "_law_take") (st := K01.s__law_take) KX G ?a ?l ?c ?k fun f__law_take fd__law_take m__law_take k__law_take F__law_take => ?_
    (case a => k_is); (case l => k_is); (case c => k_is); (case k => k_is)
    refine' Dz.def_elim (x := "_law_common") (st := K01.s__law_common) KX G ?a ?l ?c ?k fun f__law_common fd__law_common m__law_common k__law_common F__law_common => ?_
    (case a => k_is); (case l => k_is); (case c => k_is); (case k => k_is)
    refine' Dz.def_elim (x := "_law_ratio") (st := K01.s__law_ratio) KX G ?a ?l ?c ?k fun f__law_ratio fd__law_ratio m__law_ratio k__law_ratio F__law_ratio => ?_
    (case a => k_is); (case l => k_is); (case c => k_is); (case k => k_is)
    refine' Dz.def_elim (x := "_law_tuples") (st := K01.s__law_tuples) KX G ?a ?l ?c ?k fun f__law_tuples fd__law_tuples m__law_tuples k__law_tuples F__law_tuples => ?_
    (case a => k_is); (case l => k_is); (case c => k_is); (case k => k_is)
    refine' Dz.def_elim (x := "_law_drawn") (st := K01.s__law_drawn) KX G ?a ?l ?c ?k fun f__law_drawn fd__law_drawn m__law_drawn k__law_drawn F__law_drawn => ?_
    (case a => k_is); (case l => k_is); (case c => k_is); (case k => k_is)
    refine' Dz.def_elim (x := "_law_made") (st := K01.s__law_made) KX G ?a ?l ?c ?k fun f__law_made fd__law_made m__law_made k__law_made F__law_made => ?_
    (case a => k_is); (case l => k_is); (case c => k_is); (case k => k_is)
    refine' Dz.def_elim (x := "_law_parted") (st := K01.s__law_parted) KX G ?a ?l ?c ?k fun f__law_parted fd__law_parted m__law_parted k__law_parted F__law_parted => ?_
    (case a => k_is); (case l => k_is); (case c => k_is); (case k => k_is)
    refine' Dz.def_elim (x := "_law_signed") (st := K01.s__law_signed) KX G ?a ?l ?c ?k fun f__law_signed fd__law_signed m__law_signed k__law_signed F__law_signed => ?_
    (case a => k_is); (case l => k_is); (case c => k_is); (case k => k_is)
    refine' Dz.def_elim (x := "_law_pair") (st := K01.s__law_pair) KX G ?a ?l ?c ?k fun f__law_pair fd__law_pair m__law_pair k__law_pair F__law_pair => ?_
    (case a => k_is); (case l => k_is); (case c => k_is); (case k => k_is)
    refine' Dz.def_elim (x := "_law_rows") (st := K01.s__law_rows) KX G ?a ?l ?c ?k fun f__law_rows fd__law_rows m__law_rows k__law_rows F__law_rows => ?_
    (case a => k_is); (case l => k_is); (case c => k_is); (case k => k_is)
    refine' Dz.def_elim (x := "_law_odd_ones") (st := K01.s__law_odd_ones) KX G ?a ?l ?c ?k fun f__law_odd_ones fd__law_odd_ones m__law_odd_ones k__law_odd_ones F__law_odd_ones => ?_
    (case a => k_is); (case l => k_is); (case c => k_is); (case k => k_is)
    refine' Dz.def_elim (x := "law") (st := K01.s_law) KX G ?a ?l ?c ?k fun f_law fd_law m_law k_law F_law => ?_
    (case a => k_is); (case l => k_is); (case c => k_is); (case k => k_is)
    have e := hmg.symm.trans m_law
    cases e
    have T : K01.Txt _ mg { ZERO := c_ZERO, ONE := c_ONE, HALF := c_HALF, ParcelError := ParcelError, BadRatio := BadRatio, BadRatio___init__ := BadRatio_i, fd_BadRatio___init__ := fd_BadRatio, f_is_whole := f_is_whole, fd_is_whole := fd_is_whole, f_is_sequence := f_is_sequence, fd_is_sequence := fd_is_sequence, f_is_ratio := f_is_ratio, fd_is_ratio := fd_is_ratio, f_make_ratio := f_make_ratio, fd_make_ratio := fd_make_ratio, f_lowest := f_lowest, fd_lowest := fd_lowest, f_plus := f_plus, fd_plus := fd_plus, f_minus := f_minus, fd_minus := fd_minus, f_times := f_times, fd_times := fd_times, f_over := f_over, fd_over := fd_over, f_negative := f_negative, fd_negative := fd_negative, f_compare := f_compare, fd_compare := fd_compare, f_sum_of := f_sum_of, fd_sum_of := fd_sum_of, f_least_of := f_least_of, fd_least_of := fd_least_of, f_greatest_of := f_greatest_of, fd_greatest_of := fd_greatest_of, f_floor_of := f_floor_of, fd_floor_of := fd_floor_of, f_broken_of := f_broken_of, fd_broken_of := fd_broken_of, f__law_hand := f__law_hand, fd__law_hand := fd__law_hand, f__law_mixed := f__law_mixed, fd__law_mixed := fd__law_mixed, f__law_take := f__law_take, fd__law_take := fd__law_take, f__law_common := f__law_common, fd__law_common := fd__law_common, f__law_ratio := f__law_ratio, fd__law_ratio := fd__law_ratio, f__law_tuples := f__law_tuples, fd__law_tuples := fd__law_tuples, f__law_drawn := f__law_drawn, fd__law_drawn := fd__law_drawn, f__law_made := f__law_made, fd__law_made := fd__law_made, f__law_parted := f__law_parted, fd__law_parted := fd__law_parted, f__law_signed := f__law_signed, fd__law_signed := fd__law_signed, f__law_pair := f__law_pair, fd__law_pair := fd__law_pair, f__law_rows := f__law_rows, fd__law_rows := fd__law_rows, f__law_odd_ones := f__law_odd_ones, fd__law_odd_ones := fd__law_odd_ones, f_law := fa, fd_law := fd_law } := { b_tuple := b_tuple, b_abs := b_abs, b_isinstance := b_isinstance, b_bool := b_bool, b_int := b_int, b_list := b_list, b_len := b_len, b_range := b_range, m_gcd := m_gcd, m_ZERO := m_ZERO, i_ZERO := i_ZERO, m_ONE := m_ONE, i_ONE := i_ONE, m_HALF := m_HALF, i_HALF := i_HALF, m_ParcelError := m_ParcelError, m_BadRatio := m_BadRatio, o_BadRatio := o_BadRatio, i_BadRatio := i_BadRatio, t_BadRatio := t_BadRatio, F_BadRatio___init__ := F_BadRatio, bi_BadRatio := K01.zb_BadRatio F_BadRatio, x_BadRatio := x_BadRatio, xn_BadRatio_what := xn_BadRatio_what, e_BadRatio_BadRatio := e_BadRatio_BadRatio, e_BadRatio_ParcelError := e_BadRatio_ParcelError, m_is_whole := m_is_whole, k_is_whole := k_is_whole, F_is_whole := F_is_whole, b_is_sequence := K01.zb_is_sequence F_is_sequence, m_is_sequence := m_is_sequence, k_is_sequence := k_is_sequence, F_is_sequence := F_is_sequence, b_is_ratio := K01.zb_is_ratio F_is_ratio, m_is_ratio := m_is_ratio, k_is_ratio := k_is_ratio, F_is_ratio := F_is_ratio, m_make_ratio := m_make_ratio, k_make_ratio := k_make_ratio, F_make_ratio := F_make_ratio, b_lowest := K01.zb_lowest F_lowest, m_lowest := m_lowest, k_lowest := k_lowest, F_lowest := F_lowest, b_plus := K01.zb_plus F_plus, m_plus := m_plus, k_plus := k_plus, F_plus := F_plus, b_minus := K01.zb_minus F_minus, m_minus := m_minus, k_minus := k_minus, F_minus := F_minus, b_times := K01.zb_times F_times, m_times := m_times, k_times := k_times, F_times := F_times, b_over := K01.zb_over F_over, m_over := m_over, k_over := k_over, F_over := F_over, b_negative := K01.zb_negative F_negative, m_negative := m_negative, k_negative := k_negative, F_negative := F_negative, b_compare := K01.zb_compare F_compare, m_compare := m_compare, k_compare := k_compare, F_compare := F_compare, b_sum_of := K01.zb_sum_of F_sum_of, m_sum_of := m_sum_of, k_sum_of := k_sum_of, F_sum_of := F_sum_of, b_least_of := K01.zb_least_of F_least_of, m_least_of := m_least_of, k_least_of := k_least_of, F_least_of := F_least_of, b_greatest_of := K01.zb_greatest_of F_greatest_of, m_greatest_of := m_greatest_of, k_greatest_of := k_greatest_of, F_greatest_of := F_greatest_of, b_floor_of := K01.zb_floor_of F_floor_of, m_floor_of := m_floor_of, k_floor_of := k_floor_of, F_floor_of := F_floor_of, b_broken_of := K01.zb_broken_of F_broken_of, m_broken_of := m_broken_of, k_broken_of := k_broken_of, F_broken_of := F_broken_of, b__law_hand := K01.zb__law_hand F__law_hand, m__law_hand := m__law_hand, k__law_hand := k__law_hand, F__law_hand := F__law_hand, b__law_mixed := K01.zb__law_mixed F__law_mixed, m__law_mixed := m__law_mixed, k__law_mixed := k__law_mixed, F__law_mixed := F__law_mixed, b__law_take := K01.zb__law_take F__law_take, m__law_take := m__law_take, k__law_take := k__law_take, F__law_take := F__law_take, b__law_common := K01.zb__law_common F__law_common, m__law_common := m__law_common, k__law_common := k__law_common, F__law_common := F__law_common, b__law_ratio := K01.zb__law_ratio F__law_ratio, m__law_ratio := m__law_ratio, k__law_ratio := k__law_ratio, F__law_ratio := F__law_ratio, b__law_tuples := K01.zb__law_tuples F__law_tuples, m__law_tuples := m__law_tuples, k__law_tuples := k__law_tuples, F__law_tuples := F__law_tuples, b__law_drawn := K01.zb__law_drawn F__law_drawn, m__law_drawn := m__law_drawn, k__law_drawn := k__law_drawn, F__law_drawn := F__law_drawn, b__law_made := K01.zb__law_made F__law_made, m__law_made := m__law_made, k__law_made := k__law_made, F__law_made := F__law_made, b__law_parted := K01.zb__law_parted F__law_parted, m__law_parted := m__law_parted, k__law_parted := k__law_parted, F__law_parted := F__law_parted, b__law_signed := K01.zb__law_signed F__law_signed, m__law_signed := m__law_signed, k__law_signed := k__law_signed, F__law_signed := F__law_signed, b__law_pair := K01.zb__law_pair F__law_pair, m__law_pair := m__law_pair, k__law_pair := k__law_pair, F__law_pair := F__law_pair, b__law_rows := K01.zb__law_rows F__law_rows, m__law_rows := m__law_rows, k__law_rows := k__law_rows, F__law_rows := F__law_rows, b__law_odd_ones := K01.zb__law_odd_ones F__law_odd_ones, m__law_odd_ones := m__law_odd_ones, k__law_odd_ones := k__law_odd_ones, F__law_odd_ones := F__law_odd_ones, b_law := K01.zb_law F_law, m_law := m_law, k_law := k_law, F_law := F_law, bd_is_whole_1 := K01.zb_is_whole_1 F_is_whole, bd_is_whole_2 := K01.zb_is_whole_2 F_is_whole, bd_make_ratio_2 := K01.zb_make_ratio_2 F_make_ratio, bd_is_whole_3 := K01.zb_is_whole_3 F_is_whole, kb_is_whole_1_high := K01.zk_is_whole_1_high F_is_whole, kb_is_whole_1_low_high := K01.zk_is_whole_1_low_high F_is_whole, kb_make_ratio_1_bottom := K01.zk_make_ratio_1_bottom F_make_ratio, bd_make_ratio_1 := K01.zb_make_ratio_1 F_make_ratio }
    exact ⟨fd_law, Dz.law_binds F_law fun _ _ _ _ _ _ _ => rfl, fun base _ _ => K01.ok_law T⟩


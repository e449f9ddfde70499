import PyProof.Rows.All
import Wide.All
import OpenK.AllK
import Wide.FinOn
import Open.SpecLaws
import KE.OsGo
import HandS.Head0
import HandS.Head1
import HandS.Head2
import HandS.Base
import KE.OsHead
import HandS.Spec
import HandS.HeadHook1
import HandS.HeadHook2
import HandS.HeadHook4
import HandS.Words
import PySem.Challenge.RW_buildlogs_s01_answers
import HandS.ForSpec
import HandS.ForMost
import HandS.Evl
import HandS.Conv
import HandS.FStr
import HandS.TupAny
import HandS.TupLen
import HandS.TupSets
import HandS.Defaults
import HandS.Flow
import HandS.SortOrd
import HandS.SortRule
import HandS.NamedTupSort
import HandS.Walk
import VabldoSpec
import HandS.Steps
import KE.DataMinKey
import KE.KLam
import HandS.Call
import HandS.List
import HandS.Comp
import HandS.Lambda
import HandS.SortKw
import PyVabldo
import HandS.EndTab
import HandS.NestedK
-- part H1
set_option Elab.async false
set_option linter.all false
set_option maxRecDepth 100000
set_option maxHeartbeats 2000000
namespace Hd
open PySem PySem.W PySem.Calls PyProof.Rows
/-- what stands behind a part of the top: the answer is looked at -/
def endK {α : Type} (ok : α → Bool) (a : α) : Sem Fin := if ok a = true then .pure (.done .next) else .unsupported "no"
section
variable {p : Program} {w : World} {n₀ : Nat} {ann : Option Value}
theorem run_halts : ∀ (N : Nat) (s : Shared) (t : Thread) (s1 : Shared), topRun table p w n₀ ann N s t = some s1 → leftWithCleanup s1.gens = false →
    (∃ n f, runN (denote table) p w n s t = .halted (.done f) s1) ∧ ∀ k s2 t2, runN (denote table) p w k s t = .running s2 t2 → t2.calm = true
  | 0, _, _, _, h, _ => by simp [topRun] at h
  | N + 1, s, t, s1, h, hg => by
    unfold topRun at h
    cases ht : through t with
    | true =>
      rw [ht] at h
      have e : s = s1 := Option.some.inj h
      subst e
      obtain ⟨cur, code, pos, stack⟩ := t
      have h1 := Bool.and_eq_true_iff.mp ht
      have es : stack = [] := List.isEmpty_iff.mp h1.1
      subst es
      cases cur with
      | pure f =>
        cases f with
        | done f =>
          have hs : step (denote table) p w s ⟨.pure (.done f), code, pos, []⟩ = .halt (.done f) s := by
            obtain ⟨heap, gens, drawn, toks, os⟩ := s
            show finish (.done f) _ = _
            unfold finish
            rw [if_neg (by rw [hg]; decide)]
          refine ⟨⟨1, f, by simp only [runN, hs]⟩, fun k s2 t2 hk => ?_⟩
          cases k with
          | zero =>
            injection hk with _ e
            rw [← e]
            rfl
          | succ k =>
            simp only [runN, hs] at hk
            cases hk
        | again c => exact absurd h1.2 (by simp)
      | _ => exact absurd h1.2 (by simp)
    | false =>
      rw [ht] at h
      cases hk : stepOk n₀ ann t with
      | false => rw [hk] at h; cases h
      | true =>
        rw [hk] at h
        cases hs : step (denote table) p w s t with
        | halt o s2 => rw [hs] at h; cases h
        | go s2 t2 =>
          rw [hs] at h
          obtain ⟨⟨n, f, e⟩, hc⟩ := run_halts N s2 t2 s1 h hg
          refine ⟨⟨n + 1, f, by simp only [runN, hs]; exact e⟩, fun k s3 t3 hk3 => ?_⟩
          cases k with
          | zero =>
            injection hk3 with _ e
            rw [← e]
            exact (Bool.and_eq_true_iff.mp hk).1
          | succ k =>
            simp only [runN, hs] at hk3
            exact hc k s3 t3 hk3
theorem runs_of_run {N : Nat} {s s1 : Shared} {t : Sem Fin} {c : Code} {pos : Pos} {st : List Frame} (h : topRun table p w n₀ ann N s ⟨t, c, pos, st⟩ = some s1) (hg : s1.gens = #[]) :
    ∃ f, Runs (model p w) (Ctx.of c []) pos t st s (.ret (.ok f)) s1 := by
  obtain ⟨⟨n, f, e⟩, hc⟩ := run_halts N s _ s1 h (by rw [hg]; simp [leftWithCleanup])
  obtain ⟨s2, e2, ef⟩ := runN_calm_runNI (denote table) p w e hc
  have es : s2 = s1 := (Shared.eq_of_forget_eq ef.symm hg)
  subst es
  refine ⟨f, ?_⟩
  exact reach_runs (halted_reach (M := model p w) (r := .ok f) n s t c pos st e2).1
end
theorem segRet_inv {M : Model} {Γ : Ctx} {pos : Pos} {t : Sem Fin} {k : Result → Sem Fin} {h : Option Value} {g : Bool} {l : List Value} {c1 : Code} {p1 : Pos} {kp : List Value} {fs : List Frame} {s s' : Shared} {r : Result}
    (hs : splitAtGen (Frame.ret k h g l c1 p1 kp :: fs) = none) (x : Runs M Γ pos t (Frame.ret k h g l c1 p1 kp :: fs) s (.ret r) s') : ∃ r1 s1, Runs M (Γ.over (Frame.ret k h g l c1 p1 kp :: fs)) pos t [] s (.ret r1) s1 ∧ Runs M (Γ.goto c1) p1 (k r1) fs s1 (.ret r) s' := by
  cases x with
  | segRet h1 h2 => exact ⟨_, _, h1, h2⟩
  | segSuspGen h0 h1 h2 h3 => rw [hs] at h0; cases h0
section
variable {α : Type} {p : Program} {w : World} {n₀ : Nat} {ann : Option Value} {N : Nat} {s s1 : Shared} {t : Sem α} {c : Code} {pos q : Pos} {ok : α → Bool}
/-- a part of the top's body, run by the machine, is a wp -/
theorem wp_of_run (h : topRun table p w n₀ ann N s ⟨t >>= endK ok, c, pos, [topFrame q]⟩ = some s1) (hg : s1.gens = #[]) :
    Sem.wp (model p w) (Ctx.of c [topFrame q]) t (fun a _ s2 => ok a = true ∧ s2 = s1) (fun _ _ _ => False) pos s := by
  obtain ⟨f, hr⟩ := runs_of_run h hg
  obtain ⟨r1, s2, h1, h2⟩ := segRet_inv rfl hr
  have e0 : (Ctx.of c []).over [topFrame q] = Ctx.of c [topFrame q] := (Ctx.of_append c [topFrame q] []).symm
  rw [e0] at h1
  have h3 := (Sem.wp_iff_runs (model p w) (Ctx.of c [topFrame q]) (t >>= endK ok) (fun r s3 => r = r1 ∧ s3 = s2) pos s).mpr ⟨r1, s2, h1, rfl, rfl⟩
  rw [Sem.wp_bind'] at h3
  refine Sem.wp_mono (model p w) (Ctx.of c [topFrame q]) t (fun a p' s' h' => ?_) (fun e p' s' h' => ?_) pos s h3
  · cases ha : ok a with
    | false =>
      unfold endK at h'
      rw [if_neg (by rw [ha]; decide)] at h'
      rw [Sem.wp_unsupported] at h'
      exact h'.elim
    | true =>
      unfold endK at h'
      rw [if_pos ha] at h'
      rw [Sem.wp_pure] at h'
      obtain ⟨e1, e2⟩ : (Except.ok Flow.next : Result) = r1 ∧ s' = s2 := h'
      subst e1 e2
      refine ⟨rfl, ?_⟩
      cases h2 with
      | done => rfl
  · obtain ⟨e1, e2⟩ : Except.error e = r1 ∧ s' = s2 := h'
    subst e1 e2
    cases h2
/-- the same, with nothing below -/
theorem wp_of_run0 (h : topRun table p w n₀ ann N s ⟨t >>= endK ok, c, pos, []⟩ = some s1) (hg : s1.gens = #[]) :
    Sem.wp (model p w) (Ctx.of c []) t (fun a _ s2 => ok a = true ∧ s2 = s1) (fun _ _ _ => False) pos s := by
  obtain ⟨f, h1⟩ := runs_of_run h hg
  have h3 := (Sem.wp_iff_runs (model p w) (Ctx.of c []) (t >>= endK ok) (fun r s3 => r = .ok f ∧ s3 = s1) pos s).mpr ⟨_, s1, h1, rfl, rfl⟩
  rw [Sem.wp_bind'] at h3
  refine Sem.wp_mono (model p w) (Ctx.of c []) t (fun a p' s' h' => ?_) (fun e p' s' h' => ?_) pos s h3
  · cases ha : ok a with
    | false =>
      unfold endK at h'
      rw [if_neg (by rw [ha]; decide)] at h'
      rw [Sem.wp_unsupported] at h'
      exact h'.elim
    | true =>
      unfold endK at h'
      rw [if_pos ha] at h'
      rw [Sem.wp_pure] at h'
      exact ⟨rfl, h'.2⟩
  · cases h'.1
end
end Hd

-- part H2
set_option Elab.async false
set_option linter.all false
set_option maxRecDepth 100000
set_option maxHeartbeats 2000000
namespace Hd
open PySem PySem.Spec PyProof.Rows
open L2 (Key mixKind)
/-- an entry of a table that is written at the top: a pair of texts, a text -/
structure Ent where
  a : Str
  b : Str
  v : Str
  i1 : Nat
  i2 : Nat
  i3 : Nat
  x : Nat
  p1 : Pos
  p2 : Pos
  p3 : Pos
  p4 : Pos
def Ent.keyE (e : Ent) : Expr := .Tuple [.Constant (.str e.a) e.i1 e.p1, .Constant (.str e.b) e.i2 e.p2] e.x e.p3
def Ent.valE (e : Ent) : Expr := .Constant (.str e.v) e.i3 e.p4
def Ent.key (e : Ent) : List Key := [Sum.inr e.a, Sum.inr e.b]
def tupO (e : Ent) (tk : Nat) : Obj := { cls := .type "tuple", data := .seq #[.str e.a tk, .str e.b (tk + 1)] }
def putE (d : Addr) (x : DictEntry) (h : Heap) : Heap := h.update d (Obj.mapDictKeys (·.push x))
section
variable {p : Program} {w : World} {A : Around} {E : Value → Shared → Prop} {s : Shared} {env : Env} {d a : Addr} {xs : List (List Key × Addr × Value)} {k : List Key} {v : Value}
abbrev kn (p : Program) (w : World) := tupleKind (mixKind p w)
def hsh (p : Program) (w : World) (k : List Key) : Int := (kn p w).hash k
theorem ev_key {e : Ent} {Q : Value → Shared → Prop} (h : Q (.ref s.heap.objs.size) { s with heap := s.heap.push (tupO e s.toks), toks := s.toks + 2 }) : wpAny (model p w) A (eval e.keyE env) Q E s := by
  unfold Ent.keyE
  refine wpAny_Tuple ?_
  refine wpAny_items_cons (wpAny_Constant_str ?_)
  refine wpAny_items_cons (wpAny_Constant_str ?_)
  refine wpAny_items_nil ⟨(show 2 ≤ sizeLine by decide), ?_⟩
  exact h
theorem ev_val {e : Ent} {Q : Value → Shared → Prop} (h : Q (.str e.v s.toks) { s with toks := s.toks + 1 }) : wpAny (model p w) A (eval e.valE env) Q E s := wpAny_Constant_str h
/-- what stands behind one more entry -/
theorem put_ok (hkey : (kn p w).is s.heap k a) (hm : s.heap.DictOfH (kn p w) d xs) (hno : k ∉ xs.map (·.1)) : (putE d ⟨hsh p w k, .ref a, v⟩ s.heap).DictOfH (kn p w) d (xs ++ [(k, a, v)]) := by
  obtain ⟨o, es, ep, ho, hc, hd, he, his, hn⟩ := hm
  refine ⟨_, _, ep + 1, Heap.get?_update_self _ ho ?_, hc.mapDictKeys _, Obj.data_mapDictKeys hd _, ?_, ?_, ?_⟩
  · obtain ⟨c0, d0, dt, sl⟩ := o
    simp only at hd
    subst hd
    rfl
  · simp [he, entryOfKey, hsh]
  · intro x hx
    rcases List.mem_append.mp hx with hx | hx
    · exact (kn p w).keeps (his x hx) ho hd (Heap.SameBut.update ..)
    · simp only [List.mem_singleton] at hx
      subst hx
      exact (kn p w).keeps hkey ho hd (Heap.SameBut.update ..)
  · rw [List.map_append, List.nodup_append]
    refine ⟨hn, by simp, ?_⟩
    intro x hx y hy
    simp only [List.map_cons, List.map_nil, List.mem_singleton] at hy
    subst hy
    exact fun e => hno (e ▸ hx)
theorem find_no {Q : Option Nat → Shared → Prop} (hu : A.units < cLine) (hkey : (kn p w).is s.heap k a) (hm : s.heap.DictOfH (kn p w) d xs) (hno : k ∉ xs.map (·.1)) (h : Q none s) : wpAny (model p w) A (dictFind d (.ref a) (hsh p w k)) Q E s := by
  obtain ⟨o, es, ep, ho, hc, hd, he, his, hn⟩ := hm
  refine wpAny_dictFind_heap (knd := kn p w) hu hkey ho hd he his hn (fun _ => h) fun j q hj => ?_
  exact absurd (List.mem_map.mpr ⟨(k, q), List.mem_of_getElem? hj, rfl⟩) hno
theorem upd_one {Q : Unit → Shared → Prop} {part : Option Value} (hkey : (kn p w).is s.heap k a) (hm : s.heap.DictOfH (kn p w) d xs) (hz : xs.length ≤ 1000) (h : Q () { s with heap := putE d ⟨hsh p w k, .ref a, v⟩ s.heap }) :
    wpAny (model p w) A (updateDictKeys d (·.push ⟨hsh p w k, .ref a, v⟩) part) Q E s := by
  obtain ⟨o, es, ep, ho, hc, hd, he, his, hn⟩ := hm
  have hs := size_of_entries he
  exact wpAny_updateDictKeys ho hd h (hz := by rw [hs]; exact Nat.le_trans hz (by decide)) (hf := by simp)
theorem set_one {Q : Unit → Shared → Prop} (hu : A.units < cLine) (hkey : (kn p w).is s.heap k a) (hm : s.heap.DictOfH (kn p w) d xs) (hno : k ∉ xs.map (·.1)) (hz : xs.length ≤ 1000)
    (h : Q () { s with heap := putE d ⟨hsh p w k, .ref a, v⟩ s.heap, toks := s.toks + (k.length + 1) }) : wpAny (model p w) A (dictSet d (.ref a) v) Q E s := by
  unfold dictSet
  refine wpAny_holding ?_
  refine wpAny_bind ((kn p w).pyHash hu hkey ?_)
  unfold dictSetHashed
  refine wpAny_holding ?_
  refine wpAny_bind (find_no (s := { s with toks := s.toks + (k.length + 1) }) (xs := xs) hu hkey hm hno ?_)
  refine wpAny_bind (wpAny_rule ?_)
  exact upd_one (s := { s with toks := s.toks + (k.length + 1) }) (xs := xs) hkey hm hz h
theorem dput_one {Q : Unit → Shared → Prop} (hu : A.units < cLine) (hkey : (kn p w).is s.heap k a) (hm : s.heap.DictOfH (kn p w) d xs) (hno : k ∉ xs.map (·.1)) (hz : xs.length ≤ 1000)
    (h : Q () { s with heap := putE d ⟨hsh p w k, .ref a, v⟩ s.heap }) : wpAny (model p w) A (dictPut d (hsh p w k) (.ref a) v) Q E s := by
  unfold dictPut
  refine wpAny_bind (find_no (xs := xs) hu hkey hm hno ?_)
  exact upd_one (xs := xs) hkey hm hz h
theorem dict_keep {h h' : Heap} (hm : h.DictOfH (kn p w) d xs) (k : ∀ b o, h.get? b = some o → h'.get? b = some o) : h'.DictOfH (kn p w) d xs := by
  obtain ⟨o, es, ep, ho, hc, hd, he, his, hn⟩ := hm
  refine ⟨o, es, ep, k _ _ ho, hc, hd, he, fun x hx => ?_, hn⟩
  obtain ⟨o2, it, n, a1, a2, a3, a4⟩ := his x hx
  exact ⟨o2, it, n, k _ _ a1, a2, a3, a4⟩
theorem key_new {e : Ent} {h : Heap} {tk : Nat} : (kn p w).is (h.push (tupO e tk)) e.key h.objs.size :=
  ⟨tupO e tk, _, _, Heap.get?_push_size _ rfl, rfl, rfl, .cons (L2.keyIs_str e.a tk) (.cons (L2.keyIs_str e.b (tk + 1)) .nil)⟩
theorem push_keeps {h : Heap} {o : Obj} : ∀ b u, h.get? b = some u → (h.push o).get? b = some u := fun b u e => Heap.get?_push_of_some o e
/-- the trees of an entry's key and value -/
def pr (env : Env) (pos : Pos) (e : Ent) : Sem Value × Sem Value := (eval e.keyE env, do let x ← eval e.valE env; standAt pos; pure x)
theorem ev_pr2 {e : Ent} {pos : Pos} {Q : Value → Shared → Prop} (h : Q (.str e.v s.toks) { s with toks := s.toks + 1 }) : wpAny (model p w) A (pr env pos e).2 Q E s :=
  wpAny_bind (ev_val (wpAny_bind (wpAny_standAt (wpAny_pure h))))
/-- a long display: each entry is laid as soon as it is known -/
def longS (p : Program) (w : World) (d : Addr) : List Ent → Shared → Shared
  | [], s => s
  | e :: r, s => longS p w d r { s with heap := putE d ⟨hsh p w e.key, .ref s.heap.objs.size, .str e.v (s.toks + 2)⟩ (s.heap.push (tupO e s.toks)), toks := s.toks + 6 }
theorem long_ok {pos : Pos} {Q : PUnit → Shared → Prop} (hu : A.units < cLine) : ∀ (es : List Ent) (s : Shared) (xs : List (List Key × Addr × Value)), s.heap.DictOfH (kn p w) d xs → (xs.map (·.1) ++ es.map Ent.key).Nodup → xs.length + es.length ≤ 1000 →
    (∀ xs', (longS p w d es s).heap.DictOfH (kn p w) d xs' → xs'.map (·.1) = xs.map (·.1) ++ es.map Ent.key → Q PUnit.unit (longS p w d es s)) →
    wpAny (model p w) A (forIn (es.map (pr env pos)) PUnit.unit fun (x : Sem Value × Sem Value) (_ : PUnit) => (do let kv ← x.1; let vv ← holding [kv] x.2; holding [kv, vv] (dictSet d kv vv); pure (ForInStep.yield PUnit.unit) : Sem (ForInStep PUnit))) Q E s
  | [], s, xs, hm, _, _, h => by
    refine wpAny_pure (h xs hm ?_)
    simp
  | e :: r, s, xs, hm, hn, hz, h => by
    rw [List.map_cons, List.forIn_cons]
    refine wpAny_bind ?_
    refine wpAny_bind (ev_key ?_)
    refine wpAny_bind (wpAny_holding (ev_pr2 ?_))
    have hm1 := dict_keep hm (push_keeps (o := tupO e s.toks))
    have hno : e.key ∉ xs.map (·.1) := fun hin => by
      rw [List.nodup_append] at hn
      exact hn.2.2 _ hin _ (List.mem_map.mpr ⟨e, List.mem_cons_self, rfl⟩) rfl
    have hz1 : xs.length ≤ 1000 := by omega
    refine wpAny_bind (wpAny_holding (set_one (s := { s with heap := s.heap.push (tupO e s.toks), toks := s.toks + 3 }) (xs := xs) (k := e.key) hu key_new hm1 hno hz1 ?_))
    refine wpAny_pure ?_
    have hm2 := put_ok (s := { s with heap := s.heap.push (tupO e s.toks), toks := s.toks + 3 }) (v := .str e.v (s.toks + 2)) key_new hm1 hno
    refine long_ok hu r _ _ hm2 (by simpa using hn) (by simp at hz ⊢; omega) fun xs' hx he => ?_
    exact h xs' hx (by rw [he]; simp)
/-- a short display: all entries, then the table -/
def evS : List Ent → Shared → Shared
  | [], s => s
  | e :: r, s => evS r { s with heap := s.heap.push (tupO e s.toks), toks := s.toks + 3 }
def evX : List Ent → Shared → List (List Key × Addr × Value)
  | [], _ => []
  | e :: r, s => (e.key, s.heap.objs.size, .str e.v (s.toks + 2)) :: evX r { s with heap := s.heap.push (tupO e s.toks), toks := s.toks + 3 }
def vsOf (ys : List (List Key × Addr × Value)) : List (Value × Value) := ys.map fun y => (.ref y.2.1, y.2.2)
theorem evX_keys : ∀ (es : List Ent) (s : Shared), (evX es s).map (·.1) = es.map Ent.key
  | [], _ => rfl
  | e :: r, s => by
    show e.key :: _ = e.key :: _
    rw [evX_keys r]
theorem evX_len (es : List Ent) (s : Shared) : (evX es s).length = es.length := by
  have h := congrArg List.length (evX_keys es s)
  simpa using h
theorem evS_keeps : ∀ (es : List Ent) (s : Shared) b u, s.heap.get? b = some u → (evS es s).heap.get? b = some u
  | [], _, _, _, h => h
  | e :: r, s, b, u, h => evS_keeps r _ b u (push_keeps b u h)
theorem evX_is : ∀ (es : List Ent) (s : Shared) y, y ∈ evX es s → (kn p w).is (evS es s).heap y.1 y.2.1
  | [], _, _, h => by cases h
  | e :: r, s, y, h => by
    rcases List.mem_cons.mp h with rfl | h
    · obtain ⟨o2, it, n, a1, a2, a3, a4⟩ := key_new (p := p) (w := w) (e := e) (h := s.heap) (tk := s.toks)
      exact ⟨o2, it, n, evS_keeps r _ _ _ a1, a2, a3, a4⟩
    · exact evX_is r _ y h
theorem evp_ok {pos : Pos} : ∀ (es : List Ent) (s : Shared) (Q : List (Value × Value) → Shared → Prop), Q (vsOf (evX es s)) (evS es s) → wpAny (model p w) A (evalPairs (es.map (pr env pos))) Q E s
  | [], s, Q, h => wpAny_pure h
  | e :: r, s, Q, h => by
    show wpAny (model p w) A (do let kv ← (pr env pos e).1; let vv ← holding [kv] (pr env pos e).2; return (kv, vv) :: (← holding [kv, vv] (evalPairs (r.map (pr env pos))))) Q E s
    refine wpAny_bind (ev_key ?_)
    refine wpAny_bind (wpAny_holding (ev_pr2 ?_))
    exact wpAny_bind (wpAny_holding (evp_ok r _ _ (wpAny_pure h)))
def stS (p : Program) (w : World) (d : Addr) : List (List Key × Addr × Value) → Shared → Shared
  | [], s => s
  | y :: r, s => stS p w d r { s with heap := putE d ⟨hsh p w y.1, .ref y.2.1, y.2.2⟩ s.heap, toks := s.toks + (y.1.length + 1) }
theorem is_put {y : List Key} {b : Addr} {x : DictEntry} {h : Heap} (hm : h.DictOfH (kn p w) d xs) (hk : (kn p w).is h y b) : (kn p w).is (putE d x h) y b := by
  obtain ⟨o, es, ep, ho, hc, hd, he, his, hn⟩ := hm
  exact (kn p w).keeps hk ho hd (Heap.SameBut.update ..)
theorem st_ok {Q : PUnit → Shared → Prop} (hu : A.units < cLine) : ∀ (ys : List (List Key × Addr × Value)) (s : Shared) (xs : List (List Key × Addr × Value)), s.heap.DictOfH (kn p w) d xs → (∀ y ∈ ys, (kn p w).is s.heap y.1 y.2.1) → (xs.map (·.1) ++ ys.map (·.1)).Nodup → xs.length + ys.length ≤ 1000 →
    ((stS p w d ys s).heap.DictOfH (kn p w) d (xs ++ ys) → Q PUnit.unit (stS p w d ys s)) → wpAny (model p w) A (storeAll d (vsOf ys)) Q E s
  | [], s, xs, hm, _, _, _, h => wpAny_pure (h (by rw [List.append_nil]; exact hm))
  | y :: r, s, xs, hm, hi, hn, hz, h => by
    unfold storeAll
    show wpAny (model p w) A (forIn ((Value.ref y.2.1, y.2.2) :: vsOf r) PUnit.unit _) Q E s
    rw [List.forIn_cons]
    refine wpAny_bind ?_
    have hno : y.1 ∉ xs.map (·.1) := fun hin => by
      rw [List.nodup_append] at hn
      exact hn.2.2 _ hin _ (List.mem_map.mpr ⟨y, List.mem_cons_self, rfl⟩) rfl
    refine wpAny_bind (set_one (xs := xs) hu (hi y List.mem_cons_self) hm hno (by omega) ?_)
    refine wpAny_pure ?_
    have hm2 := put_ok (v := y.2.2) (hi y List.mem_cons_self) hm hno
    exact st_ok hu r _ _ hm2 (fun z hz => is_put hm (hi z (List.mem_cons_of_mem _ hz))) (by simpa using hn) (by simp at hz ⊢; omega) fun hx => h (by simpa [stS] using hx)
/-- one table into another -/
def mgS (p : Program) (w : World) (d : Addr) : List (List Key × Addr × Value) → Shared → Shared
  | [], s => s
  | y :: r, s => mgS p w d r { s with heap := putE d ⟨hsh p w y.1, .ref y.2.1, y.2.2⟩ s.heap }
theorem dict_put_ne {e : Addr} {ys : List (List Key × Addr × Value)} {x : DictEntry} {h : Heap} (hm : h.DictOfH (kn p w) d xs) (hne : e ≠ d) (hy : h.DictOfH (kn p w) e ys) : (putE d x h).DictOfH (kn p w) e ys := by
  obtain ⟨o, es, ep, ho, hc, hd, he, his, hn⟩ := hy
  exact ⟨o, es, ep, by unfold putE; rw [Heap.get?_update_ne _ _ _ _ hne]; exact ho, hc, hd, he, fun z hz => is_put hm (his z hz), hn⟩
abbrev mgBody (d e : Addr) (epoch : Nat) (i : Nat) : Sem (ForInStep PUnit) := do
  let es ← dictEntries e
  match es[i]? with
  | some x =>
    holding [x.key, x.val] (dictPut d x.hash x.key x.val)
    let ep ← dictEpoch e
    if (ep != epoch) = true then do
      let _ ← (unsupported "dict.changed-during-merge" : Sem PUnit)
      pure (ForInStep.yield PUnit.unit)
    else pure (ForInStep.yield PUnit.unit)
  | _ => do
    let _ ← (unsupported "dict.changed-during-merge" : Sem PUnit)
    pure (ForInStep.yield PUnit.unit)
theorem mg_ok {Q : PUnit → Shared → Prop} {e : Addr} {epoch : Nat} (hu : A.units < cLine) (hne : e ≠ d) (ys : List (List Key × Addr × Value)) : ∀ (n : Nat) (j : Nat) (s : Shared) (xs : List (List Key × Addr × Value)), j + n = ys.length → s.heap.DictOfH (kn p w) d xs →
    (s.heap.DictOfH (kn p w) e ys ∧ ∃ o es, s.heap.get? e = some o ∧ o.data = .dict es epoch) → (xs.map (·.1) ++ (ys.drop j).map (·.1)).Nodup → xs.length + n ≤ 1000 →
    ((mgS p w d (ys.drop j) s).heap.DictOfH (kn p w) d (xs ++ ys.drop j) → Q PUnit.unit (mgS p w d (ys.drop j) s)) →
    wpAny (model p w) A (forIn (List.range' j n) PUnit.unit fun (i : Nat) (_ : PUnit) => mgBody d e epoch i) Q E s
  | 0, j, s, xs, hj, hm, _, _, _, h => by
    have hd : ys.drop j = [] := List.drop_eq_nil_of_le (by omega)
    rw [hd] at h
    exact wpAny_pure (h (by rw [List.append_nil]; exact hm))
  | n + 1, j, s, xs, hj, hm, hy, hn, hz, h => by
    have hl : j < ys.length := by omega
    have hd : ys.drop j = ys[j] :: ys.drop (j + 1) := List.drop_eq_getElem_cons hl
    rw [hd] at h hn
    show wpAny (model p w) A (forIn (j :: List.range' (j + 1) n) PUnit.unit _) Q E s
    rw [List.forIn_cons]
    refine wpAny_bind ?_
    obtain ⟨hy1, o, es, ho, hdat⟩ := hy
    obtain ⟨o', es', ep', ho', hc', hd', he', his', hn'⟩ := hy1
    rw [ho] at ho'
    cases ho'
    rw [hdat] at hd'
    cases hd'
    have hej : es[j]? = some (entryOfKey (kn p w) ys[j]) := by
      rw [entry_at he' j, List.getElem?_eq_getElem hl]
      rfl
    have hin : ys[j] ∈ ys := List.getElem_mem hl
    refine wpAny_bind (wpAny_dictEntries ho hdat ?_)
    rw [hej]
    have hno : ys[j].1 ∉ xs.map (·.1) := fun hx => by
      rw [List.nodup_append] at hn
      exact hn.2.2 _ hx _ (List.mem_map.mpr ⟨_, List.mem_cons_self, rfl⟩) rfl
    refine wpAny_bind (wpAny_holding (dput_one (xs := xs) (k := ys[j].1) hu (his' _ hin) hm hno (by omega) ?_))
    have ho2 : (putE d ⟨hsh p w ys[j].1, .ref ys[j].2.1, ys[j].2.2⟩ s.heap).get? e = some o := by
      unfold putE
      rw [Heap.get?_update_ne _ _ _ _ hne]
      exact ho
    refine wpAny_bind (wpAny_dictEpoch (s := { s with heap := putE d ⟨hsh p w ys[j].1, .ref ys[j].2.1, ys[j].2.2⟩ s.heap }) ho2 hdat ?_)
    rw [if_neg (by simp)]
    refine wpAny_pure ?_
    have hm2 := put_ok (v := ys[j].2.2) (his' _ hin) hm hno
    refine mg_ok hu hne ys n (j + 1) _ _ (by omega) hm2 ⟨dict_put_ne hm hne ⟨o, es, epoch, ho, hc', hdat, he', his', hn'⟩, o, es, ho2, hdat⟩ (by rw [List.map_append, List.append_assoc]; exact hn) (by simp at hz ⊢; omega) fun hx => h ?_
    rw [List.append_assoc] at hx
    exact hx
theorem merge_ok {Q : Unit → Shared → Prop} {e : Addr} {ys : List (List Key × Addr × Value)} (hu : A.units < cLine) (hne : e ≠ d) (he : (e == sysModules) = false) (hx0 : xs ≠ []) (hm : s.heap.DictOfH (kn p w) d xs) (hy : s.heap.DictOfH (kn p w) e ys)
    (hn : (xs.map (·.1) ++ ys.map (·.1)).Nodup) (hz : xs.length + ys.length ≤ 1000) (h : (mgS p w d ys s).heap.DictOfH (kn p w) d (xs ++ ys) → Q () (mgS p w d ys s)) : wpAny (model p w) A (mergeMapping d (.ref e) false) Q E s := by
  unfold mergeMapping
  refine wpAny_bind (wpAny_isInstance (T := "dict") (b := true) hy.typeIs (by rw [isSubtype_type]; kernel_rfl) ?_)
  rw [if_pos rfl]
  refine wpAny_bind (wpAny_specialOf hy.typeIs F.slot_dict_iter.lookup ?_)
  have e1 : ((some (Value.builtin "dict.__iter__") : Option Value) == some (.builtin "dict.__iter__")) = true := by decide +kernel
  rw [e1]
  refine wpAny_bind (wpAny_pure ?_)
  dsimp only
  rw [he, if_neg Bool.false_ne_true]
  have hmo := hm
  have hyo := hy
  obtain ⟨o, es, ep, ho, hc, hd, heq, his, hnd⟩ := hm
  obtain ⟨o2, es2, ep2, ho2, hc2, hd2, heq2, his2, hnd2⟩ := hy
  refine wpAny_bind (wpAny_dictEntries ho hd ?_)
  have hes : es.isEmpty = false := by
    have hs := size_of_entries heq
    rw [Array.isEmpty_eq_false_iff]
    intro z
    rw [z] at hs
    exact hx0 (List.length_eq_zero_iff.mp hs.symm)
  rw [hes, if_neg Bool.false_ne_true]
  refine wpAny_bind (wpAny_dictEntries ho2 hd2 ?_)
  refine wpAny_bind (wpAny_dictEpoch ho2 hd2 ?_)
  have hs2 := size_of_entries heq2
  rw [hs2, List.range_eq_range']
  refine wpAny_bind (Q := Q) ?_
  exact mg_ok (epoch := ep2) (Q := fun _ s' => wpAny (model p w) A (pure ()) Q E s') hu hne ys ys.length 0 s xs (by omega) hmo ⟨hyo, o2, es2, ho2, hd2⟩ (by simpa using hn) hz fun hx => wpAny_pure (h (by simpa using hx))
end
end Hd

-- part H3
set_option Elab.async false
set_option linter.all false
set_option maxRecDepth 100000
set_option maxHeartbeats 2000000
namespace Hd
open PySem PySem.Spec PyProof.Rows
open L2 (Key mixKind)
theorem gatherM {m : Option Addr} (f : (Option (Sem Value) × Sem Value) → (Option Addr × List (Sem Value × Sem Value)) → Sem (ForInStep (Option Addr × List (Sem Value × Sem Value))))
    (hf : ∀ (p : Sem Value × Sem Value) (run : List (Sem Value × Sem Value)), run.length + 1 < 17 → f (some p.1, p.2) (m, run) = pure (.yield (m, run ++ [p]))) :
    ∀ (items run : List (Sem Value × Sem Value)) (tl : List (Option (Sem Value) × Sem Value)), run.length + items.length < 17 → forIn (items.map (fun p => (some p.1, p.2)) ++ tl) (m, run) f = forIn tl (m, run ++ items) f
  | [], run, tl, _ => by simp
  | p :: rest, run, tl, h => by
    rw [List.map_cons, List.cons_append, List.forIn_cons, hf p run (by simp at h; omega), pure_bind]
    have := gatherM f hf rest (run ++ [p]) tl (by simp at h ⊢; omega)
    simpa using this
def mgTail (d sub : Addr) : Sem PUnit := (holding [.ref d, .ref sub] (mergeMapping d (.ref sub) false)).onRaise fun x => do
  let _ ← holding [.ref d, x] (runValue (.builtin "proto.let_go" {}))
theorem disp_eq (ps1 : List (Sem Value × Sem Value)) (z : Sem Value × Sem Value) (ps2 : List (Sem Value × Sem Value)) (h1 : ps1.length = 16) (h2 : ps2.length < 17) (h20 : ps2 ≠ []) :
    dictDisplay ((ps1 ++ z :: ps2).map fun p => (some p.1, p.2)) = (do
      let d ← subDict (ps1 ++ [z])
      let sub ← holding [.ref d] (subDict ps2)
      mgTail d sub
      pure (.ref d)) := by
  unfold dictDisplay
  dsimp only
  rw [List.map_append, gatherM (m := none) _ (fun p run h => by
    have hne : ((run ++ [(p.1, p.2)]).length == 17) = false := by simp; omega
    simp only [hne, Bool.false_eq_true, if_false]) ps1 [] _ (by simp; omega), List.map_cons, List.forIn_cons]
  have hz : (([] ++ ps1 ++ [(z.1, z.2)]).length == 17) = true := by simp; omega
  have hem : ([] ++ ps1 ++ [(z.1, z.2)]).isEmpty = false := by simp
  simp only [hz, hem, if_true, Bool.false_eq_true, if_false, bind_assoc, pure_bind]
  have e0 : [] ++ ps1 ++ [(z.1, z.2)] = ps1 ++ [z] := by simp
  rw [e0]
  refine congrArg (fun k => subDict (ps1 ++ [z]) >>= k) (funext fun d => ?_)
  have hap : ∀ l : List (Option (Sem Value) × Sem Value), l = l ++ [] := fun l => (List.append_nil l).symm
  rw [hap (List.map _ ps2), gatherM (m := some d) _ (fun p run h => by
    have hne : ((run ++ [(p.1, p.2)]).length == 17) = false := by simp; omega
    simp only [hne, Bool.false_eq_true, if_false]) ps2 [] [] (by simpa using h2)]
  have he2 : ps2.isEmpty = false := by simpa using h20
  simp only [List.forIn_nil, pure_bind, List.nil_append, he2, Bool.false_eq_true, if_false, bind_assoc]
  rfl
section
variable {p : Program} {w : World} {A : Around} {E : Value → Shared → Prop} {s : Shared} {env : Env} {d : Addr} {xs : List (List Key × Addr × Value)}
def dictO : Obj := { cls := .type "dict", data := .dict #[] }
theorem sub_long {pos : Pos} {es : List Ent} {Q : Addr → Shared → Prop} (hu : A.units < cLine) (hl : 15 < es.length) (hz : es.length ≤ 1000) (hn : (es.map Ent.key).Nodup)
    (h : ∀ xs, (longS p w s.heap.objs.size es { s with heap := s.heap.push dictO }).heap.DictOfH (kn p w) s.heap.objs.size xs → xs.map (·.1) = es.map Ent.key → Q s.heap.objs.size (longS p w s.heap.objs.size es { s with heap := s.heap.push dictO })) :
    wpAny (model p w) A (subDict (es.map (pr env pos))) Q E s := by
  unfold subDict
  refine wpAny_bind (wpAny_alloc ?_)
  refine wpAny_bind (wpAny_holding ?_)
  rw [if_neg (by rw [List.length_map]; omega)]
  refine wpAny_bind (wpAny_rule ?_)
  refine wpAny_bind ?_
  refine long_ok (xs := []) (Q := fun _ s' => wpAny (model p w) A (pure ()) (fun _ s2 => wpAny (model p w) A (pure s.heap.objs.size) Q E s2) E s') hu es _ (Heap.DictOfH.new s.heap) (by simpa using hn) (by simpa using hz) fun xs' hx hk => ?_
  exact wpAny_pure (wpAny_pure (h xs' hx (by simpa using hk)))
theorem st_other {e : Addr} {zs : List (List Key × Addr × Value)} (hne : e ≠ d) : ∀ (ys : List (List Key × Addr × Value)) (s : Shared) (xs : List (List Key × Addr × Value)), s.heap.DictOfH (kn p w) d xs → (∀ y ∈ ys, (kn p w).is s.heap y.1 y.2.1) → (xs.map (·.1) ++ ys.map (·.1)).Nodup →
    s.heap.DictOfH (kn p w) e zs → (stS p w d ys s).heap.DictOfH (kn p w) e zs
  | [], _, _, _, _, _, h => h
  | y :: r, s, xs, hm, hi, hn, h => by
    have hno : y.1 ∉ xs.map (·.1) := fun hin => by
      rw [List.nodup_append] at hn
      exact hn.2.2 _ hin _ (List.mem_map.mpr ⟨y, List.mem_cons_self, rfl⟩) rfl
    have hm2 := put_ok (v := y.2.2) (hi y List.mem_cons_self) hm hno
    exact st_other hne r _ _ hm2 (fun z hz => is_put hm (hi z (List.mem_cons_of_mem _ hz))) (by simpa using hn) (dict_put_ne hm hne h)
theorem sub_short {pos : Pos} {es : List Ent} {zs : List (List Key × Addr × Value)} {Q : Addr → Shared → Prop} (hu : A.units < cLine) (hl : es.length ≤ 15) (hn : (es.map Ent.key).Nodup) (hd : s.heap.DictOfH (kn p w) d zs)
    (h : (stS p w s.heap.objs.size (evX es { s with heap := s.heap.push dictO }) (evS es { s with heap := s.heap.push dictO })).heap.DictOfH (kn p w) s.heap.objs.size (evX es { s with heap := s.heap.push dictO }) →
      (stS p w s.heap.objs.size (evX es { s with heap := s.heap.push dictO }) (evS es { s with heap := s.heap.push dictO })).heap.DictOfH (kn p w) d zs →
      Q s.heap.objs.size (stS p w s.heap.objs.size (evX es { s with heap := s.heap.push dictO }) (evS es { s with heap := s.heap.push dictO }))) :
    wpAny (model p w) A (subDict (es.map (pr env pos))) Q E s := by
  refine wpAny_subDict_any (by rw [List.length_map]; exact hl) ?_
  refine evp_ok es _ _ ?_
  have hne : d ≠ s.heap.objs.size := by
    obtain ⟨o, es', ep, ho, _⟩ := hd
    exact Nat.ne_of_lt (Heap.lt_size ho)
  have h0 : (evS es { s with heap := s.heap.push dictO }).heap.DictOfH (kn p w) s.heap.objs.size [] := dict_keep (Heap.DictOfH.new s.heap) (evS_keeps es { s with heap := s.heap.push dictO })
  have h1 : (evS es { s with heap := s.heap.push dictO }).heap.DictOfH (kn p w) d zs := dict_keep (dict_keep hd push_keeps) (evS_keeps es { s with heap := s.heap.push dictO })
  have hk := evX_keys es { s with heap := s.heap.push dictO }
  have hk2 : (([] : List (List Key × Addr × Value)).map (·.1) ++ (evX es { s with heap := s.heap.push dictO }).map (·.1)).Nodup := by rw [hk]; simpa using hn
  refine st_ok (xs := []) hu _ _ h0 (evX_is es _) hk2 (by rw [evX_len]; simp; omega) fun hx => h (by rw [List.nil_append] at hx; exact hx) ?_
  exact st_other hne _ _ [] h0 (evX_is es _) hk2 h1
def dispS (p : Program) (w : World) (es1 es2 : List Ent) (s : Shared) : Shared :=
  let s1 := longS p w s.heap.objs.size es1 { s with heap := s.heap.push dictO }
  let s2 := { s1 with heap := s1.heap.push dictO }
  mgS p w s.heap.objs.size (evX es2 s2) (stS p w s1.heap.objs.size (evX es2 s2) (evS es2 s2))
theorem disp_ok {pos : Pos} {es1 es2 : List Ent} {Q : Value → Shared → Prop} (hu : A.units < cLine) (h1 : es1.length = 17) (h2 : es2.length ≤ 15) (h20 : es2 ≠ []) (hn : (es1.map Ent.key ++ es2.map Ent.key).Nodup) (hy : sysModules < s.heap.objs.size)
    (h : Q (.ref s.heap.objs.size) (dispS p w es1 es2 s)) : wpAny (model p w) A (dictDisplay ((es1 ++ es2).map fun e => (some (pr env pos e).1, (pr env pos e).2))) Q E s := by
  obtain ⟨ps, z, rfl⟩ : ∃ ps z, es1 = ps ++ [z] := ⟨es1.dropLast, es1.getLast (by intro e; rw [e] at h1; cases h1), (List.dropLast_concat_getLast _).symm⟩
  have e0 : ((ps ++ [z] ++ es2).map fun e => (some (pr env pos e).1, (pr env pos e).2)) = (ps.map (pr env pos) ++ pr env pos z :: es2.map (pr env pos)).map fun q => (some q.1, q.2) := by simp; rfl
  rw [e0, disp_eq _ _ _ (by simp at h1 ⊢; omega) (by simp; omega) (by simpa using h20)]
  have e1 : ps.map (pr env pos) ++ [pr env pos z] = (ps ++ [z]).map (pr env pos) := by simp
  rw [e1]
  obtain ⟨hn1, hn2, hn3⟩ := List.nodup_append.mp hn
  refine wpAny_bind (sub_long hu (by omega) (by omega) hn1 fun xs hx hk => ?_)
  have hd1 : xs.length = 17 := by
    have := congrArg List.length hk
    simp at this h1
    omega
  have hlt : s.heap.objs.size < (longS p w s.heap.objs.size (ps ++ [z]) { s with heap := s.heap.push dictO }).heap.objs.size := by
    obtain ⟨o, es', ep, ho, _⟩ := hx
    exact Heap.lt_size ho
  refine wpAny_bind (wpAny_holding (sub_short (d := s.heap.objs.size) hu h2 hn2 hx fun hb ha => ?_))
  refine wpAny_bind (wpAny_onRaise ?_)
  refine wpAny_holding ?_
  refine merge_ok hu (Nat.ne_of_gt hlt) ?_ (by intro e; rw [e] at hd1; cases hd1) ha hb (by rw [hk, evX_keys]; exact hn) (by rw [hd1, evX_len]; omega) fun _ => ?_
  · rw [beq_eq_false_iff_ne]
    exact Nat.ne_of_gt (Nat.lt_trans hy hlt)
  · exact wpAny_pure h
end
end Hd

-- part H4
set_option Elab.async false
set_option linter.all false
set_option maxRecDepth 100000
set_option maxHeartbeats 2000000
namespace Hd
open PySem PySem.W PySem.Calls PyProof.Rows HandSHeadRun
open L2 (Key mixKind)
/-! ### the table, over the heap as a tree -/
def pushT (o : Obj) (s : SharedT) : Option SharedT := match s with
  | ⟨T, n, life, gens, drawn, toks, os⟩ => match ((T.ins n o).get n).isSome with
    | true => some ⟨T.ins n o, n + 1, life, gens, drawn, toks, os⟩
    | false => none
theorem pushT_ok {o : Obj} {s s' : SharedT} (h : pushT o s = some s') : s'.abs = { s.abs with heap := s.abs.heap.push o } := by
  obtain ⟨T, n, life, gens, drawn, toks, os⟩ := s
  have h1 : (match ((T.ins n o).get n).isSome with
    | true => some (⟨T.ins n o, n + 1, life, gens, drawn, toks, os⟩ : SharedT)
    | false => none) = some s' := h
  cases e : ((T.ins n o).get n).isSome with
  | false =>
    rw [e] at h1
    cases h1
  | true =>
    rw [e] at h1
    have h2 := Option.some.inj h1
    subst h2
    show (⟨absHeap (T.ins n o) (n + 1) life, gens, drawn, toks, os⟩ : Shared) = _
    rw [absHeap_ins e]
    rfl
def updT (a : Addr) (f : Obj → Obj) (s : SharedT) : Option SharedT := match s with
  | ⟨T, n, life, gens, drawn, toks, os⟩ => match T.get a with
    | some _ => some ⟨T.set a f, n, life, gens, drawn, toks, os⟩
    | none => none
theorem updT_ok {a : Addr} {f : Obj → Obj} {s s' : SharedT} (h : updT a f s = some s') : s'.abs = { s.abs with heap := s.abs.heap.update a f } := by
  obtain ⟨T, n, life, gens, drawn, toks, os⟩ := s
  have h1 : (match T.get a with
    | some _ => some (⟨T.set a f, n, life, gens, drawn, toks, os⟩ : SharedT)
    | none => none) = some s' := h
  cases e : T.get a with
  | none =>
    rw [e] at h1
    cases h1
  | some o =>
    rw [e] at h1
    have h2 := Option.some.inj h1
    subst h2
    show (⟨absHeap (T.set a f) n life, gens, drawn, toks, os⟩ : Shared) = _
    rw [absHeap_set e]
    rfl
def tokT (k : Nat) (s : SharedT) : SharedT := match s with
  | ⟨T, n, life, gens, drawn, toks, os⟩ => ⟨T, n, life, gens, drawn, toks + k, os⟩
theorem tokT_ok (k : Nat) (s : SharedT) : (tokT k s).abs = { s.abs with toks := s.abs.toks + k } := rfl
theorem abs_n (s : SharedT) : s.abs.heap.objs.size = s.n := absHeap_size _ _ _
theorem abs_toks (s : SharedT) : s.abs.toks = s.toks := rfl
def thenT (x : Option SharedT) (k : SharedT → Option SharedT) : Option SharedT := match x with
  | some s => frS s k
  | none => none
theorem thenT_some {x : Option SharedT} {k : SharedT → Option SharedT} {r : SharedT} (h : thenT x k = some r) : ∃ s, x = some s ∧ k s = some r := by
  cases x with
  | none => cases h
  | some s =>
    refine ⟨s, rfl, ?_⟩
    rw [← frS_eq s k]
    exact h
def putT (p : Program) (w : World) (d : Addr) (k : List Key) (a : Addr) (v : Value) (s : SharedT) : Option SharedT := updT d (Obj.mapDictKeys (·.push ⟨hsh p w k, .ref a, v⟩)) s
theorem putT_ok {p : Program} {w : World} {d : Addr} {k : List Key} {a : Addr} {v : Value} {s s' : SharedT} (h : putT p w d k a v s = some s') : s'.abs = { s.abs with heap := putE d ⟨hsh p w k, .ref a, v⟩ s.abs.heap } := updT_ok h
def longT (p : Program) (w : World) (d : Addr) : List Ent → SharedT → Option SharedT
  | [], s => some s
  | e :: r, s => thenT (pushT (tupO e s.toks) s) fun s1 => thenT (putT p w d e.key s.n (.str e.v (s.toks + 2)) s1) fun s2 => thenT (some (tokT 6 s2)) fun s3 => longT p w d r s3
theorem longT_ok {p : Program} {w : World} {d : Addr} : ∀ (es : List Ent) (s s' : SharedT), longT p w d es s = some s' → s'.abs = longS p w d es s.abs
  | [], s, s', h => by
    cases h
    rfl
  | e :: r, s, s', h => by
    obtain ⟨s1, h1, h⟩ := thenT_some h
    obtain ⟨s2, h2, h⟩ := thenT_some h
    obtain ⟨s3, h3, h⟩ := thenT_some h
    cases h3
    rw [longT_ok r _ _ h, tokT_ok, putT_ok h2, pushT_ok h1]
    show longS p w d r _ = longS p w d r _
    rw [abs_n, abs_toks]
def evT : List Ent → SharedT → Option SharedT
  | [], s => some s
  | e :: r, s => thenT (pushT (tupO e s.toks) s) fun s1 => thenT (some (tokT 3 s1)) fun s2 => evT r s2
theorem evT_ok : ∀ (es : List Ent) (s s' : SharedT), evT es s = some s' → s'.abs = evS es s.abs
  | [], s, s', h => by
    cases h
    rfl
  | e :: r, s, s', h => by
    obtain ⟨s1, h1, h⟩ := thenT_some h
    obtain ⟨s2, h2, h⟩ := thenT_some h
    cases h2
    rw [evT_ok r _ _ h, tokT_ok, pushT_ok h1]
    rfl
def evXT : List Ent → Nat → Nat → List (List Key × Addr × Value)
  | [], _, _ => []
  | e :: r, n, tk => (e.key, n, .str e.v (tk + 2)) :: evXT r (n + 1) (tk + 3)
theorem evXT_ok : ∀ (es : List Ent) (s : Shared), evX es s = evXT es s.heap.objs.size s.toks
  | [], _ => rfl
  | e :: r, s => by
    show _ :: evX r _ = _ :: evXT r _ _
    rw [evXT_ok r]
    show _ :: evXT r (s.heap.push (tupO e s.toks)).objs.size _ = _
    rw [Heap.size_push]
def stT (p : Program) (w : World) (d : Addr) : List (List Key × Addr × Value) → SharedT → Option SharedT
  | [], s => some s
  | y :: r, s => thenT (putT p w d y.1 y.2.1 y.2.2 s) fun s1 => thenT (some (tokT (y.1.length + 1) s1)) fun s2 => stT p w d r s2
theorem stT_ok {p : Program} {w : World} {d : Addr} : ∀ (ys : List (List Key × Addr × Value)) (s s' : SharedT), stT p w d ys s = some s' → s'.abs = stS p w d ys s.abs
  | [], s, s', h => by
    cases h
    rfl
  | y :: r, s, s', h => by
    obtain ⟨s1, h1, h⟩ := thenT_some h
    obtain ⟨s2, h2, h⟩ := thenT_some h
    cases h2
    rw [stT_ok r _ _ h, tokT_ok, putT_ok h1]
    rfl
def mgT (p : Program) (w : World) (d : Addr) : List (List Key × Addr × Value) → SharedT → Option SharedT
  | [], s => some s
  | y :: r, s => thenT (putT p w d y.1 y.2.1 y.2.2 s) fun s1 => mgT p w d r s1
theorem mgT_ok {p : Program} {w : World} {d : Addr} : ∀ (ys : List (List Key × Addr × Value)) (s s' : SharedT), mgT p w d ys s = some s' → s'.abs = mgS p w d ys s.abs
  | [], s, s', h => by
    cases h
    rfl
  | y :: r, s, s', h => by
    obtain ⟨s1, h1, h⟩ := thenT_some h
    rw [mgT_ok r _ _ h, putT_ok h1]
    rfl
def dispT (p : Program) (w : World) (es1 es2 : List Ent) (s : SharedT) : Option SharedT :=
  thenT (pushT dictO s) fun s0 => thenT (longT p w s.n es1 s0) fun s1 => thenT (pushT dictO s1) fun s2 => thenT (evT es2 s2) fun s3 => thenT (stT p w s1.n (evXT es2 s2.n s2.toks) s3) fun s4 => mgT p w s.n (evXT es2 s2.n s2.toks) s4
theorem dispT_ok {p : Program} {w : World} {es1 es2 : List Ent} {s s' : SharedT} (h : dispT p w es1 es2 s = some s') : s'.abs = dispS p w es1 es2 s.abs := by
  obtain ⟨s0, h0, h⟩ := thenT_some h
  obtain ⟨s1, h1, h⟩ := thenT_some h
  obtain ⟨s2, h2, h⟩ := thenT_some h
  obtain ⟨s3, h3, h⟩ := thenT_some h
  obtain ⟨s4, h4, h⟩ := thenT_some h
  have e0 := pushT_ok h0
  have e1 := longT_ok _ _ _ h1
  have e2 := pushT_ok h2
  have e3 := evT_ok _ _ _ h3
  have e4 := stT_ok _ _ _ h4
  have e5 := mgT_ok _ _ _ h
  unfold dispS
  dsimp only
  rw [e0] at e1
  rw [abs_n s, ← e1, ← e2, abs_n s1, evXT_ok, abs_n s2, ← e3, abs_toks, ← e4]
  exact e5
end Hd

-- part H5
set_option Elab.async false
set_option linter.all false
set_option maxRecDepth 100000
set_option maxHeartbeats 2000000
namespace Hd
open PySem PySem.W PySem.Calls PyProof.Rows HandSHeadRun
open L2 (Key mixKind)
def okN : Flow → Bool
  | .next => true
  | _ => false
theorem okN_eq {f : Flow} (h : okN f = true) : f = .next := by
  cases f with
  | next => rfl
  | _ => cases h
/-- what runs within the top's body -/
abbrev aBody : Around := { handled := none, depth := 1000000, frames := none, guards := none, units := 1000 }
theorem execs_app (l r : List Stmt) (env : Env) : execs (l ++ r) env = (do match ← execs l env with | .next => execs r env | f => pure f) := by
  induction l with
  | nil => rfl
  | cons s l ih =>
    rw [List.cons_append, execs_cons, execs_cons, bind_assoc]
    refine congrArg (fun k => exec s env >>= k) (funext fun f => ?_)
    cases f with
    | next => exact ih
    | _ => rfl
/-- the top's parts: what stands ahead of the table, the table, what stands behind it -/
structure Parts where
  A : List Stmt
  B : List Stmt
  tg : List Expr
  ks : List (Option Expr)
  vs : List Expr
  dpos : Pos
  apos : Pos
  es1 : List Ent
  es2 : List Ent
def Parts.st (x : Parts) : Stmt := .Assign x.tg (.Dict x.ks x.vs x.dpos) x.apos
def Parts.body (x : Parts) : List Stmt := x.A ++ x.st :: x.B
structure Parts.Ok (x : Parts) (env : Env) : Prop where
  ks : x.ks = (x.es1 ++ x.es2).map fun e => some e.keyE
  vs : x.vs = (x.es1 ++ x.es2).map Ent.valE
  sw : swapsWithSole x.tg (.Dict x.ks x.vs x.dpos) x.apos.line env = pure false
  ss : swappedStores x.tg (.Dict x.ks x.vs x.dpos) env = pure none
  l1 : x.es1.length = 17
  l2 : x.es2.length ≤ 15
  l0 : x.es2 ≠ []
  nd : (x.es1.map Ent.key ++ x.es2.map Ent.key).Nodup
def Parts.tA (x : Parts) (env : Env) : Sem Flow := do
  blockStart x.body env
  execs x.A env
def Parts.tB (x : Parts) (env : Env) (d : Addr) : Sem Flow := do
  assignAll (.ref d) ((assignEach x.tg env).map (·.2))
  execs x.B env
theorem pairs_eq (env : Env) (pos : Pos) : ∀ es : List Ent, (evalEachOpt (es.map fun e => some e.keyE) env).zip ((evalEach (es.map Ent.valE) env).map fun v => do let x ← v; standAt pos; pure x) = es.map fun e => (some (pr env pos e).1, (pr env pos e).2)
  | [] => rfl
  | e :: r => by
    exact congrArg (List.cons _) (pairs_eq env pos r)
section
variable {p : Program} {w : World} {x : Parts} {env : Env} {c : Code} {q : Pos} {s1 sA sD : Shared}
theorem wp_top_body (K : x.Ok env) (hI : (Ctx.of c [topFrame q]).In aBody) {R : Shared → Prop} {pos : Pos}
    (hA : Sem.wp (model p w) (Ctx.of c [topFrame q]) (x.tA env) (fun f _ s2 => okN f = true ∧ s2 = sA) (fun _ _ _ => False) pos s1)
    (hy : sysModules < sA.heap.objs.size)
    (hB : ∀ pos, Sem.wp (model p w) (Ctx.of c [topFrame q]) (x.tB env sA.heap.objs.size) (fun f _ s2 => okN f = true ∧ R s2) (fun _ _ _ => False) pos (dispS p w x.es1 x.es2 sA)) :
    Sem.wp (model p w) (Ctx.of c [topFrame q]) (denote table (.body x.body env)) (fun f _ s2 => f = .done .next ∧ R s2) (fun _ _ _ => False) pos s1 := by
  show Sem.wp (model p w) (Ctx.of c [topFrame q]) (blockStart x.body env >>= fun _ => ((execs x.body env).onRaise (leaving env)) >>= fun f => (pure (Fin.done f) : Sem Fin)) _ _ pos s1
  unfold Parts.tA at hA
  rw [Sem.wp_bind'] at hA ⊢
  refine Sem.wp_mono (model p w) (Ctx.of c [topFrame q]) _ (fun _ p1 s' h1 => ?_) (fun _ _ _ h => h) pos s1 hA
  rw [Sem.wp_bind', Sem.wp_onRaise]
  unfold Parts.body
  rw [execs_app, Sem.wp_bind']
  refine Sem.wp_mono (model p w) (Ctx.of c [topFrame q]) _ (fun f p2 s2 h2 => ?_) (fun _ _ _ h => h.elim) p1 s' h1
  obtain ⟨hf, rfl⟩ := h2
  have ef := okN_eq hf
  subst ef
  show Sem.wp (model p w) (Ctx.of c [topFrame q]) (execs (x.st :: x.B) env) _ _ p2 s2
  rw [execs_cons]
  unfold Parts.st
  rw [arm_exec_Assign, K.sw, K.ss]
  have hany : wpAny (model p w) aBody (eval (.Dict x.ks x.vs x.dpos) env) (fun v s3 => v = .ref s2.heap.objs.size ∧ s3 = dispS p w x.es1 x.es2 s2) (fun _ _ => False) s2 := by
    rw [arm_eval_Dict, K.ks, K.vs, pairs_eq]
    exact wpAny_bind (wpAny_standAt (disp_ok (by decide) K.l1 K.l2 K.l0 K.nd hy ⟨rfl, rfl⟩))
  have hw := hany (Ctx.of c [topFrame q])
  simp only [bind_assoc, pure_bind, Bool.false_eq_true, if_false]
  rw [Sem.wp_bind']
  show Sem.wp (model p w) (Ctx.of c [topFrame q]) (eval (.Dict x.ks x.vs x.dpos) env >>= _) _ _ x.apos s2
  rw [Sem.wp_bind']
  refine Sem.wp_mono (model p w) (Ctx.of c [topFrame q]) _ (fun v p3 s3 h3 => ?_) (fun _ _ _ h => h.elim) _ _ (hw x.apos hI)
  obtain ⟨rfl, rfl⟩ := h3
  have hb := hB p3
  unfold Parts.tB at hb
  rw [Sem.wp_bind'] at hb
  unfold assignStores
  simp only [bind_assoc, pure_bind]
  rw [Sem.wp_bind']
  refine Sem.wp_mono (model p w) (Ctx.of c [topFrame q]) _ (fun _ p4 s4 h4 => ?_) (fun _ _ _ h => h.elim) _ _ hb
  refine Sem.wp_mono (model p w) (Ctx.of c [topFrame q]) _ (fun f p5 s5 h5 => ?_) (fun _ _ _ h => h.elim) _ _ h4
  rw [Sem.wp_pure']
  exact ⟨by rw [okN_eq h5.1], h5.2⟩
end
end Hd

-- part H6
set_option Elab.async false
set_option linter.all false
set_option maxRecDepth 100000
set_option maxHeartbeats 2000000
namespace Hd
open PySem PySem.W PySem.Calls PyProof.Rows HandSHeadRun
open L2 (Key mixKind)
theorem halt_done {den : Code → Sem Fin} {p : Program} {w : World} {s s' : Shared} {t : Thread} {f : Flow} (h : step den p w s t = .halt (.done f) s') : s' = s ∧ through t = true := by
  refine ⟨step_halt_same den p w s s' t _ h, ?_⟩
  obtain ⟨heap, gens, drawn, toks, os⟩ := s
  obtain ⟨cur, code, pos, stack⟩ := t
  cases cur with
  | pure x =>
    cases x with
    | done g =>
      cases stack with
      | nil => rfl
      | cons fr r => cases fr <;> cases h
    | again c => cases h
  | raise e =>
    cases stack with
    | nil =>
      have h1 : finish (.uncaught e) ⟨heap, gens, drawn, toks, os⟩ = .halt (.done f) s' := h
      unfold finish at h1
      split at h1 <;> cases h1
    | cons fr r => cases fr <;> cases h
  | _ => simp only [step, finish] at h <;> (repeat' split at h) <;> simp_all
theorem run_through {den : Code → Sem Fin} {p : Program} {w : World} {f : Flow} {s' : Shared} : ∀ (n : Nat) (s : Shared) (t : Thread), runN den p w n s t = .halted (.done f) s' → ∃ k t', runN den p w k s t = .running s' t' ∧ through t' = true
  | 0, s, t, h => by cases h
  | n + 1, s, t, h => by
    simp only [runN] at h
    cases hs : step den p w s t with
    | go s2 t2 =>
      rw [hs] at h
      obtain ⟨k, t', e, ht⟩ := run_through n s2 t2 h
      exact ⟨k + 1, t', by simp only [runN, hs]; exact e, ht⟩
    | halt o s2 =>
      rw [hs] at h
      injection h with h1 h2
      subst h1 h2
      obtain ⟨e, ht⟩ := halt_done hs
      subst e
      exact ⟨0, t, rfl, ht⟩
section
variable {p : Program} {w : World} {s0 : Shared} {R : Shared → Prop}
theorem ran_of (hz : s0.asleep) (hw : Sem.wp (model p w) ⟨.builtin "claim.caller" {}, none, none, [], none⟩ (topStub p).cur (fun f _ s' => f = .done (.ret .none) ∧ R s') (fun _ _ _ => False) default s0) (hR : ∀ s, R s → s.gens = #[]) :
    ∃ s1, R s1 ∧ ∃ n t, schedN (denote table) p w n (.single s0 (topStub p)) = .running (.single s1 t) ∧ through t = true := by
  have h1 : ∃ n r s', (model p w).runN n s0 ⟨(topStub p).cur, .builtin "claim.caller" {}, default, []⟩ = .halted (outcomeOf r) s' ∧ (r = .ok (.ret .none) ∧ R s') := by
    refine (wp_iff_halts (M := model p w) (c := .builtin "claim.caller" {}) (topStub p).cur (fun r s' => r = .ok (.ret .none) ∧ R s') default s0).mp ?_
    refine Sem.wp_mono (model p w) _ _ (fun f p1 s1 h => ?_) (fun _ _ _ h => h.elim) _ _ hw
    obtain ⟨e, hr⟩ := h
    subst e
    exact ⟨⟨rfl, hr⟩, by rw [hR s1 hr]; simp [leftWithCleanup]⟩
  obtain ⟨n, r, s', hn, er, hr⟩ := h1
  subst er
  obtain ⟨s2, e2, ef, hc⟩ := runNI_real (denote table) p w hn rfl
  have es : s2 = s' := Shared.eq_of_forget_eq ef (hR s' hr)
  subst es
  have hne : ∀ k s3, runN (denote table) p w k s0 (topStub p) ≠ .halted (.unsupported "lifetime:generator-with-cleanup-left-suspended") s3 := by
    intro k s3 hk
    have a := runN_mono (denote table) p w n k s0 (topStub p) _ s2 e2
    have b := runN_mono (denote table) p w k n s0 (topStub p) _ s3 hk
    rw [Nat.add_comm, b] at a
    injection a with a1 _
    cases a1
  obtain ⟨k, t', ek, ht⟩ := run_through n s0 (topStub p) e2
  refine ⟨s2, hr, k, t', ?_, ht⟩
  rw [schedN_eq_runN (denote table) p w s0 (topStub p) hz ⟨hc, hne⟩ k, ek]
  rfl
/-- the top's first steps: its code and its frame -/
def tP (p : Program) : Sem (Value × Addr) := do
  let code ← moduleCode p.main
  let frame ← newBodyFrame code mainNs mainNs
  pure (code, frame)
def envP (p : Program) (x : Value × Addr) : Env := { scope := p.main.scope, locals := mainNs, globals := mainNs, cells := [], code := x.1, frame := some x.2 }
def okP (c : Addr) (f : Addr) (x : Value × Addr) : Bool := match x.1 with
  | .ref a => Nat.beq a c && Nat.beq x.2 f
  | _ => false
theorem okP_eq {c f : Addr} {x : Value × Addr} (h : okP c f x = true) : x = (.ref c, f) := by
  obtain ⟨v, b⟩ := x
  unfold okP at h
  cases v with
  | ref a =>
    obtain ⟨h1, h2⟩ := Bool.and_eq_true_iff.mp h
    have h3 : Nat.beq b f = true := h2
    rw [Nat.eq_of_beq_eq_true h1, Nat.eq_of_beq_eq_true h3]
  | _ => cases h
theorem wp_stub {x : Parts} {cA fA : Addr} {s1 : Shared} (hb : behindTheImports p = x.body) (K : x.Ok (envP p (.ref cA, fA)))
    (hP : Sem.wp (model p w) ⟨.builtin "claim.caller" {}, none, none, [], none⟩ (tP p) (fun a _ s2 => okP cA fA a = true ∧ s2 = s1) (fun _ _ _ => False) default s0)
    (hI : ∀ q, (Ctx.of (.body x.body (envP p (.ref cA, fA))) [topFrame q]).In aBody)
    (hA : ∀ q, ∃ sA, Sem.wp (model p w) (Ctx.of (.body x.body (envP p (.ref cA, fA))) [topFrame q]) (x.tA (envP p (.ref cA, fA))) (fun f _ s2 => okN f = true ∧ s2 = sA) (fun _ _ _ => False) q s1 ∧ sysModules < sA.heap.objs.size ∧
      ∀ pos, Sem.wp (model p w) (Ctx.of (.body x.body (envP p (.ref cA, fA))) [topFrame q]) (x.tB (envP p (.ref cA, fA)) sA.heap.objs.size) (fun f _ s2 => okN f = true ∧ R s2) (fun _ _ _ => False) pos (dispS p w x.es1 x.es2 sA)) :
    Sem.wp (model p w) ⟨.builtin "claim.caller" {}, none, none, [], none⟩ (topStub p).cur (fun f _ s' => f = .done (.ret .none) ∧ R s') (fun _ _ _ => False) default s0 := by
  have e0 : (topStub p).cur = tP p >>= fun y => run (.body (behindTheImports p) (envP p y)) >>= fun _ => (ret .none : Sem Fin) := by
    show (moduleCode p.main >>= fun code => newBodyFrame code mainNs mainNs >>= fun frame => _) = _
    unfold tP
    simp only [bind_assoc, pure_bind]
    rfl
  rw [e0, Sem.wp_bind', hb]
  refine Sem.wp_mono (model p w) _ _ (fun y q s2 h => ?_) (fun _ _ _ h => h) _ _ hP
  obtain ⟨hy, rfl⟩ := h
  have ey := okP_eq hy
  subst ey
  rw [Sem.wp_bind']
  obtain ⟨sA, h1, h2, h3⟩ := hA q
  have h4 := wp_top_body (R := R) K (hI q) h1 h2 h3
  have h5 := (Sem.wp_iff_runs (model p w) (Ctx.of (.body x.body (envP p (.ref cA, fA))) [topFrame q]) (denote table (.body x.body (envP p (.ref cA, fA)))) (fun r s' => r = .ok .next ∧ R s') q s2).mp
    (Sem.wp_mono (model p w) _ _ (fun f p1 s3 h => by
      obtain ⟨e, hr⟩ := h
      subst e
      exact ⟨rfl, hr⟩) (fun _ _ _ h => h.elim) _ _ h4)
  obtain ⟨r, s3, hr, er, hR⟩ := h5
  subst er
  unfold run
  rw [Sem.wp_call]
  exact ⟨_, s3, hr, rfl, hR⟩
end
end Hd

-- part H7
set_option Elab.async false
set_option linter.all false
set_option maxRecDepth 100000
set_option maxHeartbeats 2000000
noncomputable section
namespace Hd
open PySem PySem.W PySem.Calls PyProof.Rows HandSHeadRun
open L2 (Key mixKind)
/-! ### the whole chain, off the tree -/
def guardT (s : SharedT) : Option SharedT := match Nat.beq s.gens.size 0 with
  | true => (match Nat.blt sysModules s.n with
    | true => some s
    | false => none)
  | false => none
theorem guardT_ok {s s' : SharedT} (h : guardT s = some s') : s' = s ∧ s.abs.gens = #[] ∧ sysModules < s.abs.heap.objs.size := by
  unfold guardT at h
  cases e : Nat.beq s.gens.size 0 with
  | false =>
    rw [e] at h
    cases h
  | true =>
    rw [e] at h
    cases e2 : Nat.blt sysModules s.n with
    | false =>
      rw [e2] at h
      cases h
    | true =>
      rw [e2] at h
      cases h
      refine ⟨rfl, Array.eq_empty_of_size_eq_zero (Nat.eq_of_beq_eq_true e), ?_⟩
      rw [abs_n]
      exact Nat.le_of_ble_eq_true e2
abbrev callerC : Code := .builtin "claim.caller" {}
section
variable (st : SharedT → Thread → Option (SharedT × Thread)) (p : Program) (w : World) (x : Parts) (cA fA : Addr) (tp : Sem (Value × Addr)) (ta : Sem Flow) (tb : Addr → Sem Flow) (M1 M2 M3 : Nat)
def chainF (os : OsState) (q1 p2 : Pos) : Option SharedT := match putAll (boot_heap w.params).objs.toList .nil 0 with
  | some (t, n) => frNat n fun n0 =>
    thenT (goF st n0 (bootAnn w) M1 (bootT w os (t, n0)) ⟨tp >>= endK (okP cA fA), callerC, default, []⟩) fun s1 =>
    thenT (guardT s1) fun s1 =>
    thenT (goF st n0 (bootAnn w) M2 s1 ⟨ta >>= endK okN, .body x.body (envP p (.ref cA, fA)), q1, [topFrame q1]⟩) fun sA =>
    thenT (guardT sA) fun sA =>
    thenT (dispT p w x.es1 x.es2 sA) fun sD =>
    thenT (goF st n0 (bootAnn w) M3 sD ⟨tb sA.n >>= endK okN, .body x.body (envP p (.ref cA, fA)), p2, [topFrame q1]⟩) fun sB =>
    guardT sB
  | none => none
end
section
variable {p : Program} {w : World} {x : Parts} {cA fA : Addr} {M1 M2 M3 : Nat} {os : OsState}
theorem run_tree {n0 : Nat} {ann : Option Value} {m : Nat} {s s' : SharedT} {t : Thread} (h : goF (stepT (denote treeTable) p w) n0 ann m s t = some s') : topRun table p w n0 ann m s.abs t = some s'.abs := by
  rw [table_eq_tree]
  exact goF_ok h
/-- what the chain says of the top -/
theorem chain_ran {R : SharedT → Prop} (hb : behindTheImports p = x.body) (K : x.Ok (envP p (.ref cA, fA))) (hI : ∀ q, (Ctx.of (.body x.body (envP p (.ref cA, fA))) [topFrame q]).In aBody)
    (hz : (⟨boot_heap w.params, #[], boot_drawn, boot_toks, os⟩ : Shared).asleep)
    (h : ∀ q1 p2, ∃ sB, chainF (stepT (denote treeTable) p w) p w x cA fA (tP p) (x.tA (envP p (.ref cA, fA))) (x.tB (envP p (.ref cA, fA))) M1 M2 M3 os q1 p2 = some sB ∧ R sB) :
    ∃ sB : SharedT, R sB ∧ sB.abs.gens = #[] ∧ ∃ n t, schedN (denote table) p w n (.single ⟨boot_heap w.params, #[], boot_drawn, boot_toks, os⟩ (topStub p)) = .running (.single sB.abs t) ∧ through t = true := by
  have hpa : ∃ t n, putAll (boot_heap w.params).objs.toList .nil 0 = some (t, n) := by
    obtain ⟨sB, h1, _⟩ := h default default
    unfold chainF at h1
    cases e : putAll (boot_heap w.params).objs.toList .nil 0 with
    | none =>
      rw [e] at h1
      cases h1
    | some r => exact ⟨r.1, r.2, rfl⟩
  obtain ⟨t, n, e⟩ := hpa
  have eb : (bootT w os (t, n)).abs = ⟨boot_heap w.params, #[], boot_drawn, boot_toks, os⟩ := by
    show (⟨absHeap t n (boot_heap w.params).life, #[], boot_drawn, boot_toks, os⟩ : Shared) = _
    rw [putAll_heap e]
  have h2 : ∀ q1 p2, ∃ s1 sA sD sB, goF (stepT (denote treeTable) p w) n (bootAnn w) M1 (bootT w os (t, n)) ⟨tP p >>= endK (okP cA fA), callerC, default, []⟩ = some s1 ∧ s1.abs.gens = #[] ∧
      goF (stepT (denote treeTable) p w) n (bootAnn w) M2 s1 ⟨x.tA (envP p (.ref cA, fA)) >>= endK okN, .body x.body (envP p (.ref cA, fA)), q1, [topFrame q1]⟩ = some sA ∧ sA.abs.gens = #[] ∧ sysModules < sA.abs.heap.objs.size ∧
      dispT p w x.es1 x.es2 sA = some sD ∧ goF (stepT (denote treeTable) p w) n (bootAnn w) M3 sD ⟨x.tB (envP p (.ref cA, fA)) sA.n >>= endK okN, .body x.body (envP p (.ref cA, fA)), p2, [topFrame q1]⟩ = some sB ∧ sB.abs.gens = #[] ∧ R sB := by
    intro q1 p2
    obtain ⟨sB, h1, hR⟩ := h q1 p2
    unfold chainF at h1
    rw [e] at h1
    simp only [frNat_eq] at h1
    obtain ⟨s1, a1, h2⟩ := thenT_some h1
    obtain ⟨s1', a2, h3⟩ := thenT_some h2
    obtain ⟨e1, g1, _⟩ := guardT_ok a2
    subst e1
    obtain ⟨sA, a3, h4⟩ := thenT_some h3
    obtain ⟨sA', a4, h5⟩ := thenT_some h4
    obtain ⟨e2, g2, g3⟩ := guardT_ok a4
    subst e2
    obtain ⟨sD, a5, h6⟩ := thenT_some h5
    obtain ⟨sB', a6, h7⟩ := thenT_some h6
    obtain ⟨e3, g4, _⟩ := guardT_ok h7
    subst e3
    exact ⟨_, _, _, _, a1, g1, a3, g2, g3, a5, a6, g4, hR⟩
  obtain ⟨s1, _, _, _, a1, g1, _⟩ := h2 default default
  have hP := wp_of_run0 (run_tree a1) g1
  rw [eb] at hP
  have hw := wp_stub (R := fun s => ∃ sB : SharedT, s = sB.abs ∧ R sB ∧ sB.abs.gens = #[]) (p := p) (w := w) (x := x) (s1 := s1.abs) hb K hP hI fun q => by
    obtain ⟨s1', sA, sD, sB, b1, _, b3, b4, b5, b6, b7, b8, b9⟩ := h2 q default
    rw [a1] at b1
    cases b1
    refine ⟨sA.abs, wp_of_run (run_tree b3) b4, b5, fun pos => ?_⟩
    obtain ⟨s1', sA', sD', sB', c1, _, c3, c4, c5, c6, c7, c8, c9⟩ := h2 q pos
    rw [a1] at c1
    cases c1
    rw [b3] at c3
    cases c3
    rw [b6] at c6
    cases c6
    rw [abs_n, ← dispT_ok b6]
    exact Sem.wp_mono (model p w) _ _ (fun f p1 s2 hh => ⟨hh.1, sB', hh.2, c9, c8⟩) (fun _ _ _ hh => hh) _ _ (wp_of_run (run_tree c7) c8)
  obtain ⟨s1, ⟨sB, rfl, hR, hg⟩, n, t, hs, ht⟩ := ran_of hz hw (fun s ⟨sB, es, _, hg⟩ => by rw [es]; exact hg)
  exact ⟨sB, hR, hg, n, t, hs, ht⟩
end
end Hd
end

-- part H8
set_option Elab.async false
set_option linter.all false
set_option maxRecDepth 100000
set_option maxHeartbeats 2000000
noncomputable section
namespace Hd
open PySem PySem.W PySem.Calls PyProof.Rows HandSHeadRun
open L2 (Key mixKind)
theorem boot_size (P : Params) : (boot_heap P).objs.size = 11 := by kernel_rfl
/-- the boot's objects that the top must leave as they are -/
def keepL : List Nat := (List.range 11).filter fun b => !(b == mainNs || b == cStatics)
theorem keepL_all : ∀ b : Nat, b < 11 → b ≠ mainNs → b ≠ cStatics → b ∈ keepL := by decide +kernel
theorem boot_asleep (w : World) (os : OsState) : (⟨boot_heap w.params, #[], boot_drawn, boot_toks, os⟩ : Shared).asleep := ⟨by kernel_rfl, by kernel_rfl⟩
abbrev xtOf (q : Program) (s : Shared) : Bool := xlAt q [] s && recOk [] s
/-- the run's equation: the chain, and what is looked at behind it -/
def RunP (r : OpenSpec) (q : Program) (H : Hook) (ob : SharedT → H.α) (loose : List PySem.Str) (x : Parts) (cA fA : Addr) (tp : Sem (Value × Addr)) (ta : Sem Flow) (tb : Addr → Sem Flow) (M1 M2 M3 : Nat) (w : World) : Prop :=
  ∀ (os : OsState) (q1 p2 : Pos), (chainF (stepQ (denQ tabQ) r.prog w) r.prog w x cA fA tp ta tb M1 M2 M3 os q1 p2).map (fun s => (s.life, s.os, keepL.map (getT s), looksF r.prog (boot_heap w.params) s.abs, seenQ q loose (importedModules r.prog.main.body) (xtOf q) s.abs, ob s)) =
    some ((boot_heap w.params).life, os, keepL.map (boot_heap w.params).get?, true, openGood q loose, H.val w)
section
variable {r : OpenSpec} {q : Program} {H : Hook} {ob : SharedT → H.α} {loose : List PySem.Str} {x : Parts} {cA fA : Addr} {tp : Sem (Value × Addr)} {ta : Sem Flow} {tb : Addr → Sem Flow} {M1 M2 M3 : Nat}
theorem map_get {f g : Nat → Option Obj} : ∀ {l : List Nat}, l.map f = l.map g → ∀ b ∈ l, f b = g b
  | [], _, b, h => by cases h
  | a :: l, e, b, h => by
    have e1 : f a :: l.map f = g a :: l.map g := e
    injection e1 with e2 e3
    rcases List.mem_cons.mp h with rfl | h
    · exact e2
    · exact map_get e3 b h
theorem behindP (ho : ∀ s : SharedT, ob s = H.obs s.abs) (e : opening r.prog = plainProg r.prog.main.scope.names) (f : ∀ s, fenceModules? r.prog s = some s) (hb : behindTheImports r.prog = x.body) (K : x.Ok (envP r.prog (.ref cA, fA)))
    (hI : ∀ q, (Ctx.of (.body x.body (envP r.prog (.ref cA, fA))) [topFrame q]).In aBody) (etp : tp = tP r.prog) (eta : ta = x.tA (envP r.prog (.ref cA, fA))) (etb : tb = x.tB (envP r.prog (.ref cA, fA)))
    (run : ∀ w, RunP r q H ob loose x cA fA tp ta tb M1 M2 M3 w) (hch : chainsOk q = true) (w : World) :
    (∃ s, AfterRun (opening r.prog) w s) ∧ ∀ s, AfterRun (opening r.prog) w s → ∃ s0, fenceModules? r.prog s = some s0 ∧ s0.gens = #[] ∧ ∃ s1, TopRan r.prog w s0 s1 ∧ s1.asleep ∧ s1.gens = #[] ∧ s1.heap.isNs mainGlobals = true ∧
      Ground q loose [] (fun mg h => XL q [] mg h ∧ RecFacts [] h) w s1 (s1.heap.nsMap mainGlobals) (s1.heap.nsMap builtinsNs) s1.heap ∧ H.says w s1.heap := by
  obtain ⟨s0, a, a'⟩ := Option.map_eq_some_iff.mp (boot_open (N := 600) e rfl f w)
  obtain ⟨hp, gs, dr, tk, os⟩ := s0
  obtain ⟨rfl, rfl, rfl, rfl⟩ : hp = boot_heap w.params ∧ gs = Array.mk [] ∧ dr = boot_drawn ∧ tk = boot_toks := by simpa using a'
  rw [← table_eq_tree] at a
  obtain ⟨s, h4, h5⟩ := Option.bind_eq_some_iff.mp a
  have A := AfterImport.of_importEnds h4
  refine ⟨⟨s, A⟩, fun s' hs' => ?_⟩
  obtain rfl : s' = s := AfterImport.unique hs' A
  refine ⟨_, h5, rfl, ?_⟩
  have hz : (⟨boot_heap w.params, #[], boot_drawn, boot_toks, os⟩ : Shared).asleep := boot_asleep w os
  subst etp eta etb
  have hch2 : ∀ q1 p2, ∃ sB, chainF (stepT (denote treeTable) r.prog w) r.prog w x cA fA (tP r.prog) (x.tA (envP r.prog (.ref cA, fA))) (x.tB (envP r.prog (.ref cA, fA))) M1 M2 M3 os q1 p2 = some sB ∧
      ((sB.life, sB.os, keepL.map (getT sB), looksF r.prog (boot_heap w.params) sB.abs, seenQ q loose (importedModules r.prog.main.body) (xtOf q) sB.abs, ob sB) = ((boot_heap w.params).life, os, keepL.map (boot_heap w.params).get?, true, openGood q loose, H.val w)) := by
    intro q1 p2
    have z := run w os q1 p2
    rw [← tabQ_eq, ← denQ_eq, ← stepQ_eq] at z
    obtain ⟨sB, z1, z2⟩ := Option.map_eq_some_iff.mp z
    exact ⟨sB, z1, z2⟩
  obtain ⟨sB, hv, hg, hrun⟩ := chain_ran hb K hI hz hch2
  simp only [Prod.mk.injEq] at hv
  obtain ⟨v1, v2, v3, v4, v5, v6⟩ := hv
  rw [← seenQ_eq] at v5
  obtain ⟨G, g0, g1, g2, g3, g4, g5⟩ := ground_of_open (w := w) (XP := fun mg h => XL q [] mg h ∧ RecFacts [] h) (fun s z => ⟨xl_of s (Bool.and_eq_true_iff.mp z).1, recFacts_of (Bool.and_eq_true_iff.mp z).2⟩) hch v5
  have v4' : (staticsOk (importedModules r.prog.main.body) (boot_heap w.params) sB.abs.heap && namesBound r.prog sB.abs.heap && gensDone sB.abs && laidKept (boot_heap w.params) sB.abs.heap) = true := v4
  obtain ⟨w1, wd⟩ := Bool.and_eq_true_iff.mp v4'
  obtain ⟨w1, wc⟩ := Bool.and_eq_true_iff.mp w1
  obtain ⟨wa, wb⟩ := Bool.and_eq_true_iff.mp w1
  have hlife : sB.abs.heap.life = (boot_heap w.params).life := v1
  refine ⟨sB.abs, ⟨hrun, hlife, Shared.rest_eq v2, ?_, g2, statics_of_ok wa, g3, g4, g5, gens_of_done wc, names_of_bound wb, laid_of_kept wd⟩, Shared.asleep_of_life hlife hz, hg, g1, G, H.of w sB.abs ((ho sB).symm.trans v6)⟩
  intro b o hbo hno
  have hlt : b < 11 := by
    have := Heap.lt_size hbo
    rw [boot_size] at this
    exact this
  have hmem : b ∈ keepL := keepL_all b hlt (fun z => hno (.inl z)) (fun z => hno (.inr (.inl z)))
  have hh := map_get v3 b hmem
  rw [getT_eq] at hh
  rw [hh]
  exact hbo
end
end Hd
end

-- part H9
set_option Elab.async false
set_option linter.all false
set_option maxRecDepth 100000
set_option maxHeartbeats 2000000
noncomputable section
namespace Hd
open PySem PySem.W PySem.Calls PyProof.Rows HandSHeadRun
open L2 (Key mixKind)
section
variable {r : OpenSpec} {q : Program} {H : Hook} {ob : SharedT → H.α} {loose : List PySem.Str} {x : Parts} {cA fA : Addr} {tp : Sem (Value × Addr)} {ta : Sem Flow} {tb : Addr → Sem Flow} {M1 M2 M3 : Nat} {dr : DefRec} {kwd : List (PySem.Str × PySem.Expr)}
theorem holds_parts (ho : ∀ s : SharedT, ob s = H.obs s.abs) (e : opening r.prog = plainProg r.prog.main.scope.names) (f : ∀ s, fenceModules? r.prog s = some s) (hbd : behindTheImports r.prog = x.body) (KO : x.Ok (envP r.prog (.ref cA, fA)))
    (hI : ∀ q, (Ctx.of (.body x.body (envP r.prog (.ref cA, fA))) [topFrame q]).In aBody) (etp : tp = tP r.prog) (eta : ta = x.tA (envP r.prog (.ref cA, fA))) (etb : tb = x.tB (envP r.prog (.ref cA, fA)))
    (run : ∀ w, RunP r q H ob loose x cA fA tp ta tb M1 M2 M3 w)
    (hdef : defOf q r.name = some (dr, kwd)) (hp : r.prog.theDef r.name = some (dr.params, dr.body, dr.scope)) (hk : kwWritten? dr.params.kwonlyargs dr.params.kw_defaults = some kwd)
    (hsh : ∀ as, r.pre as = true → WShape.hasAll [] as (r.args.map Codec.shape) = true) (k1 : r.wellSaid = true) (ok : (chainsOk q && opensWell r.prog) = true) (hbare : r.prog.bare)
    (hw : ∃ args, r.pre args = true ∧ WData.layableAll args = true)
    (walk : WalkOS q loose (XL q []) H.says r dr kwd fun g us => PySem.call g us) : r.Holds := by
  obtain ⟨hch, hop⟩ := Bool.and_eq_true_iff.mp ok
  have bh := behindP ho e f hbd KO hI etp eta etb run hch
  refine ⟨k1, ⟨hbare, hop, rfl⟩, hw, fun w => ⟨(bh w).1, fun sm hsm => ?_⟩⟩
  obtain ⟨sf, hfe, hgf, st, hT, hz, hgn, hns, GG, hsay⟩ := (bh w).2 sm hsm
  have G0 : Ground q loose [] (XL q []) w st (st.heap.nsMap mainGlobals) (st.heap.nsMap builtinsNs) st.heap :=
    ⟨GG.T, GG.B, GG.D, GG.TE, GG.TD, GG.W, GG.X.1, GG.cls, GG.has, GG.apart,
      GG.once, GG.K⟩
  have RF := GG.X.2
  have hpin : ∀ n ∈ [r.name], isTheDefsW r.prog st.heap n := fun n hn => by
    have en : n = r.name := by simpa using hn
    rw [en]
    exact pinned_of_view hns G0 hdef hp hk
  refine ⟨sf, hfe, hgf, st, hT, hpin, RF.1, RF.2.1, ?_⟩
  have G := RF.ground G0
  refine ClaimW.callFrom_of_specG (c := r.claim) hz hgn fun args hpre hlay ord hord => ?_
  have hsome := layAllW_isSome (P := w.params) (ord := ord) G.has args (r.args.map Codec.shape) st (hsh _ hpre)
  obtain ⟨⟨us, s1⟩, hlaid⟩ := Option.isSome_iff_exists.mp hsome
  have kps := layAllW_keeps _ _ _ hlaid
  have hrest := layAllW_rest _ _ _ hlaid
  obtain ⟨as, hrd, hin, hold⟩ := reads_layAllW hord _ _ _ hlaid hlay s1.heap (fun _ _ z => z)
  have L : Laid r.claim.records w st s1 args us as :=
    ⟨⟨ord, hord, hlaid⟩, hrd, hin, hold, kps, hrest.1.trans hgn,
      hrest.2.2.1⟩
  have G1 := G.keeps XL.keeps kps
  obtain ⟨a, o, pm, cd, doc, dV, kV, q1, q2, q3, q4, q5⟩ := G1.fn hdef
  have hmg := defOf_name hdef ▸ q1
  have hc := walk w st s1 _ _ G1 (H.keeps w _ _ hsay kps) a o pm cd doc dV kV q2 q3 q4 q5 hmg L.gens args us as hpre hlay L.reads L.well (L.low G.low)
  refine ⟨us, s1, hlaid, ?_⟩
  refine wpAny_bind (wpAny_nsGet G1.T.g ?_)
  rw [q1]
  refine wpAny_bind (wpAny_mono hc (fun v s2 g => wpAny_pure ?_) fun ev s2 g => ?_)
  · have z := g.laid (c := r.claim) rfl rfl (fun _ _ => rfl) L
    exact ⟨_, rfl, z.1, z.2.1, z.2.2, fun hq => ⟨namesKept_of hT hns _ kps g.2.1.old, noTable rfl hq⟩⟩
  · have z := g.laid (c := r.claim) rfl rfl (fun _ _ => rfl) L
    exact ⟨z.1, z.2.1, z.2.2, fun hq => ⟨namesKept_of hT hns _ kps g.2.1.old, noTable rfl hq⟩⟩
end
end Hd
end

-- part R2
set_option Elab.async false
set_option linter.all false
set_option maxRecDepth 100000
set_option maxHeartbeats 0
noncomputable section
namespace Bl
open PySem PySem.W PySem.Calls PyProof.Rows HandSHeadRun Hd
abbrev R0 : OpenSpec := PySem.Challenge.rw_buildlogs_s01_answers
abbrev P0 : Program := PySem.Challenge.pw_buildlogs_s01_answers
def entOf : Option Expr → Expr → Ent
  | some (.Tuple [.Constant (.str a) i1 p1, .Constant (.str b) i2 p2] x p3), .Constant (.str v) i3 p4 => ⟨a, b, v, i1, i2, i3, x, p1, p2, p3, p4⟩
  | _, _ => ⟨"", "", "", 0, 0, 0, 0, default, default, default, default⟩
def entsOf : List (Option Expr) → List Expr → List Ent
  | k :: ks, v :: vs => entOf k v :: entsOf ks vs
  | _, _ => []
def stS0 : Stmt := P0.main.body.getD 100 (.Pass ⟨0, 0, 0, 0⟩)
def xP : Parts := match stS0 with
  | .Assign tg (.Dict ks vs dpos) apos => ⟨P0.main.body.take 100, P0.main.body.drop 101, tg, ks, vs, dpos, apos, (entsOf ks vs).take 17, (entsOf ks vs).drop 17⟩
  | _ => ⟨[], [], [], [], [], default, default, [], []⟩
abbrev env0 : Env := envP P0 (.ref 13, 14)
theorem body_eq : behindTheImports P0 = xP.body := by kernel_rfl
theorem xP_ks : xP.ks = (xP.es1 ++ xP.es2).map fun e => some e.keyE := by kernel_rfl
theorem xP_vs : xP.vs = (xP.es1 ++ xP.es2).map Ent.valE := by kernel_rfl
theorem xP_ok : xP.Ok env0 where
  ks := xP_ks
  vs := xP_vs
  sw := rfl
  ss := rfl
  l1 := by kernel_rfl
  l2 := by decide +kernel
  l0 := by
    intro h
    have e : xP.es2.length = 14 := by kernel_rfl
    rw [h] at e
    cases e
  nd := by decide +kernel
theorem in_body : ∀ q, (Ctx.of (.body xP.body env0) [topFrame q]).In aBody := by
  intro q
  refine ⟨rfl, Nat.le_of_ble_eq_true ?_, fun l h => ?_, fun l h => ?_, Nat.le_of_ble_eq_true ?_⟩
  · kernel_rfl
  · cases h
  · cases h
  · kernel_rfl
/-! the parts, by the library's twins -/
def tpQ : Sem (Value × Addr) := PySem.W.Fast.tw17154629097778926822 P0.main P0.main.file none >>= fun code => PySem.W.Fast.tw12822647523644345616 code mainNs mainNs builtinsNs >>= fun frame => pure (code, frame)
def taQ : Sem Flow := PySem.W.Fast.tw1066825118222455980 xP.body env0 >>= fun _ => PySem.W.Fast.tw12563942051412417395 xP.A env0
def tbQ (d : Addr) : Sem Flow := assignAll (.ref d) ((PySem.W.Fast.tw15628205474173192105 xP.tg env0).map (·.2)) >>= fun _ => PySem.W.Fast.tw12563942051412417395 xP.B env0
theorem etp : tpQ = tP P0 := by
  unfold tpQ tP
  rw [← PySem.W.Fast.te17154629097778926822, ← PySem.W.Fast.te12822647523644345616]
theorem eta : taQ = xP.tA env0 := by
  unfold taQ Parts.tA
  rw [← PySem.W.Fast.te1066825118222455980, ← PySem.W.Fast.te12563942051412417395]
theorem etb : tbQ = xP.tB env0 := by
  funext d
  unfold tbQ Parts.tB
  rw [← PySem.W.Fast.te15628205474173192105, ← PySem.W.Fast.te12563942051412417395]
abbrev q0 : Program := view P0 [134]
def loose1 : List PySem.Str := ["SAME_ACTION", "FILE_TWICE", "MADE_BEFORE", "OTHER_NUMBER", "MADE_LATER", "WRONG_TOTAL", "outputs_of", "numbers_of", "record_fault", "first_fault", "is_sound", "find_file", "find_maker", "sources_among", "count_sources", "sources_below", "makers_of_inputs", "is_ready", "sorted_records", "File", "Record", "Log", "find_record", "ONLY_FIRST", "ONLY_SECOND", "DEFINED", "INPUT", "OUTPUT", "EXIT", "Difference"]
def loose2 : List PySem.Str := ["names_of", "changed_names", "is_defined_alike", "compare_records", "compare_with_second", "find_differences", "difference_named", "unlike_maker", "is_root", "root_names", "next_cause", "chain_names", "SLOT", "NONE", "LONG", "FORM", "LIMIT", "FAULTY", "NAME", "ABSENT", "ALIKE", "KEPT_WORDS", "LONGEST_NAME", "LINE_FEED", "codes", "is_digit", "is_letter", "begins_word", "continues_word", "word_kind"]
def loose3 : List PySem.Str := ["is_name", "counted_lines", "UNLIKE", "FIRST", "ROOTS", "WHY", "WAYS", "answer_unlike", "answer_first", "answer_why", "answer_steady", "answer_of_pair", "word_row", "file_row", "record_rows", "plain_text", "SIGNS", "CARRIAGE_RETURN", "Token", "is_blank", "skip_blanks", "word_end", "number_end", "token_end", "token_kind", "scan", "LONGEST_TEXT", "LARGEST_NUMBER", "MOST_RECORDS", "MOST_ROWS"]
def loose4 : List PySem.Str := ["STEPS", "Reading", "misplaced", "number_of", "fill", "build", "record_above_limits", "above_limits", "read_log", "READ", "WHERE", "PLAIN", "FAULT", "STATS", "MADE", "SORTED", "DROP", "NUMBERS", "HAS_TEXT", "is_slot", "logs_refusal", "file_refusal", "answer_read", "answer_where", "answer_plain", "answer_stats", "answer_made", "answer_rests", "answer_of_file", "answer_sorted"]
def loose5 : List PySem.Str := ["answer_drop", "answer_of_log", "answer"]
def loose0 : List PySem.Str := loose1 ++ (loose2 ++ (loose3 ++ (loose4 ++ (loose5))))
/-! ### the program's defs, by their places -/
def topS (i : Nat) : Stmt := P0.main.body.getD i (.Pass ⟨0, 0, 0, 0⟩)
abbrev s_outputs_of : Stmt := topS 7
abbrev s_numbers_of : Stmt := topS 8
abbrev s_record_fault : Stmt := topS 9
abbrev s_first_fault : Stmt := topS 10
abbrev s_is_sound : Stmt := topS 11
abbrev s_find_file : Stmt := topS 13
abbrev s_find_maker : Stmt := topS 14
abbrev s_sources_among : Stmt := topS 15
abbrev s_count_sources : Stmt := topS 16
abbrev s_sources_below : Stmt := topS 17
abbrev s_makers_of_inputs : Stmt := topS 19
abbrev s_is_ready : Stmt := topS 20
abbrev s_sorted_records : Stmt := topS 21
abbrev s_find_record : Stmt := topS 26
abbrev s_names_of : Stmt := topS 35
abbrev s_changed_names : Stmt := topS 36
abbrev s_is_defined_alike : Stmt := topS 37
abbrev s_compare_records : Stmt := topS 38
abbrev s_compare_with_second : Stmt := topS 39
abbrev s_find_differences : Stmt := topS 40
abbrev s_difference_named : Stmt := topS 41
abbrev s_unlike_maker : Stmt := topS 42
abbrev s_is_root : Stmt := topS 43
abbrev s_root_names : Stmt := topS 44
abbrev s_next_cause : Stmt := topS 45
abbrev s_chain_names : Stmt := topS 46
abbrev s_codes : Stmt := topS 60
abbrev s_is_digit : Stmt := topS 61
abbrev s_is_letter : Stmt := topS 62
abbrev s_begins_word : Stmt := topS 63
abbrev s_continues_word : Stmt := topS 64
abbrev s_word_kind : Stmt := topS 65
abbrev s_is_name : Stmt := topS 66
abbrev s_counted_lines : Stmt := topS 67
abbrev s_answer_unlike : Stmt := topS 74
abbrev s_answer_first : Stmt := topS 75
abbrev s_answer_why : Stmt := topS 76
abbrev s_answer_steady : Stmt := topS 77
abbrev s_answer_of_pair : Stmt := topS 78
abbrev s_word_row : Stmt := topS 80
abbrev s_file_row : Stmt := topS 81
abbrev s_record_rows : Stmt := topS 82
abbrev s_plain_text : Stmt := topS 83
abbrev s_is_blank : Stmt := topS 88
abbrev s_skip_blanks : Stmt := topS 89
abbrev s_word_end : Stmt := topS 90
abbrev s_number_end : Stmt := topS 91
abbrev s_token_end : Stmt := topS 92
abbrev s_token_kind : Stmt := topS 93
abbrev s_scan : Stmt := topS 94
abbrev s_misplaced : Stmt := topS 102
abbrev s_number_of : Stmt := topS 103
abbrev s_fill : Stmt := topS 104
abbrev s_build : Stmt := topS 105
abbrev s_record_above_limits : Stmt := topS 106
abbrev s_above_limits : Stmt := topS 107
abbrev s_read_log : Stmt := topS 108
abbrev s_is_slot : Stmt := topS 120
abbrev s_logs_refusal : Stmt := topS 121
abbrev s_file_refusal : Stmt := topS 122
abbrev s_answer_read : Stmt := topS 123
abbrev s_answer_where : Stmt := topS 124
abbrev s_answer_plain : Stmt := topS 125
abbrev s_answer_stats : Stmt := topS 126
abbrev s_answer_made : Stmt := topS 127
abbrev s_answer_rests : Stmt := topS 128
abbrev s_answer_of_file : Stmt := topS 129
abbrev s_answer_sorted : Stmt := topS 130
abbrev s_answer_drop : Stmt := topS 131
abbrev s_answer_of_log : Stmt := topS 132
abbrev s_answer : Stmt := topS 133
abbrev s_answers : Stmt := topS 134
abbrev s_File_init : Stmt := L2.inClass (topS 23) 0
abbrev s_Record_init : Stmt := L2.inClass (topS 24) 0
abbrev s_Log_init : Stmt := L2.inClass (topS 25) 0
abbrev s_Difference_init : Stmt := L2.inClass (topS 34) 0
abbrev s_Token_init : Stmt := L2.inClass (topS 87) 0
abbrev s_Reading_init : Stmt := L2.inClass (topS 101) 0
def dD (x : PySem.Str) (st : Stmt) : He.DefD := ⟨(x, none), x, x, L2.defArgs st, L2.defBody st, L2.defScope st, [], []⟩
def dM (c x q : PySem.Str) (st : Stmt) : He.DefD := ⟨(c, some x), x, q, L2.defArgs st, L2.defBody st, L2.defScope st, [], []⟩
def fn1 : List He.DefD := [dD "outputs_of" s_outputs_of, dD "numbers_of" s_numbers_of, dD "record_fault" s_record_fault, dD "first_fault" s_first_fault, dD "is_sound" s_is_sound, dD "find_file" s_find_file, dD "find_maker" s_find_maker, dD "sources_among" s_sources_among, dD "count_sources" s_count_sources, dD "sources_below" s_sources_below, dD "makers_of_inputs" s_makers_of_inputs, dD "is_ready" s_is_ready, dD "sorted_records" s_sorted_records, dD "find_record" s_find_record, dD "names_of" s_names_of, dD "changed_names" s_changed_names, dD "is_defined_alike" s_is_defined_alike, dD "compare_records" s_compare_records, dD "compare_with_second" s_compare_with_second, dD "find_differences" s_find_differences, dD "difference_named" s_difference_named, dD "unlike_maker" s_unlike_maker, dD "is_root" s_is_root, dD "root_names" s_root_names, dD "next_cause" s_next_cause, dD "chain_names" s_chain_names, dD "codes" s_codes, dD "is_digit" s_is_digit, dD "is_letter" s_is_letter, dD "begins_word" s_begins_word]
def fn2 : List He.DefD := [dD "continues_word" s_continues_word, dD "word_kind" s_word_kind, dD "is_name" s_is_name, dD "counted_lines" s_counted_lines, dD "answer_unlike" s_answer_unlike, dD "answer_first" s_answer_first, dD "answer_why" s_answer_why, dD "answer_steady" s_answer_steady, dD "answer_of_pair" s_answer_of_pair, dD "word_row" s_word_row, dD "file_row" s_file_row, dD "record_rows" s_record_rows, dD "plain_text" s_plain_text, dD "is_blank" s_is_blank, dD "skip_blanks" s_skip_blanks, dD "word_end" s_word_end, dD "number_end" s_number_end, dD "token_end" s_token_end, dD "token_kind" s_token_kind, dD "scan" s_scan, dD "misplaced" s_misplaced, dD "number_of" s_number_of, dD "fill" s_fill, dD "build" s_build, dD "record_above_limits" s_record_above_limits, dD "above_limits" s_above_limits, dD "read_log" s_read_log, dD "is_slot" s_is_slot, dD "logs_refusal" s_logs_refusal, dD "file_refusal" s_file_refusal]
def fn3 : List He.DefD := [dD "answer_read" s_answer_read, dD "answer_where" s_answer_where, dD "answer_plain" s_answer_plain, dD "answer_stats" s_answer_stats, dD "answer_made" s_answer_made, dD "answer_rests" s_answer_rests, dD "answer_of_file" s_answer_of_file, dD "answer_sorted" s_answer_sorted, dD "answer_drop" s_answer_drop, dD "answer_of_log" s_answer_of_log, dD "answer" s_answer, dD "answers" s_answers, dM "File" "__init__" "File.__init__" s_File_init, dM "Record" "__init__" "Record.__init__" s_Record_init, dM "Log" "__init__" "Log.__init__" s_Log_init, dM "Difference" "__init__" "Difference.__init__" s_Difference_init, dM "Token" "__init__" "Token.__init__" s_Token_init, dM "Reading" "__init__" "Reading.__init__" s_Reading_init]
def fn : List He.DefD := fn1 ++ (fn2 ++ (fn3))
def fa1 : List He.Fa := [.glo "outputs_of", .glo "numbers_of", .glo "record_fault", .glo "first_fault", .glo "is_sound", .glo "find_file", .glo "find_maker", .glo "sources_among", .glo "count_sources", .glo "sources_below", .glo "makers_of_inputs", .glo "is_ready", .glo "sorted_records", .glo "find_record", .glo "names_of", .glo "changed_names", .glo "is_defined_alike", .glo "compare_records", .glo "compare_with_second", .glo "find_differences", .glo "difference_named", .glo "unlike_maker", .glo "is_root", .glo "root_names", .glo "next_cause", .glo "chain_names", .glo "codes", .glo "is_digit", .glo "is_letter", .glo "begins_word"]
def fa2 : List He.Fa := [.glo "continues_word", .glo "word_kind", .glo "is_name", .glo "counted_lines", .glo "answer_unlike", .glo "answer_first", .glo "answer_why", .glo "answer_steady", .glo "answer_of_pair", .glo "word_row", .glo "file_row", .glo "record_rows", .glo "plain_text", .glo "is_blank", .glo "skip_blanks", .glo "word_end", .glo "number_end", .glo "token_end", .glo "token_kind", .glo "scan", .glo "misplaced", .glo "number_of", .glo "fill", .glo "build", .glo "record_above_limits", .glo "above_limits", .glo "read_log", .glo "is_slot", .glo "logs_refusal", .glo "file_refusal"]
def fa3 : List He.Fa := [.glo "answer_read", .glo "answer_where", .glo "answer_plain", .glo "answer_stats", .glo "answer_made", .glo "answer_rests", .glo "answer_of_file", .glo "answer_sorted", .glo "answer_drop", .glo "answer_of_log", .glo "answer", .glo "answers", .free "all", .free "any", .free "len", .free "list", .free "max", .free "min", .free "ord", .free "range", .free "set", .free "sorted", .free "str", .free "tuple", .int "SAME_ACTION" (1), .int "FILE_TWICE" (2), .int "MADE_BEFORE" (3), .int "OTHER_NUMBER" (4), .int "MADE_LATER" (5), .int "WRONG_TOTAL" (6)]
def fa4 : List He.Fa := [.int "ONLY_FIRST" (1), .int "ONLY_SECOND" (2), .int "DEFINED" (3), .int "INPUT" (4), .int "OUTPUT" (5), .int "EXIT" (6), .int "SLOT" (-1), .int "NONE" (-2), .int "LONG" (-3), .int "FORM" (-4), .int "LIMIT" (-5), .int "FAULTY" (-6), .int "NAME" (-7), .int "ABSENT" (-8), .int "ALIKE" (-9), .glo "KEPT_WORDS", .int "LONGEST_NAME" (32), .int "LINE_FEED" (10), .int "UNLIKE" (7), .int "FIRST" (8), .int "ROOTS" (9), .int "WHY" (10), .glo "WAYS", .glo "SIGNS", .int "CARRIAGE_RETURN" (13), .int "LONGEST_TEXT" (4096), .int "LARGEST_NUMBER" (1000000000), .int "MOST_RECORDS" (32), .int "MOST_ROWS" (8), .glo "STEPS"]
def fa5 : List He.Fa := [.int "READ" (0), .int "WHERE" (1), .int "PLAIN" (2), .int "FAULT" (3), .int "STATS" (4), .int "MADE" (5), .int "SORTED" (12), .int "DROP" (13), .glo "NUMBERS", .glo "HAS_TEXT", .glo "File", .cls "File", .mkr "File", .noat "File" "name", .noat "File" "number", .glo "Record", .cls "Record", .mkr "Record", .noat "Record" "way", .noat "Record" "name", .noat "Record" "tool", .noat "Record" "arguments", .noat "Record" "inputs", .noat "Record" "outputs", .noat "Record" "status", .glo "Log", .cls "Log", .mkr "Log", .noat "Log" "records", .noat "Log" "total"]
def fa6 : List He.Fa := [.glo "Difference", .cls "Difference", .mkr "Difference", .noat "Difference" "name", .noat "Difference" "way", .noat "Difference" "changed", .glo "Token", .cls "Token", .mkr "Token", .noat "Token" "kind", .noat "Token" "place", .noat "Token" "spelled", .glo "Reading", .cls "Reading", .mkr "Reading", .noat "Reading" "refusal", .noat "Reading" "place", .noat "Reading" "log"]
def fa : List He.Fa := fa1 ++ (fa2 ++ (fa3 ++ (fa4 ++ (fa5 ++ (fa6)))))
def tups : List (PySem.Str × List He.Dv) := [("KEPT_WORDS", [.str "run", .str "kept", .str "end", .str "tool", .str "arg", .str "in", .str "out", .str "exit"]), ("WAYS", [.str "", .str "only first", .str "only second", .str "defined", .str "input", .str "output", .str "exit"]), ("SIGNS", [.str ";", .str "{", .str "}"]), ("NUMBERS", [.int (1), .int (0), .int (1), .int (1), .int (1), .int (1), .int (1), .int (2), .int (2), .int (2), .int (2), .int (2), .int (1), .int (1)]), ("HAS_TEXT", [.bl true, .bl true, .bl false, .bl false, .bl false, .bl true, .bl true, .bl false, .bl false, .bl false, .bl true, .bl false, .bl false, .bl true])]

/-! the addresses that are looked at -/
def asL1 : List Addr := [3, 6, 4, 21, 28, 33, 40, 47, 54, 59, 64, 71, 78, 83, 88, 93, 110, 131, 152, 163, 180, 189, 194, 201, 208, 215, 220, 227, 234, 239, 244, 251, 258, 259, 264, 271, 278, 285, 292, 299, 304, 311, 312, 319, 326, 333, 338, 345, 352, 359, 366, 373, 374, 391, 402, 409, 416, 423, 428, 435, 442, 443, 492, 503, 510, 517, 524, 529, 534, 541, 542, 543, 550, 555, 562, 569, 576, 583, 588, 595, 602, 609, 616, 621, 628, 635, 642, 0, 20, 27, 32, 39, 46, 53, 58, 63, 70, 77, 82, 87]
def asL2 : List Addr := [92, 109, 130, 151, 162, 179, 188, 193, 200, 207, 214, 219, 226, 233, 238, 243, 250, 257, 263, 270, 277, 284, 291, 298, 303, 310, 318, 325, 332, 337, 344, 351, 358, 365, 372, 390, 401, 408, 415, 422, 427, 434, 441, 491, 502, 509, 516, 523, 528, 533, 540, 549, 554, 561, 568, 575, 582, 587, 594, 601, 608, 615, 620, 627, 634, 641, 15, 16, 17, 18, 19, 22, 23, 24, 25, 26, 29, 30, 31, 34, 35, 36, 37, 38, 41, 42, 43, 44, 45, 48, 49, 50, 51, 52, 55, 56, 57, 60, 61, 62]
def asL3 : List Addr := [65, 66, 67, 68, 69, 72, 73, 74, 75, 76, 79, 80, 81, 84, 85, 86, 89, 90, 91, 107, 108, 111, 112, 128, 129, 132, 133, 149, 150, 153, 154, 157, 158, 159, 160, 161, 177, 178, 181, 182, 185, 186, 187, 190, 191, 192, 195, 196, 197, 198, 199, 202, 203, 204, 205, 206, 209, 210, 211, 212, 213, 216, 217, 218, 221, 222, 223, 224, 225, 228, 229, 230, 231, 232, 235, 236, 237, 240, 241, 242, 245, 246, 247, 248, 249, 252, 253, 254, 255, 256, 260, 261, 262, 265, 266, 267, 268, 269, 272, 273]
def asL4 : List Addr := [274, 275, 276, 279, 280, 281, 282, 283, 286, 287, 288, 289, 290, 293, 294, 295, 296, 297, 300, 301, 302, 305, 306, 307, 308, 309, 313, 314, 315, 316, 317, 320, 321, 322, 323, 324, 327, 328, 329, 330, 331, 334, 335, 336, 339, 340, 341, 342, 343, 346, 347, 348, 349, 350, 353, 354, 355, 356, 357, 360, 361, 362, 363, 364, 367, 368, 369, 370, 371, 388, 389, 392, 393, 396, 397, 398, 399, 400, 403, 404, 405, 406, 407, 410, 411, 412, 413, 414, 417, 418, 419, 420, 421, 424, 425, 426, 429, 430, 431, 432]
def asL5 : List Addr := [433, 436, 437, 438, 439, 440, 489, 490, 493, 494, 497, 498, 499, 500, 501, 504, 505, 506, 507, 508, 511, 512, 513, 514, 515, 518, 519, 520, 521, 522, 525, 526, 527, 530, 531, 532, 535, 536, 537, 538, 539, 544, 545, 546, 547, 548, 551, 552, 553, 556, 557, 558, 559, 560, 563, 564, 565, 566, 567, 570, 571, 572, 573, 574, 577, 578, 579, 580, 581, 584, 585, 586, 589, 590, 591, 592, 593, 596, 597, 598, 599, 600, 603, 604, 605, 606, 607, 610, 611, 612, 613, 614, 617, 618, 619, 622, 623, 624, 625, 626]
def asL6 : List Addr := [629, 630, 631, 632, 633, 636, 637, 638, 639, 640, 106, 127, 148, 176, 387, 488, 101, 102, 103, 104, 105, 122, 123, 124, 125, 126, 143, 144, 145, 146, 147, 171, 172, 173, 174, 175, 382, 383, 384, 385, 386, 483, 484, 485, 486, 487, 444, 445, 446, 447, 448, 449, 450, 451, 452, 453, 454, 455, 456, 457, 458, 459, 460, 462, 463, 464, 465, 466, 467, 468, 469, 470, 471, 472, 473, 474, 475]
def asL : List Addr := asL1 ++ (asL2 ++ (asL3 ++ (asL4 ++ (asL5 ++ (asL6)))))
def fragOf (g : Addr → Option Obj) : PySem.W.Frag := He.frT g asL
def strOf : Value → Option PySem.Str
  | .str x _ => some x
  | _ => none
def itemsOf (K : PySem.W.Frag) : Value → Option (List (Option PySem.Str))
  | .ref a => (match K.lookup a with
    | some ⟨.type c, _, .seq its _, _⟩ => (match decide (c = "tuple") with
      | true => some (its.toList.map strOf)
      | false => none)
    | _ => none)
  | _ => none
abbrev StepsO : Type := Option (List (Int × Option (List (Option PySem.Str)) × Option PySem.Str))
def stepsObs (K : PySem.W.Frag) : StepsO := match K.lookup (He.ga K "STEPS") with
  | some ⟨.type c, none, .dict es _, sl⟩ => (match decide (c = "dict") && (sl.isEmpty && !(He.ga K "STEPS" == sysModules)) with
    | true => some (es.toList.map fun e => (e.hash, itemsOf K e.key, strOf e.val))
    | false => none)
  | _ => none
def ents : List Ent := xP.es1 ++ xP.es2
def stepsVal (w : World) : StepsO := some (ents.map fun e => (hsh P0 w e.key, some [some e.a, some e.b], some e.v))
abbrev AlB : Type := He.AlD × Bool × StepsO
def obsB (K : PySem.W.Frag) : AlB := (He.obsD fa fn K, tups.all (fun t => He.tupB K t.1 t.2), stepsObs K)
def valB (w : World) : AlB := (He.valD fn, true, stepsVal w)
/-- the def whose body holds a lambda: its code object's table -/
def tfB : List He.Defn := [("sorted_records", none)]
structure TabF (h : Heap) (K : PySem.W.Frag) : Prop where
  hd : ∀ p ∈ tfB, PySem.W.codeHdIn K (He.cT K p).1 (He.cT K p).2 = true
  out : ∀ p ∈ tfB, K.lookup (He.cT K p).2 = none
  empty : ∀ p ∈ tfB, h.get? (He.cT K p).2 = some { cls := .none, data := .fields #[] }
theorem tabF_of {h : Heap} {as : List Addr} (e : He.tabsB h.get? tfB (He.frT h.get? as) = true) : TabF h (He.frT h.get? as) := by
  have key : ∀ p ∈ tfB, PySem.W.codeHdIn (He.frT h.get? as) (He.cT (He.frT h.get? as) p).1 (He.cT (He.frT h.get? as) p).2 = true ∧ ∃ o, h.get? (He.cT (He.frT h.get? as) p).2 = some o ∧ He.emptyTab o = true := fun p hp => by
    obtain ⟨h3, h4⟩ := He.ba (List.all_eq_true.mp e p hp)
    refine ⟨h3, ?_⟩
    cases q : h.get? (He.cT (He.frT h.get? as) p).2 with
    | none =>
      rw [q] at h4
      cases h4
    | some o =>
      rw [q] at h4
      exact ⟨o, rfl, h4⟩
  exact ⟨fun p hp => (key p hp).1, fun p hp => by
    obtain ⟨_, o, q, z⟩ := key p hp
    exact He.frT_none q z, fun p hp => by
    obtain ⟨_, o, q, z⟩ := key p hp
    rw [q, He.emptyTab_eq z]⟩
def hookB : PySem.W.Hook where
  α := AlB × Bool
  obs := fun s => (obsB (fragOf s.heap.get?), He.tabsB s.heap.get? tfB (fragOf s.heap.get?))
  val := fun w => (valB w, true)
  says := fun w h => ∃ K : PySem.W.Frag, K.In h ∧ obsB K = valB w ∧ TabF h K
  of := fun _ _ e => ⟨_, He.frT_in, congrArg (fun z : AlB × Bool => z.1) e, tabF_of (congrArg (fun z : AlB × Bool => z.2) e)⟩
  keeps := fun _ _ _ ⟨K, hK, c, t⟩ k => ⟨K, PySem.W.Frag.In.keeps hK k, c, t.hd, t.out, fun p hp => k _ _ (t.empty p hp)⟩
def obT (s : SharedT) : AlB × Bool := (obsB (fragOf (getT s)), He.tabsB (getT s) tfB (fragOf (getT s)))
theorem obT_eq (s : SharedT) : obT s = hookB.obs s.abs := by
  have e : getT s = s.abs.heap.get? := funext (getT_eq s)
  unfold obT
  rw [e]
  rfl
section
variable {r : OpenSpec} {q : Program} {H : Hook} {ob : SharedT → H.α} {loose : List PySem.Str} {x : Parts} {cA fA : Addr} {tp : Sem (Value × Addr)} {ta : Sem Flow} {tb : Addr → Sem Flow} {M1 M2 M3 : Nat}
/-- the run's equation without the hook's look -/
def RunQ (r : OpenSpec) (q : Program) (loose : List PySem.Str) (x : Parts) (cA fA : Addr) (tp : Sem (Value × Addr)) (ta : Sem Flow) (tb : Addr → Sem Flow) (M1 M2 M3 : Nat) (w : World) : Prop :=
  ∀ (os : OsState) (q1 p2 : Pos), (chainF (stepQ (denQ tabQ) r.prog w) r.prog w x cA fA tp ta tb M1 M2 M3 os q1 p2).map (fun s => (s.life, s.os, keepL.map (getT s), looksF r.prog (boot_heap w.params) s.abs, seenQ q loose (importedModules r.prog.main.body) (xtOf q) s.abs)) =
    some ((boot_heap w.params).life, os, keepL.map (boot_heap w.params).get?, true, openGood q loose)
/-- the hook's look alone -/
def RunO (r : OpenSpec) (H : Hook) (ob : SharedT → H.α) (x : Parts) (cA fA : Addr) (tp : Sem (Value × Addr)) (ta : Sem Flow) (tb : Addr → Sem Flow) (M1 M2 M3 : Nat) (w : World) : Prop :=
  ∀ (os : OsState) (q1 p2 : Pos), (chainF (stepQ (denQ tabQ) r.prog w) r.prog w x cA fA tp ta tb M1 M2 M3 os q1 p2).map ob = some (H.val w)
theorem runP_of {w : World} (h1 : RunQ r q loose x cA fA tp ta tb M1 M2 M3 w) (h2 : RunO r H ob x cA fA tp ta tb M1 M2 M3 w) : RunP r q H ob loose x cA fA tp ta tb M1 M2 M3 w := by
  intro os q1 p2
  have a := h1 os q1 p2
  have b := h2 os q1 p2
  obtain ⟨s, e1, e2⟩ := Option.map_eq_some_iff.mp a
  rw [e1] at b ⊢
  have b2 : ob s = H.val w := Option.some.inj b
  simp only [Prod.mk.injEq] at e2
  obtain ⟨v1, v2, v3, v4, v5⟩ := e2
  rw [Option.map_some, v1, v2, v3, v4, v5, b2]
end
theorem runQa (w : World) : RunQ R0 q0 loose0 xP 13 14 tpQ taQ tbQ 100 3500 3500 (w.withFollow "special-get-raises" false) := by
  intro os q1 p2
  kernel_rfl
theorem runOa (w : World) : RunO R0 hookB obT xP 13 14 tpQ taQ tbQ 100 3500 3500 (w.withFollow "special-get-raises" false) := by
  intro os q1 p2
  kernel_rfl
theorem runQb (w : World) : RunQ R0 q0 loose0 xP 13 14 tpQ taQ tbQ 100 3500 3500 (w.withFollow "special-get-raises" true) := by
  intro os q1 p2
  kernel_rfl
theorem runOb (w : World) : RunO R0 hookB obT xP 13 14 tpQ taQ tbQ 100 3500 3500 (w.withFollow "special-get-raises" true) := by
  intro os q1 p2
  kernel_rfl
theorem run1 (w : World) : RunP R0 q0 hookB obT loose0 xP 13 14 tpQ taQ tbQ 100 3500 3500 w := byRow2 "special-get-raises" (P := fun w => RunP R0 q0 hookB obT loose0 xP 13 14 tpQ taQ tbQ 100 3500 3500 w) (fun w => runP_of (runQa w) (runOa w)) (fun w => runP_of (runQb w) (runOb w)) w
end Bl
end

-- part W0
set_option Elab.async false
set_option linter.all false
set_option maxRecDepth 100000
set_option maxHeartbeats 4000000
namespace Bl
open PySem PySem.Spec PyProof.Rows L2 Evl
abbrev FnP (K : PySem.W.Frag) (x : Str) (st : Stmt) (f : Addr) (fd : FuncData) : Prop := FunD K x x (defArgs st) (defBody st) (defScope st) [] [] f fd
structure Txt (w : World) (K : PySem.W.Frag) (mg : Str → Option Value) : Prop where
  g_outputs_of : mg "outputs_of" = some (.ref (He.ga K "outputs_of"))
  g_numbers_of : mg "numbers_of" = some (.ref (He.ga K "numbers_of"))
  g_record_fault : mg "record_fault" = some (.ref (He.ga K "record_fault"))
  g_first_fault : mg "first_fault" = some (.ref (He.ga K "first_fault"))
  g_is_sound : mg "is_sound" = some (.ref (He.ga K "is_sound"))
  g_find_file : mg "find_file" = some (.ref (He.ga K "find_file"))
  g_find_maker : mg "find_maker" = some (.ref (He.ga K "find_maker"))
  g_sources_among : mg "sources_among" = some (.ref (He.ga K "sources_among"))
  g_count_sources : mg "count_sources" = some (.ref (He.ga K "count_sources"))
  g_sources_below : mg "sources_below" = some (.ref (He.ga K "sources_below"))
  g_makers_of_inputs : mg "makers_of_inputs" = some (.ref (He.ga K "makers_of_inputs"))
  g_is_ready : mg "is_ready" = some (.ref (He.ga K "is_ready"))
  g_sorted_records : mg "sorted_records" = some (.ref (He.ga K "sorted_records"))
  g_find_record : mg "find_record" = some (.ref (He.ga K "find_record"))
  g_names_of : mg "names_of" = some (.ref (He.ga K "names_of"))
  g_changed_names : mg "changed_names" = some (.ref (He.ga K "changed_names"))
  g_is_defined_alike : mg "is_defined_alike" = some (.ref (He.ga K "is_defined_alike"))
  g_compare_records : mg "compare_records" = some (.ref (He.ga K "compare_records"))
  g_compare_with_second : mg "compare_with_second" = some (.ref (He.ga K "compare_with_second"))
  g_find_differences : mg "find_differences" = some (.ref (He.ga K "find_differences"))
  g_difference_named : mg "difference_named" = some (.ref (He.ga K "difference_named"))
  g_unlike_maker : mg "unlike_maker" = some (.ref (He.ga K "unlike_maker"))
  g_is_root : mg "is_root" = some (.ref (He.ga K "is_root"))
  g_root_names : mg "root_names" = some (.ref (He.ga K "root_names"))
  g_next_cause : mg "next_cause" = some (.ref (He.ga K "next_cause"))
  g_chain_names : mg "chain_names" = some (.ref (He.ga K "chain_names"))
  g_codes : mg "codes" = some (.ref (He.ga K "codes"))
  g_is_digit : mg "is_digit" = some (.ref (He.ga K "is_digit"))
  g_is_letter : mg "is_letter" = some (.ref (He.ga K "is_letter"))
  g_begins_word : mg "begins_word" = some (.ref (He.ga K "begins_word"))
  g_continues_word : mg "continues_word" = some (.ref (He.ga K "continues_word"))
  g_word_kind : mg "word_kind" = some (.ref (He.ga K "word_kind"))
  g_is_name : mg "is_name" = some (.ref (He.ga K "is_name"))
  g_counted_lines : mg "counted_lines" = some (.ref (He.ga K "counted_lines"))
  g_answer_unlike : mg "answer_unlike" = some (.ref (He.ga K "answer_unlike"))
  g_answer_first : mg "answer_first" = some (.ref (He.ga K "answer_first"))
  g_answer_why : mg "answer_why" = some (.ref (He.ga K "answer_why"))
  g_answer_steady : mg "answer_steady" = some (.ref (He.ga K "answer_steady"))
  g_answer_of_pair : mg "answer_of_pair" = some (.ref (He.ga K "answer_of_pair"))
  g_word_row : mg "word_row" = some (.ref (He.ga K "word_row"))
  g_file_row : mg "file_row" = some (.ref (He.ga K "file_row"))
  g_record_rows : mg "record_rows" = some (.ref (He.ga K "record_rows"))
  g_plain_text : mg "plain_text" = some (.ref (He.ga K "plain_text"))
  g_is_blank : mg "is_blank" = some (.ref (He.ga K "is_blank"))
  g_skip_blanks : mg "skip_blanks" = some (.ref (He.ga K "skip_blanks"))
  g_word_end : mg "word_end" = some (.ref (He.ga K "word_end"))
  g_number_end : mg "number_end" = some (.ref (He.ga K "number_end"))
  g_token_end : mg "token_end" = some (.ref (He.ga K "token_end"))
  g_token_kind : mg "token_kind" = some (.ref (He.ga K "token_kind"))
  g_scan : mg "scan" = some (.ref (He.ga K "scan"))
  g_misplaced : mg "misplaced" = some (.ref (He.ga K "misplaced"))
  g_number_of : mg "number_of" = some (.ref (He.ga K "number_of"))
  g_fill : mg "fill" = some (.ref (He.ga K "fill"))
  g_build : mg "build" = some (.ref (He.ga K "build"))
  g_record_above_limits : mg "record_above_limits" = some (.ref (He.ga K "record_above_limits"))
  g_above_limits : mg "above_limits" = some (.ref (He.ga K "above_limits"))
  g_read_log : mg "read_log" = some (.ref (He.ga K "read_log"))
  g_is_slot : mg "is_slot" = some (.ref (He.ga K "is_slot"))
  g_logs_refusal : mg "logs_refusal" = some (.ref (He.ga K "logs_refusal"))
  g_file_refusal : mg "file_refusal" = some (.ref (He.ga K "file_refusal"))
  g_answer_read : mg "answer_read" = some (.ref (He.ga K "answer_read"))
  g_answer_where : mg "answer_where" = some (.ref (He.ga K "answer_where"))
  g_answer_plain : mg "answer_plain" = some (.ref (He.ga K "answer_plain"))
  g_answer_stats : mg "answer_stats" = some (.ref (He.ga K "answer_stats"))
  g_answer_made : mg "answer_made" = some (.ref (He.ga K "answer_made"))
  g_answer_rests : mg "answer_rests" = some (.ref (He.ga K "answer_rests"))
  g_answer_of_file : mg "answer_of_file" = some (.ref (He.ga K "answer_of_file"))
  g_answer_sorted : mg "answer_sorted" = some (.ref (He.ga K "answer_sorted"))
  g_answer_drop : mg "answer_drop" = some (.ref (He.ga K "answer_drop"))
  g_answer_of_log : mg "answer_of_log" = some (.ref (He.ga K "answer_of_log"))
  g_answer : mg "answer" = some (.ref (He.ga K "answer"))
  g_answers : mg "answers" = some (.ref (He.ga K "answers"))
  b_all : mg "all" = none
  b_any : mg "any" = none
  b_len : mg "len" = none
  b_list : mg "list" = none
  b_max : mg "max" = none
  b_min : mg "min" = none
  b_ord : mg "ord" = none
  b_range : mg "range" = none
  b_set : mg "set" = none
  b_sorted : mg "sorted" = none
  b_str : mg "str" = none
  b_tuple : mg "tuple" = none
  i_SAME_ACTION : ∃ t, mg "SAME_ACTION" = some (.int (1) t)
  i_FILE_TWICE : ∃ t, mg "FILE_TWICE" = some (.int (2) t)
  i_MADE_BEFORE : ∃ t, mg "MADE_BEFORE" = some (.int (3) t)
  i_OTHER_NUMBER : ∃ t, mg "OTHER_NUMBER" = some (.int (4) t)
  i_MADE_LATER : ∃ t, mg "MADE_LATER" = some (.int (5) t)
  i_WRONG_TOTAL : ∃ t, mg "WRONG_TOTAL" = some (.int (6) t)
  i_ONLY_FIRST : ∃ t, mg "ONLY_FIRST" = some (.int (1) t)
  i_ONLY_SECOND : ∃ t, mg "ONLY_SECOND" = some (.int (2) t)
  i_DEFINED : ∃ t, mg "DEFINED" = some (.int (3) t)
  i_INPUT : ∃ t, mg "INPUT" = some (.int (4) t)
  i_OUTPUT : ∃ t, mg "OUTPUT" = some (.int (5) t)
  i_EXIT : ∃ t, mg "EXIT" = some (.int (6) t)
  i_SLOT : ∃ t, mg "SLOT" = some (.int (-1) t)
  i_NONE : ∃ t, mg "NONE" = some (.int (-2) t)
  i_LONG : ∃ t, mg "LONG" = some (.int (-3) t)
  i_FORM : ∃ t, mg "FORM" = some (.int (-4) t)
  i_LIMIT : ∃ t, mg "LIMIT" = some (.int (-5) t)
  i_FAULTY : ∃ t, mg "FAULTY" = some (.int (-6) t)
  i_NAME : ∃ t, mg "NAME" = some (.int (-7) t)
  i_ABSENT : ∃ t, mg "ABSENT" = some (.int (-8) t)
  i_ALIKE : ∃ t, mg "ALIKE" = some (.int (-9) t)
  g_KEPT_WORDS : mg "KEPT_WORDS" = some (.ref (He.ga K "KEPT_WORDS"))
  t_KEPT_WORDS : ∀ H, SqT K H (He.ga K "KEPT_WORDS") [.str "run", .str "kept", .str "end", .str "tool", .str "arg", .str "in", .str "out", .str "exit"]
  i_LONGEST_NAME : ∃ t, mg "LONGEST_NAME" = some (.int (32) t)
  i_LINE_FEED : ∃ t, mg "LINE_FEED" = some (.int (10) t)
  i_UNLIKE : ∃ t, mg "UNLIKE" = some (.int (7) t)
  i_FIRST : ∃ t, mg "FIRST" = some (.int (8) t)
  i_ROOTS : ∃ t, mg "ROOTS" = some (.int (9) t)
  i_WHY : ∃ t, mg "WHY" = some (.int (10) t)
  g_WAYS : mg "WAYS" = some (.ref (He.ga K "WAYS"))
  t_WAYS : ∀ H, SqT K H (He.ga K "WAYS") [.str "", .str "only first", .str "only second", .str "defined", .str "input", .str "output", .str "exit"]
  g_SIGNS : mg "SIGNS" = some (.ref (He.ga K "SIGNS"))
  t_SIGNS : ∀ H, SqT K H (He.ga K "SIGNS") [.str ";", .str "{", .str "}"]
  i_CARRIAGE_RETURN : ∃ t, mg "CARRIAGE_RETURN" = some (.int (13) t)
  i_LONGEST_TEXT : ∃ t, mg "LONGEST_TEXT" = some (.int (4096) t)
  i_LARGEST_NUMBER : ∃ t, mg "LARGEST_NUMBER" = some (.int (1000000000) t)
  i_MOST_RECORDS : ∃ t, mg "MOST_RECORDS" = some (.int (32) t)
  i_MOST_ROWS : ∃ t, mg "MOST_ROWS" = some (.int (8) t)
  g_STEPS : mg "STEPS" = some (.ref (He.ga K "STEPS"))
  i_READ : ∃ t, mg "READ" = some (.int (0) t)
  i_WHERE : ∃ t, mg "WHERE" = some (.int (1) t)
  i_PLAIN : ∃ t, mg "PLAIN" = some (.int (2) t)
  i_FAULT : ∃ t, mg "FAULT" = some (.int (3) t)
  i_STATS : ∃ t, mg "STATS" = some (.int (4) t)
  i_MADE : ∃ t, mg "MADE" = some (.int (5) t)
  i_SORTED : ∃ t, mg "SORTED" = some (.int (12) t)
  i_DROP : ∃ t, mg "DROP" = some (.int (13) t)
  g_NUMBERS : mg "NUMBERS" = some (.ref (He.ga K "NUMBERS"))
  t_NUMBERS : ∀ H, SqT K H (He.ga K "NUMBERS") [.int (1), .int (0), .int (1), .int (1), .int (1), .int (1), .int (1), .int (2), .int (2), .int (2), .int (2), .int (2), .int (1), .int (1)]
  g_HAS_TEXT : mg "HAS_TEXT" = some (.ref (He.ga K "HAS_TEXT"))
  t_HAS_TEXT : ∀ H, SqT K H (He.ga K "HAS_TEXT") [.bl true, .bl true, .bl false, .bl false, .bl false, .bl true, .bl true, .bl false, .bl false, .bl false, .bl true, .bl false, .bl false, .bl true]
  g_File : mg "File" = some (.ref (He.ga K "File"))
  c_File : Cls K (He.ga K "File")
  m_File : Mk K (He.ga K "File") (He.ma K (He.ga K "File") "__init__")
  n_File_name : NoAttr K (He.ga K "File") "name"
  n_File_number : NoAttr K (He.ga K "File") "number"
  g_Record : mg "Record" = some (.ref (He.ga K "Record"))
  c_Record : Cls K (He.ga K "Record")
  m_Record : Mk K (He.ga K "Record") (He.ma K (He.ga K "Record") "__init__")
  n_Record_way : NoAttr K (He.ga K "Record") "way"
  n_Record_name : NoAttr K (He.ga K "Record") "name"
  n_Record_tool : NoAttr K (He.ga K "Record") "tool"
  n_Record_arguments : NoAttr K (He.ga K "Record") "arguments"
  n_Record_inputs : NoAttr K (He.ga K "Record") "inputs"
  n_Record_outputs : NoAttr K (He.ga K "Record") "outputs"
  n_Record_status : NoAttr K (He.ga K "Record") "status"
  g_Log : mg "Log" = some (.ref (He.ga K "Log"))
  c_Log : Cls K (He.ga K "Log")
  m_Log : Mk K (He.ga K "Log") (He.ma K (He.ga K "Log") "__init__")
  n_Log_records : NoAttr K (He.ga K "Log") "records"
  n_Log_total : NoAttr K (He.ga K "Log") "total"
  g_Difference : mg "Difference" = some (.ref (He.ga K "Difference"))
  c_Difference : Cls K (He.ga K "Difference")
  m_Difference : Mk K (He.ga K "Difference") (He.ma K (He.ga K "Difference") "__init__")
  n_Difference_name : NoAttr K (He.ga K "Difference") "name"
  n_Difference_way : NoAttr K (He.ga K "Difference") "way"
  n_Difference_changed : NoAttr K (He.ga K "Difference") "changed"
  g_Token : mg "Token" = some (.ref (He.ga K "Token"))
  c_Token : Cls K (He.ga K "Token")
  m_Token : Mk K (He.ga K "Token") (He.ma K (He.ga K "Token") "__init__")
  n_Token_kind : NoAttr K (He.ga K "Token") "kind"
  n_Token_place : NoAttr K (He.ga K "Token") "place"
  n_Token_spelled : NoAttr K (He.ga K "Token") "spelled"
  g_Reading : mg "Reading" = some (.ref (He.ga K "Reading"))
  c_Reading : Cls K (He.ga K "Reading")
  m_Reading : Mk K (He.ga K "Reading") (He.ma K (He.ga K "Reading") "__init__")
  n_Reading_refusal : NoAttr K (He.ga K "Reading") "refusal"
  n_Reading_place : NoAttr K (He.ga K "Reading") "place"
  n_Reading_log : NoAttr K (He.ga K "Reading") "log"
  f_outputs_of : ∃ fd, FnP K "outputs_of" s_outputs_of (He.ga K "outputs_of") fd
  f_numbers_of : ∃ fd, FnP K "numbers_of" s_numbers_of (He.ga K "numbers_of") fd
  f_record_fault : ∃ fd, FnP K "record_fault" s_record_fault (He.ga K "record_fault") fd
  f_first_fault : ∃ fd, FnP K "first_fault" s_first_fault (He.ga K "first_fault") fd
  f_is_sound : ∃ fd, FnP K "is_sound" s_is_sound (He.ga K "is_sound") fd
  f_find_file : ∃ fd, FnP K "find_file" s_find_file (He.ga K "find_file") fd
  f_find_maker : ∃ fd, FnP K "find_maker" s_find_maker (He.ga K "find_maker") fd
  f_sources_among : ∃ fd, FnP K "sources_among" s_sources_among (He.ga K "sources_among") fd
  f_count_sources : ∃ fd, FnP K "count_sources" s_count_sources (He.ga K "count_sources") fd
  f_sources_below : ∃ fd, FnP K "sources_below" s_sources_below (He.ga K "sources_below") fd
  f_makers_of_inputs : ∃ fd, FnP K "makers_of_inputs" s_makers_of_inputs (He.ga K "makers_of_inputs") fd
  f_is_ready : ∃ fd, FnP K "is_ready" s_is_ready (He.ga K "is_ready") fd
  f_sorted_records : ∃ fd, FnP K "sorted_records" s_sorted_records (He.ga K "sorted_records") fd
  f_find_record : ∃ fd, FnP K "find_record" s_find_record (He.ga K "find_record") fd
  f_names_of : ∃ fd, FnP K "names_of" s_names_of (He.ga K "names_of") fd
  f_changed_names : ∃ fd, FnP K "changed_names" s_changed_names (He.ga K "changed_names") fd
  f_is_defined_alike : ∃ fd, FnP K "is_defined_alike" s_is_defined_alike (He.ga K "is_defined_alike") fd
  f_compare_records : ∃ fd, FnP K "compare_records" s_compare_records (He.ga K "compare_records") fd
  f_compare_with_second : ∃ fd, FnP K "compare_with_second" s_compare_with_second (He.ga K "compare_with_second") fd
  f_find_differences : ∃ fd, FnP K "find_differences" s_find_differences (He.ga K "find_differences") fd
  f_difference_named : ∃ fd, FnP K "difference_named" s_difference_named (He.ga K "difference_named") fd
  f_unlike_maker : ∃ fd, FnP K "unlike_maker" s_unlike_maker (He.ga K "unlike_maker") fd
  f_is_root : ∃ fd, FnP K "is_root" s_is_root (He.ga K "is_root") fd
  f_root_names : ∃ fd, FnP K "root_names" s_root_names (He.ga K "root_names") fd
  f_next_cause : ∃ fd, FnP K "next_cause" s_next_cause (He.ga K "next_cause") fd
  f_chain_names : ∃ fd, FnP K "chain_names" s_chain_names (He.ga K "chain_names") fd
  f_codes : ∃ fd, FnP K "codes" s_codes (He.ga K "codes") fd
  f_is_digit : ∃ fd, FnP K "is_digit" s_is_digit (He.ga K "is_digit") fd
  f_is_letter : ∃ fd, FnP K "is_letter" s_is_letter (He.ga K "is_letter") fd
  f_begins_word : ∃ fd, FnP K "begins_word" s_begins_word (He.ga K "begins_word") fd
  f_continues_word : ∃ fd, FnP K "continues_word" s_continues_word (He.ga K "continues_word") fd
  f_word_kind : ∃ fd, FnP K "word_kind" s_word_kind (He.ga K "word_kind") fd
  f_is_name : ∃ fd, FnP K "is_name" s_is_name (He.ga K "is_name") fd
  f_counted_lines : ∃ fd, FnP K "counted_lines" s_counted_lines (He.ga K "counted_lines") fd
  f_answer_unlike : ∃ fd, FnP K "answer_unlike" s_answer_unlike (He.ga K "answer_unlike") fd
  f_answer_first : ∃ fd, FnP K "answer_first" s_answer_first (He.ga K "answer_first") fd
  f_answer_why : ∃ fd, FnP K "answer_why" s_answer_why (He.ga K "answer_why") fd
  f_answer_steady : ∃ fd, FnP K "answer_steady" s_answer_steady (He.ga K "answer_steady") fd
  f_answer_of_pair : ∃ fd, FnP K "answer_of_pair" s_answer_of_pair (He.ga K "answer_of_pair") fd
  f_word_row : ∃ fd, FnP K "word_row" s_word_row (He.ga K "word_row") fd
  f_file_row : ∃ fd, FnP K "file_row" s_file_row (He.ga K "file_row") fd
  f_record_rows : ∃ fd, FnP K "record_rows" s_record_rows (He.ga K "record_rows") fd
  f_plain_text : ∃ fd, FnP K "plain_text" s_plain_text (He.ga K "plain_text") fd
  f_is_blank : ∃ fd, FnP K "is_blank" s_is_blank (He.ga K "is_blank") fd
  f_skip_blanks : ∃ fd, FnP K "skip_blanks" s_skip_blanks (He.ga K "skip_blanks") fd
  f_word_end : ∃ fd, FnP K "word_end" s_word_end (He.ga K "word_end") fd
  f_number_end : ∃ fd, FnP K "number_end" s_number_end (He.ga K "number_end") fd
  f_token_end : ∃ fd, FnP K "token_end" s_token_end (He.ga K "token_end") fd
  f_token_kind : ∃ fd, FnP K "token_kind" s_token_kind (He.ga K "token_kind") fd
  f_scan : ∃ fd, FnP K "scan" s_scan (He.ga K "scan") fd
  f_misplaced : ∃ fd, FnP K "misplaced" s_misplaced (He.ga K "misplaced") fd
  f_number_of : ∃ fd, FnP K "number_of" s_number_of (He.ga K "number_of") fd
  f_fill : ∃ fd, FnP K "fill" s_fill (He.ga K "fill") fd
  f_build : ∃ fd, FnP K "build" s_build (He.ga K "build") fd
  f_record_above_limits : ∃ fd, FnP K "record_above_limits" s_record_above_limits (He.ga K "record_above_limits") fd
  f_above_limits : ∃ fd, FnP K "above_limits" s_above_limits (He.ga K "above_limits") fd
  f_read_log : ∃ fd, FnP K "read_log" s_read_log (He.ga K "read_log") fd
  f_is_slot : ∃ fd, FnP K "is_slot" s_is_slot (He.ga K "is_slot") fd
  f_logs_refusal : ∃ fd, FnP K "logs_refusal" s_logs_refusal (He.ga K "logs_refusal") fd
  f_file_refusal : ∃ fd, FnP K "file_refusal" s_file_refusal (He.ga K "file_refusal") fd
  f_answer_read : ∃ fd, FnP K "answer_read" s_answer_read (He.ga K "answer_read") fd
  f_answer_where : ∃ fd, FnP K "answer_where" s_answer_where (He.ga K "answer_where") fd
  f_answer_plain : ∃ fd, FnP K "answer_plain" s_answer_plain (He.ga K "answer_plain") fd
  f_answer_stats : ∃ fd, FnP K "answer_stats" s_answer_stats (He.ga K "answer_stats") fd
  f_answer_made : ∃ fd, FnP K "answer_made" s_answer_made (He.ga K "answer_made") fd
  f_answer_rests : ∃ fd, FnP K "answer_rests" s_answer_rests (He.ga K "answer_rests") fd
  f_answer_of_file : ∃ fd, FnP K "answer_of_file" s_answer_of_file (He.ga K "answer_of_file") fd
  f_answer_sorted : ∃ fd, FnP K "answer_sorted" s_answer_sorted (He.ga K "answer_sorted") fd
  f_answer_drop : ∃ fd, FnP K "answer_drop" s_answer_drop (He.ga K "answer_drop") fd
  f_answer_of_log : ∃ fd, FnP K "answer_of_log" s_answer_of_log (He.ga K "answer_of_log") fd
  f_answer : ∃ fd, FnP K "answer" s_answer (He.ga K "answer") fd
  f_answers : ∃ fd, FnP K "answers" s_answers (He.ga K "answers") fd
  f_File_init : ∃ fd, FunD K "__init__" "File.__init__" (defArgs s_File_init) (defBody s_File_init) (defScope s_File_init) [] [] (He.ma K (He.ga K "File") "__init__") fd
  f_Record_init : ∃ fd, FunD K "__init__" "Record.__init__" (defArgs s_Record_init) (defBody s_Record_init) (defScope s_Record_init) [] [] (He.ma K (He.ga K "Record") "__init__") fd
  f_Log_init : ∃ fd, FunD K "__init__" "Log.__init__" (defArgs s_Log_init) (defBody s_Log_init) (defScope s_Log_init) [] [] (He.ma K (He.ga K "Log") "__init__") fd
  f_Difference_init : ∃ fd, FunD K "__init__" "Difference.__init__" (defArgs s_Difference_init) (defBody s_Difference_init) (defScope s_Difference_init) [] [] (He.ma K (He.ga K "Difference") "__init__") fd
  f_Token_init : ∃ fd, FunD K "__init__" "Token.__init__" (defArgs s_Token_init) (defBody s_Token_init) (defScope s_Token_init) [] [] (He.ma K (He.ga K "Token") "__init__") fd
  f_Reading_init : ∃ fd, FunD K "__init__" "Reading.__init__" (defArgs s_Reading_init) (defBody s_Reading_init) (defScope s_Reading_init) [] [] (He.ma K (He.ga K "Reading") "__init__") fd
  says : obsB K = valB w
theorem txt_of {w : World} {K : PySem.W.Frag} {mg : Str → Option Value} {h : Heap} (X : K.In h) (G : h.Ns mainGlobals mg) (c : obsB K = valB w) : Txt w K mg := by
  have c1 : He.SaysD fa fn K := congrArg (fun z : AlB => z.1) c
  have c2 : (tups.all fun t => He.tupB K t.1 t.2) = true := congrArg (fun z : AlB => z.2.1) c
  exact {
    g_outputs_of := He.glo_ok X G (c1.fact 0 (f := .glo "outputs_of") rfl)
    g_numbers_of := He.glo_ok X G (c1.fact 1 (f := .glo "numbers_of") rfl)
    g_record_fault := He.glo_ok X G (c1.fact 2 (f := .glo "record_fault") rfl)
    g_first_fault := He.glo_ok X G (c1.fact 3 (f := .glo "first_fault") rfl)
    g_is_sound := He.glo_ok X G (c1.fact 4 (f := .glo "is_sound") rfl)
    g_find_file := He.glo_ok X G (c1.fact 5 (f := .glo "find_file") rfl)
    g_find_maker := He.glo_ok X G (c1.fact 6 (f := .glo "find_maker") rfl)
    g_sources_among := He.glo_ok X G (c1.fact 7 (f := .glo "sources_among") rfl)
    g_count_sources := He.glo_ok X G (c1.fact 8 (f := .glo "count_sources") rfl)
    g_sources_below := He.glo_ok X G (c1.fact 9 (f := .glo "sources_below") rfl)
    g_makers_of_inputs := He.glo_ok X G (c1.fact 10 (f := .glo "makers_of_inputs") rfl)
    g_is_ready := He.glo_ok X G (c1.fact 11 (f := .glo "is_ready") rfl)
    g_sorted_records := He.glo_ok X G (c1.fact 12 (f := .glo "sorted_records") rfl)
    g_find_record := He.glo_ok X G (c1.fact 13 (f := .glo "find_record") rfl)
    g_names_of := He.glo_ok X G (c1.fact 14 (f := .glo "names_of") rfl)
    g_changed_names := He.glo_ok X G (c1.fact 15 (f := .glo "changed_names") rfl)
    g_is_defined_alike := He.glo_ok X G (c1.fact 16 (f := .glo "is_defined_alike") rfl)
    g_compare_records := He.glo_ok X G (c1.fact 17 (f := .glo "compare_records") rfl)
    g_compare_with_second := He.glo_ok X G (c1.fact 18 (f := .glo "compare_with_second") rfl)
    g_find_differences := He.glo_ok X G (c1.fact 19 (f := .glo "find_differences") rfl)
    g_difference_named := He.glo_ok X G (c1.fact 20 (f := .glo "difference_named") rfl)
    g_unlike_maker := He.glo_ok X G (c1.fact 21 (f := .glo "unlike_maker") rfl)
    g_is_root := He.glo_ok X G (c1.fact 22 (f := .glo "is_root") rfl)
    g_root_names := He.glo_ok X G (c1.fact 23 (f := .glo "root_names") rfl)
    g_next_cause := He.glo_ok X G (c1.fact 24 (f := .glo "next_cause") rfl)
    g_chain_names := He.glo_ok X G (c1.fact 25 (f := .glo "chain_names") rfl)
    g_codes := He.glo_ok X G (c1.fact 26 (f := .glo "codes") rfl)
    g_is_digit := He.glo_ok X G (c1.fact 27 (f := .glo "is_digit") rfl)
    g_is_letter := He.glo_ok X G (c1.fact 28 (f := .glo "is_letter") rfl)
    g_begins_word := He.glo_ok X G (c1.fact 29 (f := .glo "begins_word") rfl)
    g_continues_word := He.glo_ok X G (c1.fact 30 (f := .glo "continues_word") rfl)
    g_word_kind := He.glo_ok X G (c1.fact 31 (f := .glo "word_kind") rfl)
    g_is_name := He.glo_ok X G (c1.fact 32 (f := .glo "is_name") rfl)
    g_counted_lines := He.glo_ok X G (c1.fact 33 (f := .glo "counted_lines") rfl)
    g_answer_unlike := He.glo_ok X G (c1.fact 34 (f := .glo "answer_unlike") rfl)
    g_answer_first := He.glo_ok X G (c1.fact 35 (f := .glo "answer_first") rfl)
    g_answer_why := He.glo_ok X G (c1.fact 36 (f := .glo "answer_why") rfl)
    g_answer_steady := He.glo_ok X G (c1.fact 37 (f := .glo "answer_steady") rfl)
    g_answer_of_pair := He.glo_ok X G (c1.fact 38 (f := .glo "answer_of_pair") rfl)
    g_word_row := He.glo_ok X G (c1.fact 39 (f := .glo "word_row") rfl)
    g_file_row := He.glo_ok X G (c1.fact 40 (f := .glo "file_row") rfl)
    g_record_rows := He.glo_ok X G (c1.fact 41 (f := .glo "record_rows") rfl)
    g_plain_text := He.glo_ok X G (c1.fact 42 (f := .glo "plain_text") rfl)
    g_is_blank := He.glo_ok X G (c1.fact 43 (f := .glo "is_blank") rfl)
    g_skip_blanks := He.glo_ok X G (c1.fact 44 (f := .glo "skip_blanks") rfl)
    g_word_end := He.glo_ok X G (c1.fact 45 (f := .glo "word_end") rfl)
    g_number_end := He.glo_ok X G (c1.fact 46 (f := .glo "number_end") rfl)
    g_token_end := He.glo_ok X G (c1.fact 47 (f := .glo "token_end") rfl)
    g_token_kind := He.glo_ok X G (c1.fact 48 (f := .glo "token_kind") rfl)
    g_scan := He.glo_ok X G (c1.fact 49 (f := .glo "scan") rfl)
    g_misplaced := He.glo_ok X G (c1.fact 50 (f := .glo "misplaced") rfl)
    g_number_of := He.glo_ok X G (c1.fact 51 (f := .glo "number_of") rfl)
    g_fill := He.glo_ok X G (c1.fact 52 (f := .glo "fill") rfl)
    g_build := He.glo_ok X G (c1.fact 53 (f := .glo "build") rfl)
    g_record_above_limits := He.glo_ok X G (c1.fact 54 (f := .glo "record_above_limits") rfl)
    g_above_limits := He.glo_ok X G (c1.fact 55 (f := .glo "above_limits") rfl)
    g_read_log := He.glo_ok X G (c1.fact 56 (f := .glo "read_log") rfl)
    g_is_slot := He.glo_ok X G (c1.fact 57 (f := .glo "is_slot") rfl)
    g_logs_refusal := He.glo_ok X G (c1.fact 58 (f := .glo "logs_refusal") rfl)
    g_file_refusal := He.glo_ok X G (c1.fact 59 (f := .glo "file_refusal") rfl)
    g_answer_read := He.glo_ok X G (c1.fact 60 (f := .glo "answer_read") rfl)
    g_answer_where := He.glo_ok X G (c1.fact 61 (f := .glo "answer_where") rfl)
    g_answer_plain := He.glo_ok X G (c1.fact 62 (f := .glo "answer_plain") rfl)
    g_answer_stats := He.glo_ok X G (c1.fact 63 (f := .glo "answer_stats") rfl)
    g_answer_made := He.glo_ok X G (c1.fact 64 (f := .glo "answer_made") rfl)
    g_answer_rests := He.glo_ok X G (c1.fact 65 (f := .glo "answer_rests") rfl)
    g_answer_of_file := He.glo_ok X G (c1.fact 66 (f := .glo "answer_of_file") rfl)
    g_answer_sorted := He.glo_ok X G (c1.fact 67 (f := .glo "answer_sorted") rfl)
    g_answer_drop := He.glo_ok X G (c1.fact 68 (f := .glo "answer_drop") rfl)
    g_answer_of_log := He.glo_ok X G (c1.fact 69 (f := .glo "answer_of_log") rfl)
    g_answer := He.glo_ok X G (c1.fact 70 (f := .glo "answer") rfl)
    g_answers := He.glo_ok X G (c1.fact 71 (f := .glo "answers") rfl)
    b_all := He.free_ok X G (c1.fact 72 (f := .free "all") rfl)
    b_any := He.free_ok X G (c1.fact 73 (f := .free "any") rfl)
    b_len := He.free_ok X G (c1.fact 74 (f := .free "len") rfl)
    b_list := He.free_ok X G (c1.fact 75 (f := .free "list") rfl)
    b_max := He.free_ok X G (c1.fact 76 (f := .free "max") rfl)
    b_min := He.free_ok X G (c1.fact 77 (f := .free "min") rfl)
    b_ord := He.free_ok X G (c1.fact 78 (f := .free "ord") rfl)
    b_range := He.free_ok X G (c1.fact 79 (f := .free "range") rfl)
    b_set := He.free_ok X G (c1.fact 80 (f := .free "set") rfl)
    b_sorted := He.free_ok X G (c1.fact 81 (f := .free "sorted") rfl)
    b_str := He.free_ok X G (c1.fact 82 (f := .free "str") rfl)
    b_tuple := He.free_ok X G (c1.fact 83 (f := .free "tuple") rfl)
    i_SAME_ACTION := He.int_ok X G (c1.fact 84 (f := .int "SAME_ACTION" (1)) rfl)
    i_FILE_TWICE := He.int_ok X G (c1.fact 85 (f := .int "FILE_TWICE" (2)) rfl)
    i_MADE_BEFORE := He.int_ok X G (c1.fact 86 (f := .int "MADE_BEFORE" (3)) rfl)
    i_OTHER_NUMBER := He.int_ok X G (c1.fact 87 (f := .int "OTHER_NUMBER" (4)) rfl)
    i_MADE_LATER := He.int_ok X G (c1.fact 88 (f := .int "MADE_LATER" (5)) rfl)
    i_WRONG_TOTAL := He.int_ok X G (c1.fact 89 (f := .int "WRONG_TOTAL" (6)) rfl)
    i_ONLY_FIRST := He.int_ok X G (c1.fact 90 (f := .int "ONLY_FIRST" (1)) rfl)
    i_ONLY_SECOND := He.int_ok X G (c1.fact 91 (f := .int "ONLY_SECOND" (2)) rfl)
    i_DEFINED := He.int_ok X G (c1.fact 92 (f := .int "DEFINED" (3)) rfl)
    i_INPUT := He.int_ok X G (c1.fact 93 (f := .int "INPUT" (4)) rfl)
    i_OUTPUT := He.int_ok X G (c1.fact 94 (f := .int "OUTPUT" (5)) rfl)
    i_EXIT := He.int_ok X G (c1.fact 95 (f := .int "EXIT" (6)) rfl)
    i_SLOT := He.int_ok X G (c1.fact 96 (f := .int "SLOT" (-1)) rfl)
    i_NONE := He.int_ok X G (c1.fact 97 (f := .int "NONE" (-2)) rfl)
    i_LONG := He.int_ok X G (c1.fact 98 (f := .int "LONG" (-3)) rfl)
    i_FORM := He.int_ok X G (c1.fact 99 (f := .int "FORM" (-4)) rfl)
    i_LIMIT := He.int_ok X G (c1.fact 100 (f := .int "LIMIT" (-5)) rfl)
    i_FAULTY := He.int_ok X G (c1.fact 101 (f := .int "FAULTY" (-6)) rfl)
    i_NAME := He.int_ok X G (c1.fact 102 (f := .int "NAME" (-7)) rfl)
    i_ABSENT := He.int_ok X G (c1.fact 103 (f := .int "ABSENT" (-8)) rfl)
    i_ALIKE := He.int_ok X G (c1.fact 104 (f := .int "ALIKE" (-9)) rfl)
    g_KEPT_WORDS := He.glo_ok X G (c1.fact 105 (f := .glo "KEPT_WORDS") rfl)
    t_KEPT_WORDS := fun H => He.tupB_ok (x := "KEPT_WORDS") (vs := [.str "run", .str "kept", .str "end", .str "tool", .str "arg", .str "in", .str "out", .str "exit"]) (List.all_eq_true.mp c2 ("KEPT_WORDS", [.str "run", .str "kept", .str "end", .str "tool", .str "arg", .str "in", .str "out", .str "exit"]) (List.mem_of_getElem? (i := 0) rfl)) H
    i_LONGEST_NAME := He.int_ok X G (c1.fact 106 (f := .int "LONGEST_NAME" (32)) rfl)
    i_LINE_FEED := He.int_ok X G (c1.fact 107 (f := .int "LINE_FEED" (10)) rfl)
    i_UNLIKE := He.int_ok X G (c1.fact 108 (f := .int "UNLIKE" (7)) rfl)
    i_FIRST := He.int_ok X G (c1.fact 109 (f := .int "FIRST" (8)) rfl)
    i_ROOTS := He.int_ok X G (c1.fact 110 (f := .int "ROOTS" (9)) rfl)
    i_WHY := He.int_ok X G (c1.fact 111 (f := .int "WHY" (10)) rfl)
    g_WAYS := He.glo_ok X G (c1.fact 112 (f := .glo "WAYS") rfl)
    t_WAYS := fun H => He.tupB_ok (x := "WAYS") (vs := [.str "", .str "only first", .str "only second", .str "defined", .str "input", .str "output", .str "exit"]) (List.all_eq_true.mp c2 ("WAYS", [.str "", .str "only first", .str "only second", .str "defined", .str "input", .str "output", .str "exit"]) (List.mem_of_getElem? (i := 1) rfl)) H
    g_SIGNS := He.glo_ok X G (c1.fact 113 (f := .glo "SIGNS") rfl)
    t_SIGNS := fun H => He.tupB_ok (x := "SIGNS") (vs := [.str ";", .str "{", .str "}"]) (List.all_eq_true.mp c2 ("SIGNS", [.str ";", .str "{", .str "}"]) (List.mem_of_getElem? (i := 2) rfl)) H
    i_CARRIAGE_RETURN := He.int_ok X G (c1.fact 114 (f := .int "CARRIAGE_RETURN" (13)) rfl)
    i_LONGEST_TEXT := He.int_ok X G (c1.fact 115 (f := .int "LONGEST_TEXT" (4096)) rfl)
    i_LARGEST_NUMBER := He.int_ok X G (c1.fact 116 (f := .int "LARGEST_NUMBER" (1000000000)) rfl)
    i_MOST_RECORDS := He.int_ok X G (c1.fact 117 (f := .int "MOST_RECORDS" (32)) rfl)
    i_MOST_ROWS := He.int_ok X G (c1.fact 118 (f := .int "MOST_ROWS" (8)) rfl)
    g_STEPS := He.glo_ok X G (c1.fact 119 (f := .glo "STEPS") rfl)
    i_READ := He.int_ok X G (c1.fact 120 (f := .int "READ" (0)) rfl)
    i_WHERE := He.int_ok X G (c1.fact 121 (f := .int "WHERE" (1)) rfl)
    i_PLAIN := He.int_ok X G (c1.fact 122 (f := .int "PLAIN" (2)) rfl)
    i_FAULT := He.int_ok X G (c1.fact 123 (f := .int "FAULT" (3)) rfl)
    i_STATS := He.int_ok X G (c1.fact 124 (f := .int "STATS" (4)) rfl)
    i_MADE := He.int_ok X G (c1.fact 125 (f := .int "MADE" (5)) rfl)
    i_SORTED := He.int_ok X G (c1.fact 126 (f := .int "SORTED" (12)) rfl)
    i_DROP := He.int_ok X G (c1.fact 127 (f := .int "DROP" (13)) rfl)
    g_NUMBERS := He.glo_ok X G (c1.fact 128 (f := .glo "NUMBERS") rfl)
    t_NUMBERS := fun H => He.tupB_ok (x := "NUMBERS") (vs := [.int (1), .int (0), .int (1), .int (1), .int (1), .int (1), .int (1), .int (2), .int (2), .int (2), .int (2), .int (2), .int (1), .int (1)]) (List.all_eq_true.mp c2 ("NUMBERS", [.int (1), .int (0), .int (1), .int (1), .int (1), .int (1), .int (1), .int (2), .int (2), .int (2), .int (2), .int (2), .int (1), .int (1)]) (List.mem_of_getElem? (i := 3) rfl)) H
    g_HAS_TEXT := He.glo_ok X G (c1.fact 129 (f := .glo "HAS_TEXT") rfl)
    t_HAS_TEXT := fun H => He.tupB_ok (x := "HAS_TEXT") (vs := [.bl true, .bl true, .bl false, .bl false, .bl false, .bl true, .bl true, .bl false, .bl false, .bl false, .bl true, .bl false, .bl false, .bl true]) (List.all_eq_true.mp c2 ("HAS_TEXT", [.bl true, .bl true, .bl false, .bl false, .bl false, .bl true, .bl true, .bl false, .bl false, .bl false, .bl true, .bl false, .bl false, .bl true]) (List.mem_of_getElem? (i := 4) rfl)) H
    g_File := He.glo_ok X G (c1.fact 130 (f := .glo "File") rfl)
    c_File := He.cls_ok (c1.fact 131 (f := .cls "File") rfl)
    m_File := He.mkr_ok (c1.fact 132 (f := .mkr "File") rfl)
    n_File_name := He.noat_ok (c1.fact 133 (f := .noat "File" "name") rfl)
    n_File_number := He.noat_ok (c1.fact 134 (f := .noat "File" "number") rfl)
    g_Record := He.glo_ok X G (c1.fact 135 (f := .glo "Record") rfl)
    c_Record := He.cls_ok (c1.fact 136 (f := .cls "Record") rfl)
    m_Record := He.mkr_ok (c1.fact 137 (f := .mkr "Record") rfl)
    n_Record_way := He.noat_ok (c1.fact 138 (f := .noat "Record" "way") rfl)
    n_Record_name := He.noat_ok (c1.fact 139 (f := .noat "Record" "name") rfl)
    n_Record_tool := He.noat_ok (c1.fact 140 (f := .noat "Record" "tool") rfl)
    n_Record_arguments := He.noat_ok (c1.fact 141 (f := .noat "Record" "arguments") rfl)
    n_Record_inputs := He.noat_ok (c1.fact 142 (f := .noat "Record" "inputs") rfl)
    n_Record_outputs := He.noat_ok (c1.fact 143 (f := .noat "Record" "outputs") rfl)
    n_Record_status := He.noat_ok (c1.fact 144 (f := .noat "Record" "status") rfl)
    g_Log := He.glo_ok X G (c1.fact 145 (f := .glo "Log") rfl)
    c_Log := He.cls_ok (c1.fact 146 (f := .cls "Log") rfl)
    m_Log := He.mkr_ok (c1.fact 147 (f := .mkr "Log") rfl)
    n_Log_records := He.noat_ok (c1.fact 148 (f := .noat "Log" "records") rfl)
    n_Log_total := He.noat_ok (c1.fact 149 (f := .noat "Log" "total") rfl)
    g_Difference := He.glo_ok X G (c1.fact 150 (f := .glo "Difference") rfl)
    c_Difference := He.cls_ok (c1.fact 151 (f := .cls "Difference") rfl)
    m_Difference := He.mkr_ok (c1.fact 152 (f := .mkr "Difference") rfl)
    n_Difference_name := He.noat_ok (c1.fact 153 (f := .noat "Difference" "name") rfl)
    n_Difference_way := He.noat_ok (c1.fact 154 (f := .noat "Difference" "way") rfl)
    n_Difference_changed := He.noat_ok (c1.fact 155 (f := .noat "Difference" "changed") rfl)
    g_Token := He.glo_ok X G (c1.fact 156 (f := .glo "Token") rfl)
    c_Token := He.cls_ok (c1.fact 157 (f := .cls "Token") rfl)
    m_Token := He.mkr_ok (c1.fact 158 (f := .mkr "Token") rfl)
    n_Token_kind := He.noat_ok (c1.fact 159 (f := .noat "Token" "kind") rfl)
    n_Token_place := He.noat_ok (c1.fact 160 (f := .noat "Token" "place") rfl)
    n_Token_spelled := He.noat_ok (c1.fact 161 (f := .noat "Token" "spelled") rfl)
    g_Reading := He.glo_ok X G (c1.fact 162 (f := .glo "Reading") rfl)
    c_Reading := He.cls_ok (c1.fact 163 (f := .cls "Reading") rfl)
    m_Reading := He.mkr_ok (c1.fact 164 (f := .mkr "Reading") rfl)
    n_Reading_refusal := He.noat_ok (c1.fact 165 (f := .noat "Reading" "refusal") rfl)
    n_Reading_place := He.noat_ok (c1.fact 166 (f := .noat "Reading" "place") rfl)
    n_Reading_log := He.noat_ok (c1.fact 167 (f := .noat "Reading" "log") rfl)
    f_outputs_of := c1.def_ 0 (d := dD "outputs_of" s_outputs_of) rfl
    f_numbers_of := c1.def_ 1 (d := dD "numbers_of" s_numbers_of) rfl
    f_record_fault := c1.def_ 2 (d := dD "record_fault" s_record_fault) rfl
    f_first_fault := c1.def_ 3 (d := dD "first_fault" s_first_fault) rfl
    f_is_sound := c1.def_ 4 (d := dD "is_sound" s_is_sound) rfl
    f_find_file := c1.def_ 5 (d := dD "find_file" s_find_file) rfl
    f_find_maker := c1.def_ 6 (d := dD "find_maker" s_find_maker) rfl
    f_sources_among := c1.def_ 7 (d := dD "sources_among" s_sources_among) rfl
    f_count_sources := c1.def_ 8 (d := dD "count_sources" s_count_sources) rfl
    f_sources_below := c1.def_ 9 (d := dD "sources_below" s_sources_below) rfl
    f_makers_of_inputs := c1.def_ 10 (d := dD "makers_of_inputs" s_makers_of_inputs) rfl
    f_is_ready := c1.def_ 11 (d := dD "is_ready" s_is_ready) rfl
    f_sorted_records := c1.def_ 12 (d := dD "sorted_records" s_sorted_records) rfl
    f_find_record := c1.def_ 13 (d := dD "find_record" s_find_record) rfl
    f_names_of := c1.def_ 14 (d := dD "names_of" s_names_of) rfl
    f_changed_names := c1.def_ 15 (d := dD "changed_names" s_changed_names) rfl
    f_is_defined_alike := c1.def_ 16 (d := dD "is_defined_alike" s_is_defined_alike) rfl
    f_compare_records := c1.def_ 17 (d := dD "compare_records" s_compare_records) rfl
    f_compare_with_second := c1.def_ 18 (d := dD "compare_with_second" s_compare_with_second) rfl
    f_find_differences := c1.def_ 19 (d := dD "find_differences" s_find_differences) rfl
    f_difference_named := c1.def_ 20 (d := dD "difference_named" s_difference_named) rfl
    f_unlike_maker := c1.def_ 21 (d := dD "unlike_maker" s_unlike_maker) rfl
    f_is_root := c1.def_ 22 (d := dD "is_root" s_is_root) rfl
    f_root_names := c1.def_ 23 (d := dD "root_names" s_root_names) rfl
    f_next_cause := c1.def_ 24 (d := dD "next_cause" s_next_cause) rfl
    f_chain_names := c1.def_ 25 (d := dD "chain_names" s_chain_names) rfl
    f_codes := c1.def_ 26 (d := dD "codes" s_codes) rfl
    f_is_digit := c1.def_ 27 (d := dD "is_digit" s_is_digit) rfl
    f_is_letter := c1.def_ 28 (d := dD "is_letter" s_is_letter) rfl
    f_begins_word := c1.def_ 29 (d := dD "begins_word" s_begins_word) rfl
    f_continues_word := c1.def_ 30 (d := dD "continues_word" s_continues_word) rfl
    f_word_kind := c1.def_ 31 (d := dD "word_kind" s_word_kind) rfl
    f_is_name := c1.def_ 32 (d := dD "is_name" s_is_name) rfl
    f_counted_lines := c1.def_ 33 (d := dD "counted_lines" s_counted_lines) rfl
    f_answer_unlike := c1.def_ 34 (d := dD "answer_unlike" s_answer_unlike) rfl
    f_answer_first := c1.def_ 35 (d := dD "answer_first" s_answer_first) rfl
    f_answer_why := c1.def_ 36 (d := dD "answer_why" s_answer_why) rfl
    f_answer_steady := c1.def_ 37 (d := dD "answer_steady" s_answer_steady) rfl
    f_answer_of_pair := c1.def_ 38 (d := dD "answer_of_pair" s_answer_of_pair) rfl
    f_word_row := c1.def_ 39 (d := dD "word_row" s_word_row) rfl
    f_file_row := c1.def_ 40 (d := dD "file_row" s_file_row) rfl
    f_record_rows := c1.def_ 41 (d := dD "record_rows" s_record_rows) rfl
    f_plain_text := c1.def_ 42 (d := dD "plain_text" s_plain_text) rfl
    f_is_blank := c1.def_ 43 (d := dD "is_blank" s_is_blank) rfl
    f_skip_blanks := c1.def_ 44 (d := dD "skip_blanks" s_skip_blanks) rfl
    f_word_end := c1.def_ 45 (d := dD "word_end" s_word_end) rfl
    f_number_end := c1.def_ 46 (d := dD "number_end" s_number_end) rfl
    f_token_end := c1.def_ 47 (d := dD "token_end" s_token_end) rfl
    f_token_kind := c1.def_ 48 (d := dD "token_kind" s_token_kind) rfl
    f_scan := c1.def_ 49 (d := dD "scan" s_scan) rfl
    f_misplaced := c1.def_ 50 (d := dD "misplaced" s_misplaced) rfl
    f_number_of := c1.def_ 51 (d := dD "number_of" s_number_of) rfl
    f_fill := c1.def_ 52 (d := dD "fill" s_fill) rfl
    f_build := c1.def_ 53 (d := dD "build" s_build) rfl
    f_record_above_limits := c1.def_ 54 (d := dD "record_above_limits" s_record_above_limits) rfl
    f_above_limits := c1.def_ 55 (d := dD "above_limits" s_above_limits) rfl
    f_read_log := c1.def_ 56 (d := dD "read_log" s_read_log) rfl
    f_is_slot := c1.def_ 57 (d := dD "is_slot" s_is_slot) rfl
    f_logs_refusal := c1.def_ 58 (d := dD "logs_refusal" s_logs_refusal) rfl
    f_file_refusal := c1.def_ 59 (d := dD "file_refusal" s_file_refusal) rfl
    f_answer_read := c1.def_ 60 (d := dD "answer_read" s_answer_read) rfl
    f_answer_where := c1.def_ 61 (d := dD "answer_where" s_answer_where) rfl
    f_answer_plain := c1.def_ 62 (d := dD "answer_plain" s_answer_plain) rfl
    f_answer_stats := c1.def_ 63 (d := dD "answer_stats" s_answer_stats) rfl
    f_answer_made := c1.def_ 64 (d := dD "answer_made" s_answer_made) rfl
    f_answer_rests := c1.def_ 65 (d := dD "answer_rests" s_answer_rests) rfl
    f_answer_of_file := c1.def_ 66 (d := dD "answer_of_file" s_answer_of_file) rfl
    f_answer_sorted := c1.def_ 67 (d := dD "answer_sorted" s_answer_sorted) rfl
    f_answer_drop := c1.def_ 68 (d := dD "answer_drop" s_answer_drop) rfl
    f_answer_of_log := c1.def_ 69 (d := dD "answer_of_log" s_answer_of_log) rfl
    f_answer := c1.def_ 70 (d := dD "answer" s_answer) rfl
    f_answers := c1.def_ 71 (d := dD "answers" s_answers) rfl
    f_File_init := c1.def_ 72 (d := dM "File" "__init__" "File.__init__" s_File_init) rfl
    f_Record_init := c1.def_ 73 (d := dM "Record" "__init__" "Record.__init__" s_Record_init) rfl
    f_Log_init := c1.def_ 74 (d := dM "Log" "__init__" "Log.__init__" s_Log_init) rfl
    f_Difference_init := c1.def_ 75 (d := dM "Difference" "__init__" "Difference.__init__" s_Difference_init) rfl
    f_Token_init := c1.def_ 76 (d := dM "Token" "__init__" "Token.__init__" s_Token_init) rfl
    f_Reading_init := c1.def_ 77 (d := dM "Reading" "__init__" "Reading.__init__" s_Reading_init) rfl
    says := c }
section
variable (P : Program) (w : World) (K : PySem.W.Frag) (mg : Str → Option Value) (base : Heap)
/-- a def of the text, where it stands and what it promises -/
structure Has (x : Str) (k : Nat) (ps : List Str) (sp : Sp) : Prop where
  ex : ∃ fd, FnOk P w K mg base CX0 k (He.ga K x) fd ps sp ∧ Binds K fd ps []
  kp : PySem.W.keepIn K (.ref (He.ga K x)) = true
  gl : mg x = some (.ref (He.ga K x))
/-- a class of the text whose instances are made by its __init__ -/
structure HasC (x : Str) (k : Nat) (ps : List Str) (sp : Sp) (fs : List Str) : Prop where
  ex : ∃ f fd, Mk K (He.ga K x) f ∧ FnOk P w K mg base CX0 k f fd ps sp ∧ Binds K fd ps []
  cl : Cls K (He.ga K x)
  na : ∀ f ∈ fs, NoAttr K (He.ga K x) f
  gl : mg x = some (.ref (He.ga K x))
end
end Bl

-- part W1
set_option Elab.async false
set_option linter.all false
set_option maxRecDepth 100000
set_option maxHeartbeats 4000000
namespace Bl
open PySem PySem.Spec PyProof.Rows L2 Evl
/-! ### rules that the layer lacks -/
section
variable {X : Cx} {k : Nat} {ps : List Str} {sp : Sp} {x : Str} {p pos : Pos} {e : Expr} {es : List Expr} {t : TA}
theorem pe_gi {i : Int} (hg : Gl X x) (h : ∃ t, X.mg x = some (.int i t)) (hd : (x == ("__debug__" : Str)) = false := by decide) : PE X (.Name x pos) (tC (.int i)) := by
  obtain ⟨t, e⟩ := h
  exact pe_glob hg e ⟨t, rfl⟩ hd
theorem pe_gr {a : Addr} (hg : Gl X x) (h : X.mg x = some (.ref a)) (hd : (x == ("__debug__" : Str)) = false := by decide) : PE X (.Name x pos) (tC (.ref a)) := pe_glob hg h rfl hd
theorem pe_h (h : Has X.prog X.w X.K X.mg X.base x k ps sp) (hr : Room k X.A) (hg : Gl X x) (ha : PA X (e :: es) t) (hdb : (x == ("__debug__" : Str)) = false := by decide)
    (he : starEach (e :: es) X.env = (false, eval e X.env) :: starEach es X.env := by rfl) (hpl : (backTo pos (starEach es X.env)).any (·.1) = false := by rfl) : PE X (.Call (.Name x p) (e :: es) [] pos) (tCall sp [] E0 t) := by
  obtain ⟨fd, F, b⟩ := h.ex
  exact pe_call F hr hg h.gl h.kp b .nil pass0 ha hdb he hpl
theorem pe_hc {fs : List Str} (h : HasC X.prog X.w X.K X.mg X.base x k ps sp fs) (hr : Room (k + 1) X.A) (hg : Gl X x) (ha : PA X (e :: es) t) (hdb : (x == ("__debug__" : Str)) = false := by decide)
    (he : starEach (e :: es) X.env = (false, eval e X.env) :: starEach es X.env := by rfl) (hpl : (backTo pos (starEach es X.env)).any (·.1) = false := by rfl) : PE X (.Call (.Name x p) (e :: es) [] pos) (tMake (He.ga X.K x) sp [] E0 t) := by
  obtain ⟨f, fd, M, F, b⟩ := h.ex
  exact pe_make M F hr hg h.gl b .nil pass0 ha hdb he hpl
end
theorem extend_tup (l : Addr) (items : Array Value) (n : Nat) (b : Addr) (items2 : Array Value) (n2 : Nat) (od : Option Addr) (sl : Array (Option Value)) (hs0 : ¬(!items.isEmpty && Builtin.List.listTooLong (items.size + items2.size)) = true) (hs1 : items.size ≤ sizeLine) (hs2 : items.size + items2.size ≤ sizeLine + 1) :
    Meets (Builtin.«list.extend» ⟨[.ref l, .ref b], []⟩) (fun _ R s => s.heap.get? l = some { cls := .type "list", dict := none, data := .seq items n, slots := #[] } ∧ s.heap.get? b = some { cls := .type "tuple", dict := od, data := .seq items2 n2, slots := sl } ∧
      R (.ok (.ret Value.none)) { s with heap := s.heap.update l (Obj.mapSeq fun x => x ++ items2), toks := s.toks }) :=
  .of_wp fun prog w A R s h => by
    obtain ⟨hp, g, d, tk, os⟩ := s
    obtain ⟨hl, hb, h⟩ := h
    have f1 := AutoSeq1.idx_int
    have f2 := AutoSeq1.sub_tuple_tuple
    have f3 := AutoSeq1.sub_list_list
    have f4 := AutoSeq1.sub_tuple_list
    have f5 := AutoSeq1.sub_list_tuple
    have hz' : (items ++ items2).size ≤ sizeLine + 1 := by
      rw [Array.size_append]
      exact hs2
    wp_walk using (wpAny_updateSeq hl rfl (hz := hs1) (_hz' := hz')), wpAny_loadPart' hl, wpAny_loadPart' hb
    exact ⟨_, rfl, h⟩
section
variable {X : Cx}
def rExtendT : V → List V → Hp → VK → Prop := fun x vs H Q => ∃ l b xs zs, x = .ref l ∧ vs = [.ref b] ∧ H l = some (.lst xs) ∧ H b = some (.tup zs) ∧ xs.length + zs.length ≤ sizeLine ∧ Q .non (upd H l (.lst (xs ++ zs)))
theorem mt_extendT : MtM X "list.extend" rExtendT := by
  intro pins s σ H x vs v us Q I rx rv h
  obtain ⟨l, b, xs, zs, rfl, rfl, hH, hB, hz, q⟩ := h
  cases rx
  obtain ⟨u, rfl, ru⟩ := rv.one
  cases ru
  obtain ⟨z, its, n, r, hl, e⟩ := I.lstM hH
  obtain ⟨z2, its2, r2, ob, eb, hc, n2, hd⟩ := I.hok _ _ hB
  obtain ⟨oc, od, dt, sl⟩ := ob
  have hc' : oc = .type "tuple" := hc
  have hd' : dt = .seq its2.toArray n2 := hd
  subst hc' hd'
  have l2 := r2.length
  have hsz : its.toArray.size + its2.toArray.size ≤ sizeLine := by
    rw [List.size_toArray, List.size_toArray]
    omega
  have hlong : ¬ (!its.toArray.isEmpty && Builtin.List.listTooLong (its.toArray.size + its2.toArray.size)) = true := by
    rw [notLongL hsz, Bool.and_false]
    exact Bool.false_ne_true
  refine call_meets F.slot_list_extend ⟨_, e, rfl⟩ F.entry_list_extend (F.args_list_extend_2 _ _) (extend_tup l its.toArray n b its2.toArray n2 od sl hlong (by rw [List.size_toArray]; omega) (by omega)) ⟨e, eb, ?_⟩
  refine ⟨.non, _, I.lset (its' := its ++ its2) hH e (by simp) (r.append r2) ?_, rfl, q⟩
  rw [List.length_append]
  omega
end
end Bl

-- part W2
set_option Elab.async false
set_option linter.all false
set_option maxRecDepth 100000
set_option maxHeartbeats 4000000
namespace Bl
open PySem PySem.Spec PyProof.Rows L2 Evl
/-! ### sorted(xs), xs a list of tuples of ints, none empty -/
def IsTi (h : Heap) (v : Value) (ns : List Int) : Prop := ∃ a o its n, v = .ref a ∧ h.get? a = some o ∧ o.cls = .type "tuple" ∧ o.data = .seq (its : List Value).toArray n ∧ Vals (ns.map V.int) its
theorem IsTi.keeps {h h' : Heap} {v : Value} {ns : List Int} (p : IsTi h v ns) (k : ∀ b o, h.get? b = some o → o.cls = .type "tuple" → h'.get? b = some o) : IsTi h' v ns := by
  obtain ⟨a, o, its, n, e, ho, hc, hd, r⟩ := p
  exact ⟨a, o, its, n, e, k _ _ ho hc, hc, hd, r⟩
theorem vals_int_cons {n : Int} {ns : List Int} {its : List Value} (r : Vals ((n :: ns).map V.int) its) : ∃ t r2, its = .int n t :: r2 ∧ Vals (ns.map V.int) r2 := by
  cases r with
  | cons h1 h2 =>
    obtain ⟨t, rfl⟩ := h1
    exact ⟨t, _, rfl, h2⟩
theorem vals_int_nil {its : List Value} (r : Vals (([] : List Int).map V.int) its) : its = [] := by
  cases r
  rfl
theorem firsts_ti {h : Heap} {k : Value → List Int} : ∀ {vs : List Value}, (∀ v ∈ vs, IsTi h v (k v) ∧ k v ≠ []) → ∃ fs : List Value, PySem.W.KatTups h vs fs ∧ fs.length = vs.length ∧ ∀ f ∈ fs, ∃ x t, f = Value.int x t
  | [], _ => ⟨[], PySem.W.KatTups.nil, rfl, fun _ hm => by simp at hm⟩
  | v :: vs, hp => by
    obtain ⟨fs, h1, h2, h3⟩ := firsts_ti (vs := vs) fun u hm => hp u (List.mem_cons_of_mem _ hm)
    obtain ⟨⟨a, o, its, n, e, ho, hc, hd, r⟩, hne⟩ := hp v List.mem_cons_self
    cases q : k v with
    | nil => exact absurd q hne
    | cons x xs =>
      rw [q] at r
      obtain ⟨t, r2, rfl, _⟩ := vals_int_cons r
      subst e
      refine ⟨.int x t :: fs, PySem.W.KatTups.cons ho hc hd rfl h1, by rw [List.length_cons, List.length_cons, h2], fun f hm => ?_⟩
      rcases List.mem_cons.mp hm with rfl | hm
      · exact ⟨x, t, rfl⟩
      · exact h3 f hm
section
variable {prog : Program} {w : World} {A : Around} {s : Shared}
theorem kat_ints {fin : Bool} {Q : Bool → Shared → Prop} : ∀ (ns ms : List Int) (xs ys : List Value) (i : Nat), Vals (ns.map V.int) xs → Vals (ms.map V.int) ys → (∀ a b : List Int, ns.length + b.length = ms.length + a.length → a.length ≤ b.length → b.length ≤ a.length → True) →
    (fin = decide (xs.length < ys.length)) → Q (HT.lexLt ns ms) s → PySem.W.KatLex prog w A true fin Q (xs.zip ys) i s
  | [], [], xs, ys, i, r1, r2, _, hf, h => by
    have e1 := vals_int_nil r1
    have e2 := vals_int_nil r2
    subst e1 e2
    refine PySem.W.kat_nil ?_
    rw [hf]
    exact h
  | [], m :: ms, xs, ys, i, r1, r2, _, hf, h => by
    have e1 := vals_int_nil r1
    subst e1
    obtain ⟨t, y2, rfl, r3⟩ := vals_int_cons r2
    refine PySem.W.kat_nil ?_
    rw [hf]
    exact h
  | n :: ns, [], xs, ys, i, r1, r2, _, hf, h => by
    have e2 := vals_int_nil r2
    subst e2
    obtain ⟨t, x2, rfl, r3⟩ := vals_int_cons r1
    refine PySem.W.kat_nil ?_
    rw [hf]
    exact h
  | n :: ns, m :: ms, xs, ys, i, r1, r2, _, hf, h => by
    obtain ⟨t, x2, rfl, r3⟩ := vals_int_cons r1
    obtain ⟨u, y2, rfl, r4⟩ := vals_int_cons r2
    show PySem.W.KatLex prog w A true fin Q ((Value.int n t, Value.int m u) :: x2.zip y2) i s
    rw [HT.lexLt_cons] at h
    refine PySem.W.kat_cons (SeqAt.EqAt.int_int n t m u prog w _ _ ?_)
    refine PySem.W.kat_go (fun e1 => ?_) (fun e1 => ?_)
    · have ex : n = m := by simpa using e1
      rw [if_pos ex] at h
      refine PySem.W.kat_yes (kat_ints ns ms x2 y2 (i + 1) r3 r4 (fun _ _ _ _ _ => trivial) ?_ h)
      rw [hf]
      simp
    · have ex : ¬ n = m := by simpa using e1
      rw [if_neg ex] at h
      exact PySem.W.kat_no (TS.oneLt_ints _ h)
theorem ti_cmp {vs : List Value} {k : Value → List Int} (hp : ∀ v ∈ vs, IsTi s.heap v (k v)) : SrtO.Cmp prog w A s (tuples' true) (fun p => p.1 ∈ vs) (SrtO.lt2 fun v u => HT.lexLt (k v) (k u)) := by
  intro p q hm hm'
  have h1 := hp _ hm
  have h2 := hp _ hm'
  show wpAny (model prog w) A (keyLt' (tuples' true) p.1 q.1) (fun r s' => s' = s ∧ r = HT.lexLt (k p.1) (k q.1)) (fun _ _ => False) s
  obtain ⟨a, o, its, n, e, ho, hc, hd, r⟩ := h1
  obtain ⟨a', o', its', n', e', ho', hc', hd', r'⟩ := h2
  generalize hk1 : k p.1 = ns at r
  generalize hk2 : k q.1 = ms at r'
  rw [e, e']
  refine PySem.W.kat_lt ho hd ho' hd' ?_
  exact kat_ints ns ms its its' 0 r r' (fun _ _ _ _ _ => trivial) (by simp) ⟨rfl, rfl⟩
theorem ti_sortable {a : Addr} {vs : List Value} {k : Value → List Int} (h0 : 0 < vs.length) (hp : ∀ v ∈ vs, IsTi s.heap v (k v) ∧ k v ≠ []) (ha : ∀ o, s.heap.get? a = some o → o.cls ≠ .type "tuple") : SrtO.SortableO prog w A s a vs fun v u => HT.lexLt (k v) (k u) := by
  intro h' keep
  have hp' : ∀ v ∈ vs, IsTi h' v (k v) ∧ k v ≠ [] := fun v hm => ⟨(hp v hm).1.keeps fun b o e c => keep b o (fun z => by subst z; exact ha o e c) e, (hp v hm).2⟩
  obtain ⟨fs, h1, h2, h3⟩ := firsts_ti hp'
  refine ⟨tuples' true, fun Q E hq => ?_, ti_cmp fun v hm => (hp' v hm).1⟩
  refine PySem.W.kat_kind (T := .type "int") h1 (by omega) (fun f hm => ?_) (by rfl) ?_
  · obtain ⟨x, t, rfl⟩ := h3 f hm
    exact PySem.W.Looks.now
  · have e : (Value.type "int" != Value.type "tuple") = true := by decide +kernel
    rw [e]
    exact hq
theorem sorted_ti {l : Addr} {vs : List Value} {k : Value → List Int} {Q : Value → Shared → Prop} {E : Value → Shared → Prop} (hl : s.heap.IsList l vs.toArray) (hz : vs.length ≤ sizeLine) (hp : ∀ v ∈ vs, IsTi s.heap v (k v) ∧ k v ≠ [])
    (h : ∀ (h' : Heap) (d : Addr) (out : List Value), SrtO.Srtd (fun v u => HT.lexLt (k v) (k u)) out → SrtO.Stb (fun v u => HT.lexLt (k v) (k u)) out vs → (∀ b o, s.heap.get? b = some o → h'.get? b = some o) → s.heap.objs.size ≤ d → (∃ n, h'.get? d = some (seqObj "list" out.toArray n)) → Q (.ref d) { s with heap := h' }) :
    wpAny (model prog w) A (call (.builtin "sorted") [.ref l]) Q E s := by
  refine SrtO.sorted_ord (NtL.swo_lexL k) hl hz (fun h2 h1 a ha kk => ?_) fun out hs hb => ?_
  · refine ti_sortable (s := { s with heap := h1 }) (by omega) (fun v hm => ⟨(hp v hm).1.keeps fun b o e _ => (kk b o e).2, (hp v hm).2⟩) fun o e => ?_
    have e' : some o = some (seqObj "list" vs.toArray 0) := e.symm.trans ha
    cases e'
    intro c
    exact absurd (Value.type.inj c) (by decide)
  · exact h _ _ out hs hb (fun b o e => sortedAll_old e) (Nat.le_succ _) (sortedAll_at s.heap vs out.toArray)
end
/-- sorted(xs), xs a list of tuples of ints (k says which), none empty: a new list, in the tuples' order, equal ones in their order -/
def rSortedX (K : PySem.W.Frag) : List V → Hp → VK → Prop := fun vs H Q => ∃ (a : Addr) (xs : List V) (k : V → List Int), vs = [V.ref a] ∧ SqL K H a xs ∧ (∀ x ∈ xs, ∃ t, x = V.ref t ∧ H t = some (.tup ((k x).map V.int)) ∧ k x ≠ []) ∧
  ∀ ys p, SrtO.Srtd (fun x y => HT.lexLt (k x) (k y)) ys → SrtO.Stb (fun x y => HT.lexLt (k x) (k y)) ys xs → H p = none → Q (.ref p) (upd H p (.lst ys))
theorem cr_sortedX {X : Cx} : CallR X (.builtin "sorted") (rSortedX X.K) := by
  intro pins s σ H vs us Q I r h
  obtain ⟨a, xs, k, rfl, hs, hx, q⟩ := h
  obtain ⟨its, rv, hl, hz⟩ := I.list hs
  obtain ⟨u, rfl, ru⟩ := vals1 r
  obtain rfl : u = Value.ref a := ru
  obtain ⟨e1, e2⟩ := refs_back rv fun x m => by
    obtain ⟨t, e, _⟩ := hx x m
    exact ⟨t, e⟩
  refine sorted_ti (k := fun u => k (backV u)) hl.isList (by rw [← rv.length]; exact hz) (fun v hv => ?_) fun h' d out h1 h2 kp hd hn => ?_
  · obtain ⟨t, rfl⟩ := e2 v hv
    have hm : V.ref t ∈ xs := by
      rw [e1]
      exact List.mem_map.mpr ⟨_, hv, rfl⟩
    obtain ⟨t', e, ht, hne⟩ := hx _ hm
    cases e
    obtain ⟨_, its2, r2, o, ho, hc, n, hdt⟩ := I.hok _ _ ht
    exact ⟨⟨t, o, its2, n, rfl, ho, hc, hdt, r2⟩, hne⟩
  · have h3 : ∀ u ∈ out, ∃ a, u = Value.ref a := fun u hu => e2 u (h2.perm.mem_iff.mp hu)
    obtain ⟨n, hn⟩ := hn
    have hb : SrtO.Stb (fun x y => HT.lexLt (k x) (k y)) (out.map backV) xs := by
      rw [e1]
      exact SrtO.Stb.map (NtL.swo_lexL k) backV h2
    refine ⟨.ref d, upd H d (.lst (out.map backV)), I.laid (t' := s.toks) kp hd ⟨?_, out, n, vals_back h3, hn⟩, rfl, q _ d (SrtO.srtd_map h1) hb (I.hok.fresh hd)⟩
    rw [hb.len]
    exact hz
/-! ### len of a set of tuples -/
def rLenTS (K : PySem.W.Frag) (P : Program) (w : World) : List V → Hp → VK → Prop := fun vs H Q => ∃ (a : Addr) (L : List (Addr × List Int)), vs = [V.ref a] ∧ H a = some (SetTO P w a L) ∧ (∀ p ∈ L, SqT K H p.1 (p.2.map V.int)) ∧ ((L.map (·.2)).Nodup → Q (.int (L.length : Nat)) H)
theorem call_lenTS {X : Cx} : CallR X (.builtin "len") (rLenTS X.K X.prog X.w) := by
  intro pins s σ H vs us Q I r h
  obtain ⟨a, L, rfl, ha, hk, q⟩ := h
  have R0 : SetT0 X.prog X.w s.heap a L := (I.hok a _ ha).1
  obtain ⟨es, ep, t, R⟩ := R0.full fun p hp => I.isT (hk p hp)
  rw [Vals.ref1 r]
  obtain ⟨o, ho, hex, hd⟩ := R.ob
  have hn := R.size
  have hf := R.fits
  refine call_len_set ho hex hd hf ?_ ⟨.int (L.length : Nat), H, I.tok _, ⟨_, by rw [hn]⟩, q R.nd⟩
  rw [hn]
  have := R.few
  omega
end Bl

-- part W3
set_option Elab.async false
set_option linter.all false
set_option maxRecDepth 100000
set_option maxHeartbeats 4000000
namespace Bl
open PySem PySem.Spec PyProof.Rows L2 Evl
/-! ### the table STEPS -/
theorem strOf_some {v : Value} {x : Str} (h : strOf v = some x) : ∃ t, v = .str x t := by
  cases v with
  | str y t =>
    have e : y = x := Option.some.inj h
    rw [e]
    exact ⟨t, rfl⟩
  | _ => cases h
theorem map_strOf : ∀ {its : List Value} {xs : List Str}, its.map strOf = xs.map some → ∀ {P : Program} {w : World}, ItemsAre (mixKind P w) (xs.map Sum.inr) its
  | [], [], _, _, _ => .nil
  | [], _ :: _, h, _, _ => by cases h
  | _ :: _, [], h, _, _ => by cases h
  | v :: its, x :: xs, h, P, w => by
    have h1 : strOf v :: its.map strOf = some x :: xs.map some := h
    injection h1 with h2 h3
    obtain ⟨t, rfl⟩ := strOf_some h2
    exact .cons (keyIs_str x t) (map_strOf h3)
theorem items_ok {K : PySem.W.Frag} {v : Value} {xs : List Str} (h : itemsOf K v = some (xs.map some)) : ∃ a, v = .ref a ∧ ∀ {P : Program} {w : World} (hp : Heap), K.In hp → (tupleKind (mixKind P w)).is hp (xs.map Sum.inr) a := by
  cases v with
  | ref a =>
    refine ⟨a, rfl, fun {P w} hp hK => ?_⟩
    have h1 : (match K.lookup a with
      | some ⟨.type c, _, .seq its _, _⟩ => (match decide (c = "tuple") with
        | true => some (its.toList.map strOf)
        | false => none)
      | _ => none) = some (xs.map some) := h
    cases q : K.lookup a with
    | none =>
      rw [q] at h1
      cases h1
    | some o =>
      obtain ⟨oc, od, dt, sl⟩ := o
      rw [q] at h1
      cases oc with
      | type c =>
        cases dt with
        | seq its n =>
          have h2 : (match decide (c = "tuple") with
            | true => some (its.toList.map strOf)
            | false => none) = some (xs.map some) := h1
          cases e : decide (c = "tuple") with
          | false =>
            rw [e] at h2
            cases h2
          | true =>
            rw [e] at h2
            exact ⟨_, its, n, hK a _ q, congrArg Value.type (of_decide_eq_true e), rfl, map_strOf (Option.some.inj h2)⟩
        | _ => cases h1
      | _ => cases dt <;> cases h1
  | _ => cases h
/-- the rows of the table, by what was looked at -/
theorem rows_ok {K : PySem.W.Frag} {w : World} : ∀ {es : List DictEntry} {en : List Hd.Ent}, es.map (fun e => (e.hash, itemsOf K e.key, strOf e.val)) = en.map (fun e => (Hd.hsh P0 w e.key, some [some e.a, some e.b], some e.v)) →
    ∃ xs : List (List Key × Addr × Value), es = xs.map (entryOfKey (tupleKind (mixKind P0 w))) ∧ xs.map (·.1) = en.map Hd.Ent.key ∧ (∀ x ∈ xs, ∀ hp : Heap, K.In hp → (tupleKind (mixKind P0 w)).is hp x.1 x.2.1) ∧ Paired (fun (x : List Key × Addr × Value) (e : Hd.Ent) => ∃ t, x.2.2 = .str e.v t) xs en
  | [], [], _ => ⟨[], rfl, rfl, fun x hx => (by cases hx), .nil⟩
  | [], _ :: _, h => by cases h
  | _ :: _, [], h => by cases h
  | e :: es, n :: en, h => by
    have h1 : (e.hash, itemsOf K e.key, strOf e.val) :: es.map (fun e => (e.hash, itemsOf K e.key, strOf e.val)) = (Hd.hsh P0 w n.key, some [some n.a, some n.b], some n.v) :: en.map (fun e => (Hd.hsh P0 w e.key, some [some e.a, some e.b], some e.v)) := h
    injection h1 with h2 h3
    obtain ⟨xs, e1, e2, e3, e4⟩ := rows_ok h3
    injection h2 with a1 a2
    injection a2 with a2 a3
    obtain ⟨a, ea, ha⟩ := items_ok (xs := [n.a, n.b]) a2
    obtain ⟨t, et⟩ := strOf_some a3
    obtain ⟨eh, ek, ev⟩ := e
    have a1' : eh = Hd.hsh P0 w n.key := a1
    have ea' : ek = .ref a := ea
    have et' : ev = .str n.v t := et
    subst a1' ea' et'
    refine ⟨(n.key, a, .str n.v t) :: xs, by rw [List.map_cons, ← e1]; rfl, by rw [List.map_cons, List.map_cons, e2], fun x hx hp hK => ?_, .cons ⟨t, rfl⟩ e4⟩
    rcases List.mem_cons.mp hx with rfl | hx
    · exact ha hp hK
    · exact e3 x hx hp hK
theorem ents_nd : (ents.map Hd.Ent.key).Nodup := by decide +kernel
/-- the step table as a function: what stands behind a pair of texts -/
def stepOf (a b : Str) : Option Str := (ents.find? fun e => decide (e.key = [Sum.inr a, Sum.inr b])).map (·.v)
theorem at_paired {k : List Key} : ∀ {xs : List (List Key × Addr × Value)} {en : List Hd.Ent}, xs.map (·.1) = en.map Hd.Ent.key → Paired (fun (x : List Key × Addr × Value) (e : Hd.Ent) => ∃ t, x.2.2 = .str e.v t) xs en →
    (match (en.find? fun e => decide (e.key = k)).map (·.v) with
      | some v => ∃ a t, atKey xs k = some (a, .str v t)
      | none => atKey xs k = none)
  | [], [], _, _ => rfl
  | [], _ :: _, h, _ => by cases h
  | _ :: _, [], h, _ => by cases h
  | x :: xs, e :: en, h, .cons h1 h2 => by
    have h3 : x.1 :: xs.map (·.1) = e.key :: en.map Hd.Ent.key := h
    injection h3 with h4 h5
    obtain ⟨t, ht⟩ := h1
    unfold atKey
    by_cases q : e.key = k
    · rw [List.find?_cons_of_pos (by exact decide_eq_true q), List.find?_cons_of_pos (by exact decide_eq_true (h4.trans q))]
      exact ⟨x.2.1, t, by rw [← ht]; rfl⟩
    · rw [List.find?_cons_of_neg (by rw [decide_eq_false q]; decide), List.find?_cons_of_neg (by rw [decide_eq_false (fun z => q (h4.symm.trans z))]; decide)]
      exact at_paired h5 h2
theorem steps_tab {w : World} {K : PySem.W.Frag} (c : obsB K = valB w) : ((He.ga K "STEPS") == sysModules) = false ∧ ∃ xs : List (List Key × Addr × Value), (∀ hp : Heap, K.In hp → hp.DictOfH (tupleKind (mixKind P0 w)) (He.ga K "STEPS") xs) ∧
    ∀ a b : Str, (match stepOf a b with
      | some v => ∃ d t, atKey xs [Sum.inr a, Sum.inr b] = some (d, .str v t)
      | none => atKey xs [Sum.inr a, Sum.inr b] = none) := by
  have h : stepsObs K = stepsVal w := congrArg (fun z : AlB => z.2.2) c
  unfold stepsObs stepsVal at h
  cases q : K.lookup (He.ga K "STEPS") with
  | none =>
    rw [q] at h
    cases h
  | some o =>
    obtain ⟨oc, od, dt, sl⟩ := o
    rw [q] at h
    cases oc with
    | type c0 =>
      cases od with
      | none =>
        cases dt with
        | dict es n =>
          have h1 : (match decide (c0 = "dict") && (sl.isEmpty && !(He.ga K "STEPS" == sysModules)) with
            | true => some (es.toList.map fun e => (e.hash, itemsOf K e.key, strOf e.val))
            | false => none) = some (ents.map fun e => (Hd.hsh P0 w e.key, some [some e.a, some e.b], some e.v)) := h
          cases z : decide (c0 = "dict") && (sl.isEmpty && !(He.ga K "STEPS" == sysModules)) with
          | false =>
            rw [z] at h1
            cases h1
          | true =>
            rw [z] at h1
            obtain ⟨z1, z2⟩ := Bool.and_eq_true_iff.mp z
            obtain ⟨z3, z4⟩ := Bool.and_eq_true_iff.mp z2
            have ec : c0 = "dict" := of_decide_eq_true z1
            have el : sl = #[] := Array.isEmpty_iff.mp z3
            have es0 : (He.ga K "STEPS" == sysModules) = false := by
              cases y : (He.ga K "STEPS" == sysModules) with
              | false => rfl
              | true =>
                rw [y] at z4
                cases z4
            subst ec el
            obtain ⟨xs, e1, e2, e3, e4⟩ := rows_ok (Option.some.inj h1)
            refine ⟨es0, xs, fun hp hK => ⟨_, es, n, hK _ _ q, ⟨rfl, rfl, rfl⟩, rfl, e1, fun x hx => e3 x hx hp hK, by rw [e2]; exact ents_nd⟩, fun a b => ?_⟩
            exact at_paired e2 e4
        | _ => cases h
      | some d => cases dt <;> cases h
    | _ => cases od <;> cases dt <;> cases h
section
variable {X : Cx}
theorem tupKey_of {pins : List (Addr × Obj)} {σ : L2.St} {H : Hp} {s : Shared} {t : Addr} {a b : Str} (I : L2.Inv X pins σ H s) (h : H t = some (.tup [.str a, .str b])) : (tupleKind (mixKind X.prog X.w)).is s.heap [Sum.inr a, Sum.inr b] t := by
  obtain ⟨_, its, r, o, ho, hc, n, hd⟩ := I.hok _ _ h
  obtain ⟨u1, u2, rfl, r1, r2⟩ := vals2 r
  obtain ⟨t1, rfl⟩ := r1
  obtain ⟨t2, rfl⟩ := r2
  exact ⟨o, _, n, ho, hc, hd, .cons (keyIs_str a t1) (.cons (keyIs_str b t2) .nil)⟩
/-- (a, b) not in STEPS -/
def rStepsNo (K : PySem.W.Frag) : R2 := fun x y H Q => ∃ t a b, x = .ref t ∧ H t = some (.tup [.str a, .str b]) ∧ y = .ref (He.ga K "STEPS") ∧ Q (.bl (!(stepOf a b).isSome)) H
theorem op_stepsNotIn (hP : X.prog = P0) (T : Txt X.w X.K X.mg) (hu : X.A.units + 1 < cLine) : OpR X (compareOp .NotIn) (rStepsNo X.K) := by
  intro pins s σ H x y v u Q I rx ry h
  obtain ⟨t, a, b, rfl, ht, rfl, q⟩ := h
  cases rx
  cases ry
  obtain ⟨h0, xs, hx, hl⟩ := steps_tab T.says
  have hk := tupKey_of I ht
  rw [hP] at hk ⊢
  refine wpAny_notIn_heap (knd := tupleKind (mixKind P0 X.w)) (k := [Sum.inr a, Sum.inr b]) hu hk h0 (hx _ I.kIn) ?_
  refine ⟨.bl (!(stepOf a b).isSome), H, I.tok _, ?_, q⟩
  have z := hl a b
  cases e : stepOf a b with
  | none =>
    rw [e] at z
    rw [z] <;> rfl
  | some v =>
    rw [e] at z
    obtain ⟨d, t, z⟩ := z
    rw [z] <;> rfl
/-- STEPS[(a, b)] -/
def rStepsGet (K : PySem.W.Frag) : R2 := fun x y H Q => ∃ t a b v, x = .ref (He.ga K "STEPS") ∧ y = .ref t ∧ H t = some (.tup [.str a, .str b]) ∧ stepOf a b = some v ∧ Q (.str v) H
theorem pe_stepsGet {o i : Expr} {td ty : TE} {pos : Pos} (hP : X.prog = P0) (T : Txt X.w X.K X.mg) (hu : X.A.units + 1 < cLine) (ho : PE X o td) (hi : PE X i ty) (hs : NoSl i) : PE X (.Subscript o i pos) (tOp (rStepsGet X.K) td ty) := by
  refine ⟨fun pins s σ H Q I h => ?_⟩
  refine subD_of PySem.F.slot_dict_getitem.lookup hs (thn (ho.run pins s σ H _ I h) fun u s1 ⟨x, H1, I1, rx, q1⟩ => thn (hi.run pins s1 σ H1 _ I1 q1) fun iv s2 ⟨y, H2, I2, ry, t, a, b, v, ex, ey, ht, hv, q2⟩ => ?_)
  subst ex ey
  obtain rfl : u = Value.ref (He.ga X.K "STEPS") := rx
  obtain rfl : iv = Value.ref t := ry
  obtain ⟨h0, xs, hx, hl⟩ := steps_tab T.says
  have hk := tupKey_of I2 ht
  have hm := hx _ I2.kIn
  rw [hP] at hk ⊢
  have z := hl a b
  rw [hv] at z
  obtain ⟨d, tk, z⟩ := z
  exact ⟨hm.typeIs, wpAny_getItem_heap (knd := tupleKind (mixKind P0 X.w)) (k := [Sum.inr a, Sum.inr b]) hu hk hm z ⟨.str v, H2, I2.tok _, ⟨tk, rfl⟩, q2⟩⟩
end
end Bl

-- part W4
set_option Elab.async false
set_option linter.all false
set_option maxRecDepth 100000
set_option maxHeartbeats 4000000
namespace Bl
open PySem PySem.Spec PyProof.Rows L2 Evl
/-! ### what lies in the heap -/
def tv (t : List Nat) : List V := t.map fun (n : Nat) => V.int (n : Int)
def Tx (H : Hp) (a : Addr) (t : List Nat) : Prop := H a = some (.tup (tv t))
theorem Tx.mono {H H' : Hp} {a : Addr} {t : List Nat} (h : Tx H a t) (e : Ex H H') : Tx H' a t := e _ _ h
theorem Tx.sq {K : PySem.W.Frag} {H : Hp} {a : Addr} {t : List Nat} (h : Tx H a t) : SqT K H a (tv t) := st_of h
theorem tv_len (t : List Nat) : (tv t).length = t.length := by unfold tv; rw [List.length_map]
theorem tv_get {t : List Nat} {i : Nat} {n : Nat} (h : t[i]? = some n) : (tv t)[i]? = some (.int (n : Int)) := by unfold tv; rw [List.getElem?_map, h]; rfl
/-- a def that leaves what was there: it gives what Post says -/
def spR (A : List V → Hp → (V → Hp → Prop) → Prop) : Sp := fun vs H Q _ => ∃ Post, A vs H Post ∧ ∀ v H', Ex H H' → Post v H' → Q v H'
theorem ite_b {b : Bool} {A B : Prop} (h1 : b = true → A) (h2 : b = false → B) : if b = true then A else B := by
  cases b with
  | true => exact h1 rfl
  | false => exact h2 rfl
section
variable {w : World} {K : PySem.W.Frag} {mg : Str → Option Value} {base : Heap}
theorem has_of {x : Str} {st : Stmt} {k : Nat} {N ps : List Str} {sp : Sp} (hf : ∃ fd, FnP K x st (He.ga K x) fd) (hg : mg x = some (.ref (He.ga K x))) (S : FnScope N ps (defScope st))
    (hb : ∀ (kV doc pm : Value) (an : Option Addr) (cdv ct : Value) (us : List Value), us.length = ps.length → bindArgs (PySem.W.fnOf x x (defArgs st) (defBody st) (defScope st) .none kV doc pm an cdv ct) ⟨us, []⟩ = pure (ps.zip us))
    (len : ∀ vs H Q E, sp vs H Q E → vs.length = ps.length)
    (body : ∀ (cdv : Value) (A : Around) (outer : List Env) (s : Shared) (H : Hp) (vs : List V) (Q : VK) (E : XK), Room k (A.deeper (envOfC x (defScope st) s.heap.objs.size (He.ga K x) cdv)) → sp vs H Q E →
      ∃ t, PSs (cxOf CX0 P0 w K mg base N x (defScope st) (He.ga K x) cdv A outer s H E) (defBody st) t ∧ t { nx := fun _ H' => Q .non H', rt := Q } (L2.start N vs) H) : Has P0 w K mg base x (k + 1) ps sp := by
  obtain ⟨fd, F⟩ := hf
  exact ⟨⟨fd, F.ok S len body, F.bindsN hb⟩, F.kp, hg⟩
end
/-! ### what an expression gives, by what is true of it -/
section
variable {K : PySem.W.Frag} {σ : L2.St} {H H' : Hp} {ta tb tc te : TE} {t u : TT} {x y z v : V} {r : R2} {Post : V → Hp → Prop} {D : Ends} {tu tw tz : TS}
def EvP (te : TE) (σ : L2.St) (H : Hp) (Post : V → Hp → Prop) : Prop := ∀ H1, Ex H H1 → ∀ Q : VK, (∀ v H2, Ex H1 H2 → Post v H2 → Q v H2) → te σ H1 Q
theorem Ev.p (h : Ev te σ H v) : EvP te σ H (fun x _ => x = v) := fun H1 e Q q => h H1 e Q fun H2 e2 => q v H2 e2 rfl
theorem evp_v (h : EvP te σ H (fun x _ => x = v)) : Ev te σ H v := fun H1 e Q q => h H1 e Q fun x H2 e2 ex => by
  rw [ex]
  exact q H2 e2
theorem EvP.mono (e : Ex H H') (h : EvP te σ H Post) : EvP te σ H' Post := fun H1 a Q q => h H1 (e.trans a) Q q
theorem EvP.imp {Post' : V → Hp → Prop} (h : EvP te σ H Post) (k : ∀ v H1, Ex H H1 → Post v H1 → Post' v H1) : EvP te σ H Post' := fun H1 e Q q => h H1 e Q fun v H2 e2 p => q v H2 e2 (k v H2 (e.trans e2) p)
/-- a call of a def by its promise -/
theorem ep_call {A : List V → Hp → (V → Hp → Prop) → Prop} {ta : TA} {vs : List V} {E : XK} (h : EvA ta σ H vs) (hs : ∀ H1, Ex H H1 → A vs H1 Post) : EvP (tCall (spR A) [] E ta) σ H Post := fun H1 e Q q =>
  h H1 e _ fun H2 e2 => by
    rw [List.append_nil]
    exact ⟨Post, hs H2 (e.trans e2), fun v H3 e3 p => q v H3 (e2.trans e3) p⟩
theorem ev_callR {A : List V → Hp → (V → Hp → Prop) → Prop} {ta : TA} {vs : List V} {E : XK} (h : EvA ta σ H vs) (hs : ∀ H1, Ex H H1 → A vs H1 (fun x _ => x = v)) : Ev (tCall (spR A) [] E ta) σ H v := evp_v (ep_call h hs)
/-- a call whose argument is told by what is true of it -/
theorem ep_callP {A : List V → Hp → (V → Hp → Prop) → Prop} {PA : V → Hp → Prop} {E : XK} (h : EvP ta σ H PA) (hs : ∀ x H1, Ex H H1 → PA x H1 → A [x] H1 Post) : EvP (tCall (spR A) [] E (tCons ta tNil)) σ H Post := fun H1 e Q q =>
  h H1 e _ fun x H2 e2 px => ⟨Post, hs x H2 (e.trans e2) px, fun v H3 e3 p => q v H3 (e2.trans e3) p⟩
/-- two operands -/
theorem ep_op {PA : V → Hp → Prop} {PB : V → Hp → V → Hp → Prop} (ha : EvP ta σ H PA) (hb : ∀ x H1, Ex H H1 → PA x H1 → EvP tb σ H1 (PB x H1))
    (hr : ∀ x H1 y H2, Ex H H1 → PA x H1 → Ex H1 H2 → PB x H1 y H2 → ∀ Q : VK, (∀ v H3, Ex H2 H3 → Post v H3 → Q v H3) → r x y H2 Q) : EvP (tOp r ta tb) σ H Post := fun H1 e Q q =>
  ha H1 e _ fun x H2 e2 px => hb x H2 (e.trans e2) px H2 (Ex.refl H2) _ fun y H3 e3 py => hr x H2 y H3 (e.trans e2) px e3 py Q fun v H4 e4 p => q v H4 ((e2.trans e3).trans e4) p
theorem ev_fld {a C dx : Addr} {fs : List (Str × V)} {f : Str} (h : Ev ta σ H (.ref a)) (ho : H a = some (.ins C dx fs)) (hc : Cls K C) (hn : NoAttr K C f) (hl : fs.lookup f = some v) : Ev (tFld K ta f) σ H v := fun H1 e Q q =>
  h H1 e _ fun H2 e2 => ⟨a, C, dx, fs, v, rfl, e2 _ _ (e _ _ ho), hc, hn, hl, q H2 e2⟩
abbrev rLe : R2 := rI0 fun i j => .bl (decide (i ≤ j))
abbrev rLt : R2 := rI0 fun i j => .bl (decide (i < j))
abbrev rGt' : R2 := rI0 fun i j => .bl (decide (j < i))
abbrev rOrd : List V → Hp → VK → Prop := fun xs H Q => ∃ x, xs = [V.str x] ∧ x.length = 1 ∧ Q (.int (x.cps.getD 0 0 : Nat)) H
theorem ev_chain {a b c : Int} (ha : Ev ta σ H (.int a)) (hb : Ev tb σ H (.int b)) (hc : Ev tc σ H (.int c)) : Ev (tChain rLe rLe ta tb tc) σ H (.bl (decide (a ≤ b) && decide (b ≤ c))) := fun H1 e Q q =>
  ha H1 e _ fun H2 e2 => hb H2 (e.trans e2) _ fun H3 e3 => ⟨a, b, rfl, rfl, _, rfl, ite_b (fun k => hc H3 ((e.trans e2).trans e3) _ fun H4 e4 => ⟨b, c, rfl, rfl, by
    have q4 := q H4 ((e2.trans e3).trans e4)
    rw [k, Bool.true_and] at q4
    exact q4⟩) (fun k => by
    have q3 := q H3 (e2.trans e3)
    rw [k, Bool.false_and] at q3
    exact q3)⟩
theorem ev_ord {x : Str} (h : Ev ta σ H (.str x)) (hl : x.length = 1) : Ev (tCB rOrd (tCons ta tNil)) σ H (.int (x.cps.getD 0 0 : Nat)) := fun H1 e Q q =>
  h H1 e _ fun H2 e2 => ⟨x, rfl, hl, q H2 e2⟩
theorem ev_eqI {a b : Int} (ha : Ev ta σ H (.int a)) (hb : Ev tb σ H (.int b)) : Ev (tOp rEq ta tb) σ H (.bl (decide (a = b))) := by
  refine ev_is (ev_op ha hb (rv_eq rfl)) ?_
  refine congrArg V.bl ?_
  by_cases h : a = b
  · rw [decide_eq_true h, decide_eq_true (by rw [h])]
  · rw [decide_eq_false h, decide_eq_false (fun z => h (V.int.inj z))]
theorem ev_eqS {a b : Str} (ha : Ev ta σ H (.str a)) (hb : Ev tb σ H (.str b)) : Ev (tOp rEq ta tb) σ H (.bl (decide (a = b))) := by
  refine ev_is (ev_op ha hb (rv_eq rfl)) ?_
  refine congrArg V.bl ?_
  by_cases h : a = b
  · rw [decide_eq_true h, decide_eq_true (by rw [h])]
  · rw [decide_eq_false h, decide_eq_false (fun z => h (V.str.inj z))]
theorem ev_le {a b : Int} (ha : Ev ta σ H (.int a)) (hb : Ev tb σ H (.int b)) : Ev (tOp rLe ta tb) σ H (.bl (decide (a ≤ b))) := ev_op ha hb rv_I0
theorem ev_lt {a b : Int} (ha : Ev ta σ H (.int a)) (hb : Ev tb σ H (.int b)) : Ev (tOp rLt ta tb) σ H (.bl (decide (a < b))) := ev_op ha hb rv_I0
theorem ev_gt {a b : Int} (ha : Ev ta σ H (.int a)) (hb : Ev tb σ H (.int b)) : Ev (tOp rGt' ta tb) σ H (.bl (decide (b < a))) := ev_op ha hb rv_I0
/-- len of a text -/
abbrev rLenQ (K : PySem.W.Frag) : List V → Hp → VK → Prop := fun xs H Q => ∃ p ys, xs = [.ref p] ∧ (SqL K H p ys ∨ SqT K H p ys) ∧ Q (.int ys.length) H
theorem ev_lenTx {a : Addr} {tx : List Nat} (h : Ev ta σ H (.ref a)) (hx : Tx H a tx) : Ev (tCB (rLenQ K) (tCons ta tNil)) σ H (.int (tx.length : Nat)) := fun H1 e Q q =>
  h H1 e _ fun H2 e2 => ⟨a, tv tx, rfl, Or.inr ((hx.mono (e.trans e2)).sq), by rw [tv_len]; exact q H2 e2⟩
theorem ev_lenLs {a : Addr} {xs : List V} (h : Ev ta σ H (.ref a)) (hx : H a = some (.lst xs)) : Ev (tCB (rLenQ K) (tCons ta tNil)) σ H (.int (xs.length : Nat)) := fun H1 e Q q =>
  h H1 e _ fun H2 e2 => ⟨a, xs, rfl, Or.inl (sq_of (e2 _ _ (e _ _ hx))), q H2 e2⟩
/-- a byte of a text -/
theorem ev_byte {a : Addr} {tx : List Nat} {i n : Nat} (h : Ev ta σ H (.ref a)) (hi : Ev tb σ H (.int (i : Int))) (hx : Tx H a tx) (hn : tx[i]? = some n) : Ev (tOp (rIxT K) ta tb) σ H (.int (n : Int)) := ev_op h hi (rv_ixT hx.sq (atI_nat (tv_get hn)))
theorem ev_lstAt {a : Addr} {xs : List V} {i : Nat} (h : Ev ta σ H (.ref a)) (hi : Ev tb σ H (.int (i : Int))) (hx : H a = some (.lst xs)) (hn : xs[i]? = some v) : Ev (tOp (rIxL K) ta tb) σ H v := ev_op h hi (rv_ixL (sq_of hx) (atI_nat hn))
theorem q_asgP {i : Nat} (h : EvP te σ H Post) (k : ∀ v H1, Ex H H1 → Post v H1 → tz D (σ.set i (some v)) H1) : tSeq (tAsg te (gName i)) tz D σ H := h H (Ex.refl H) _ k
theorem s_retP (h : EvP te σ H Post) (k : ∀ v H1, Ex H H1 → Post v H1 → D.rt v H1) : tRet te D σ H := h H (Ex.refl H) _ k
/-- one text is another -/
def dInts (t : List Nat) : List PyData := t.map fun (n : Nat) => PyData.int (n : Int)
theorem eqv_all : ∀ (ns ms : List Nat), PyData.eqvAll (dInts ns) (dInts ms) = decide (ns = ms)
  | [], [] => rfl
  | [], _ :: _ => rfl
  | _ :: _, [] => rfl
  | n :: ns, m :: ms => by
    show (PyData.eqv (.int (n : Int)) (.int (m : Int)) && PyData.eqvAll (dInts ns) (dInts ms)) = _
    rw [eqv_all ns ms]
    have e : PyData.eqv (.int (n : Int)) (.int (m : Int)) = decide ((n : Int) = (m : Int)) := by
      show ((n : Int) == (m : Int)) = decide ((n : Int) = (m : Int))
      by_cases q : (n : Int) = (m : Int)
      · rw [decide_eq_true q]
        exact beq_iff_eq.mpr q
      · rw [decide_eq_false q]
        exact beq_eq_false_iff_ne.mpr q
    rw [e]
    by_cases h : n = m
    · subst h
      by_cases h2 : ns = ms
      · subst h2
        simp
      · simp [h2]
    · have h3 : ¬ ((n : Int) = (m : Int)) := by omega
      simp [h, h3]
theorem eqv_txt (ns ms : List Nat) : PyData.eqv (.tuple (dInts ns)) (.tuple (dInts ms)) = decide (ns = ms) := by
  rw [← eqv_all]
  simp [PyData.eqv]
theorem dp_txt : ∀ (t : List Nat), DpAll K H (tv t) (dInts t)
  | [] => .nil
  | n :: t => .cons (.int _) (dp_txt t)
theorem can_txt : ∀ (t : List Nat), PyData.canLayAll0 (dInts t) = true
  | [] => rfl
  | n :: t => can_txt t
theorem depth_txt : ∀ (t : List Nat), PyData.depthAll (dInts t) = 0
  | [] => rfl
  | n :: t => by
    show max (PyData.depth (.int (n : Int))) (PyData.depthAll (dInts t)) = 0
    rw [depth_txt t]
    rfl
theorem shaped_txt (t : List Nat) : SeqAt.shaped (.tuple (dInts t)) = true := by
  unfold SeqAt.shaped
  rw [Bool.and_eq_true]
  refine ⟨can_txt t, decide_eq_true ?_⟩
  show PyData.depthAll (dInts t) + 1 ≤ 64
  rw [depth_txt]
  decide
/-- v is the text t -/
def IsTx (t : List Nat) : V → Hp → Prop := fun v H => ∃ a, v = .ref a ∧ Tx H a t
theorem IsTx.mono {t : List Nat} {v : V} {H H' : Hp} (h : IsTx t v H) (e : Ex H H') : IsTx t v H' := by
  obtain ⟨a, ev, hx⟩ := h
  exact ⟨a, ev, hx.mono e⟩
theorem ev_tx {a : Addr} {tx : List Nat} (h : Ev ta σ H (.ref a)) (hx : Tx H a tx) : EvP ta σ H (IsTx tx) := fun H1 e Q q => h H1 e Q fun H2 e2 => q _ H2 e2 ⟨a, rfl, hx.mono (e.trans e2)⟩
theorem ev_eqTx {p q : List Nat} (ha : EvP ta σ H (IsTx p)) (hb : EvP tb σ H (IsTx q)) : Ev (tOp (rEqD K) ta tb) σ H (.bl (decide (p = q))) := evp_v (ep_op ha (fun x H1 e1 _ => hb.mono e1) fun x H1 y H2 e1 px e2 py Q k => by
  obtain ⟨a, rfl, hx⟩ := px
  obtain ⟨b, rfl, hy⟩ := py
  refine ⟨.tuple (dInts p), .tuple (dInts q), .tup (hx.mono e2).sq (dp_txt p), .tup hy.sq (dp_txt q), shaped_txt p, shaped_txt q, ?_⟩
  rw [eqv_txt]
  exact k _ H2 (Ex.refl H2) rfl)
end
end Bl

-- part W5
set_option Elab.async false
set_option linter.all false
set_option maxRecDepth 100000
set_option maxHeartbeats 4000000
namespace Bl
open PySem PySem.Spec PyProof.Rows L2 Evl
section
variable {w : World} {K : PySem.W.Frag} {mg : Str → Option Value} {base : Heap} {σ : L2.St} {H : Hp} {ta tb : TE}
/-! ### bytes -/
def bit (x : Nat → Bool) : List V → Hp → (V → Hp → Prop) → Prop := fun vs _ Post => ∃ n : Nat, vs = [.int (n : Int)] ∧ Post = fun v _ => v = .bl (x n)
abbrev sp_is_digit (K : PySem.W.Frag) : Sp := spR (bit Vabldo.digit)
abbrev sp_is_letter (K : PySem.W.Frag) : Sp := spR (bit Vabldo.letter)
abbrev sp_begins_word (K : PySem.W.Frag) : Sp := spR (bit Vabldo.opens)
abbrev sp_continues_word (K : PySem.W.Frag) : Sp := spR (bit Vabldo.inner)
abbrev sp_is_blank (K : PySem.W.Frag) : Sp := spR (bit Vabldo.blank)
theorem bit_len {x : Nat → Bool} {vs : List V} {H : Hp} {Q : VK} {E : XK} (h : spR (bit x) vs H Q E) : vs.length = 1 := by
  obtain ⟨_, ⟨n, rfl, _⟩, _⟩ := h
  rfl
theorem ev_bit {x : Nat → Bool} {n : Nat} (h : Ev ta σ H (.int (n : Int))) : Ev (tCall (spR (bit x)) [] E0 (tCons ta tNil)) σ H (.bl (x n)) := ev_callR (ea_cons h ea_nil) fun _ _ => ⟨n, rfl, rfl⟩
theorem ev_ordc {x : Str} {n : Nat} (hl : x.length = 1 := by rfl) (hn : x.cps.getD 0 0 = n := by rfl) : Ev (tCB rOrd (tCons (tC (.str x)) tNil)) σ H (.int (n : Int)) := by
  have h := ev_ord (σ := σ) (H := H) (ta := tC (.str x)) ev_c hl
  rw [hn] at h
  exact h
theorem dec_le (a b : Nat) : decide ((a : Int) ≤ (b : Int)) = decide (a ≤ b) := by
  by_cases h : a ≤ b
  · rw [decide_eq_true h, decide_eq_true (by omega)]
  · rw [decide_eq_false h, decide_eq_false (by omega)]
theorem dec_lt (a b : Nat) : decide ((a : Int) < (b : Int)) = decide (a < b) := by
  by_cases h : a < b
  · rw [decide_eq_true h, decide_eq_true (by omega)]
  · rw [decide_eq_false h, decide_eq_false (by omega)]
theorem dec_eq (a b : Nat) : decide ((a : Int) = (b : Int)) = (a == b) := by
  by_cases h : a = b
  · subst h
    simp
  · rw [decide_eq_false (by omega)]
    exact (beq_eq_false_iff_ne.mpr h).symm
theorem ev_rngN {n lo hi : Nat} (h1 : Ev ta σ H (.int (lo : Int))) (h2 : Ev tb σ H (.int (n : Int))) {tc : TE} (h3 : Ev tc σ H (.int (hi : Int))) : Ev (tChain rLe rLe ta tb tc) σ H (.bl (decide (lo ≤ n) && decide (n ≤ hi))) := by
  have h := ev_chain h1 h2 h3
  rw [dec_le, dec_le] at h
  exact h
theorem ev_eqN {n m : Nat} (h1 : Ev ta σ H (.int (n : Int))) (h2 : Ev tb σ H (.int (m : Int))) : Ev (tOp rEq ta tb) σ H (.bl (n == m)) := by
  have h := ev_eqI h1 h2
  rw [dec_eq] at h
  exact h
theorem sc_is_digit : FnScope ["byte"] ["byte"] (defScope s_is_digit) := ⟨rfl, rfl, rfl, by decide +kernel, rfl, by decide +kernel, by decide +kernel⟩
theorem ok_is_digit (T : Txt w K mg)  : Has P0 w K mg base "is_digit" 1 ["byte"] (sp_is_digit K) := by
  refine has_of T.f_is_digit T.g_is_digit sc_is_digit (fun _ _ _ _ _ _ us hl => match us, hl with | [_], _ => rfl) (fun vs H Q E h => by obtain ⟨_, ⟨n, rfl, rfl⟩, _⟩ := h; rfl) (fun cdv A outer s H vs Q E hr h => ⟨_, PSs.nox (pss_one (ps_ret (pe_chain op_le op_le (pe_callB call_ord (by rfl) T.b_ord (by decide +kernel) (pa_cons pe_str pa_nil)) (pv 0) (pe_callB call_ord (by rfl) T.b_ord (by decide +kernel) (pa_cons pe_str pa_nil))))), ?_⟩)
  obtain ⟨_, ⟨n, rfl, rfl⟩, k⟩ := h
  exact s_ret (ev_rngN (lo := 48) (hi := 57) ev_ordc (ev_var rfl) ev_ordc) fun H1 e1 => k _ H1 e1 rfl
theorem sc_is_letter : FnScope ["byte"] ["byte"] (defScope s_is_letter) := ⟨rfl, rfl, rfl, by decide +kernel, rfl, by decide +kernel, by decide +kernel⟩
theorem ok_is_letter (T : Txt w K mg)  : Has P0 w K mg base "is_letter" 1 ["byte"] (sp_is_letter K) := by
  refine has_of T.f_is_letter T.g_is_letter sc_is_letter (fun _ _ _ _ _ _ us hl => match us, hl with | [_], _ => rfl) (fun vs H Q E h => by obtain ⟨_, ⟨n, rfl, rfl⟩, _⟩ := h; rfl) (fun cdv A outer s H vs Q E hr h => ⟨_, PSs.nox (pss_one (ps_ret (pe_or (pe_chain op_le op_le (pe_callB call_ord (by rfl) T.b_ord (by decide +kernel) (pa_cons pe_str pa_nil)) (pv 0) (pe_callB call_ord (by rfl) T.b_ord (by decide +kernel) (pa_cons pe_str pa_nil))) (pe_one (pe_chain op_le op_le (pe_callB call_ord (by rfl) T.b_ord (by decide +kernel) (pa_cons pe_str pa_nil)) (pv 0) (pe_callB call_ord (by rfl) T.b_ord (by decide +kernel) (pa_cons pe_str pa_nil))))))), ?_⟩)
  obtain ⟨_, ⟨n, rfl, rfl⟩, k⟩ := h
  exact s_ret (ev_orV (ev_rngN (lo := 97) (hi := 122) ev_ordc (ev_var rfl) ev_ordc) fun _ => ev_rngN (lo := 65) (hi := 90) ev_ordc (ev_var rfl) ev_ordc) fun H1 e1 => k _ H1 e1 rfl
theorem sc_begins_word : FnScope ["byte"] ["byte"] (defScope s_begins_word) := ⟨rfl, rfl, rfl, by decide +kernel, rfl, by decide +kernel, by decide +kernel⟩
theorem ok_begins_word (T : Txt w K mg) (H_is_letter : Has P0 w K mg base "is_letter" 1 ["byte"] (sp_is_letter K)) : Has P0 w K mg base "begins_word" 2 ["byte"] (sp_begins_word K) := by
  refine has_of T.f_begins_word T.g_begins_word sc_begins_word (fun _ _ _ _ _ _ us hl => match us, hl with | [_], _ => rfl) (fun vs H Q E h => by obtain ⟨_, ⟨n, rfl, rfl⟩, _⟩ := h; rfl) (fun cdv A outer s H vs Q E hr h => ⟨_, PSs.nox (pss_one (ps_ret (pe_or (pe_h H_is_letter (by exact hr.mono (by decide)) (by rfl) (pa_cons (pv 0) pa_nil)) (pe_or (pe_cmpR op_eq (pv 0) (pe_callB call_ord (by rfl) T.b_ord (by decide +kernel) (pa_cons pe_str pa_nil)) (nomark _)) (pe_one (pe_cmpR op_eq (pv 0) (pe_callB call_ord (by rfl) T.b_ord (by decide +kernel) (pa_cons pe_str pa_nil)) (nomark _))))))), ?_⟩)
  obtain ⟨_, ⟨n, rfl, rfl⟩, k⟩ := h
  exact s_ret (ev_orV (ev_bit (ev_var rfl)) fun _ => ev_orV (ev_eqN (ev_var rfl) (ev_ordc (n := 46))) fun _ => ev_eqN (ev_var rfl) (ev_ordc (n := 95))) fun H1 e1 => k _ H1 e1 rfl
theorem sc_continues_word : FnScope ["byte"] ["byte"] (defScope s_continues_word) := ⟨rfl, rfl, rfl, by decide +kernel, rfl, by decide +kernel, by decide +kernel⟩
theorem ok_continues_word (T : Txt w K mg) (H_begins_word : Has P0 w K mg base "begins_word" 2 ["byte"] (sp_begins_word K)) (H_is_digit : Has P0 w K mg base "is_digit" 1 ["byte"] (sp_is_digit K)) : Has P0 w K mg base "continues_word" 3 ["byte"] (sp_continues_word K) := by
  refine has_of T.f_continues_word T.g_continues_word sc_continues_word (fun _ _ _ _ _ _ us hl => match us, hl with | [_], _ => rfl) (fun vs H Q E h => by obtain ⟨_, ⟨n, rfl, rfl⟩, _⟩ := h; rfl) (fun cdv A outer s H vs Q E hr h => ⟨_, PSs.nox (pss_one (ps_ret (pe_or (pe_h H_begins_word (by exact hr.mono (by decide)) (by rfl) (pa_cons (pv 0) pa_nil)) (pe_or (pe_h H_is_digit (by exact hr.mono (by decide)) (by rfl) (pa_cons (pv 0) pa_nil)) (pe_or (pe_cmpR op_eq (pv 0) (pe_callB call_ord (by rfl) T.b_ord (by decide +kernel) (pa_cons pe_str pa_nil)) (nomark _)) (pe_or (pe_cmpR op_eq (pv 0) (pe_callB call_ord (by rfl) T.b_ord (by decide +kernel) (pa_cons pe_str pa_nil)) (nomark _)) (pe_one (pe_cmpR op_eq (pv 0) (pe_callB call_ord (by rfl) T.b_ord (by decide +kernel) (pa_cons pe_str pa_nil)) (nomark _))))))))), ?_⟩)
  obtain ⟨_, ⟨n, rfl, rfl⟩, k⟩ := h
  exact s_ret (ev_orV (ev_bit (ev_var rfl)) fun _ => ev_orV (ev_bit (ev_var rfl)) fun _ => ev_orV (ev_eqN (ev_var rfl) (ev_ordc (n := 45))) fun _ => ev_orV (ev_eqN (ev_var rfl) (ev_ordc (n := 47))) fun _ => ev_eqN (ev_var rfl) (ev_ordc (n := 58))) fun H1 e1 => k _ H1 e1 rfl
theorem sc_is_blank : FnScope ["byte"] ["byte"] (defScope s_is_blank) := ⟨rfl, rfl, rfl, by decide +kernel, rfl, by decide +kernel, by decide +kernel⟩
theorem ok_is_blank (T : Txt w K mg)  : Has P0 w K mg base "is_blank" 1 ["byte"] (sp_is_blank K) := by
  refine has_of T.f_is_blank T.g_is_blank sc_is_blank (fun _ _ _ _ _ _ us hl => match us, hl with | [_], _ => rfl) (fun vs H Q E h => by obtain ⟨_, ⟨n, rfl, rfl⟩, _⟩ := h; rfl) (fun cdv A outer s H vs Q E hr h => ⟨_, PSs.nox (pss_one (ps_ret (pe_or (pe_cmpR op_eq (pv 0) (pe_callB call_ord (by rfl) T.b_ord (by decide +kernel) (pa_cons pe_str pa_nil)) (nomark _)) (pe_or (pe_cmpR op_eq (pv 0) (pe_callB call_ord (by rfl) T.b_ord (by decide +kernel) (pa_cons pe_str pa_nil)) (nomark _)) (pe_or (pe_cmpR op_eq (pv 0) (pe_gi (by rfl) T.i_LINE_FEED) (nomark _)) (pe_one (pe_cmpR op_eq (pv 0) (pe_gi (by rfl) T.i_CARRIAGE_RETURN) (nomark _)))))))), ?_⟩)
  obtain ⟨_, ⟨n, rfl, rfl⟩, k⟩ := h
  exact s_ret (ev_orV (ev_eqN (ev_var rfl) (ev_ordc (n := 32))) fun _ => ev_orV (ev_eqN (ev_var rfl) (ev_ordc (n := 9))) fun _ => ev_orV (ev_eqN (m := 10) (ev_var rfl) ev_c) fun _ => ev_eqN (m := 13) (ev_var rfl) ev_c) fun H1 e1 => k _ H1 e1 rfl
end
end Bl

-- part W6
set_option Elab.async false
set_option linter.all false
set_option maxRecDepth 100000
set_option maxHeartbeats 4000000
namespace Bl
open PySem PySem.Spec PyProof.Rows L2 Evl
/-! ### a heap without some objects -/
def minus (H : Hp) (M : List Addr) : Hp := fun a => if a ∈ M then none else H a
section
variable {H H' H2 H3 : Hp} {M : List Addr} {a : Addr} {o : HO}
theorem minus_get (h : H a = some o) (n : a ∉ M) : minus H M a = some o := by
  unfold minus
  rw [if_neg n]
  exact h
theorem minus_some (h : minus H M a = some o) : a ∉ M ∧ H a = some o := by
  unfold minus at h
  by_cases k : a ∈ M
  · rw [if_pos k] at h
    cases h
  · rw [if_neg k] at h
    exact ⟨k, h⟩
theorem minus_ex : Ex (minus H M) H := fun a o h => (minus_some h).2
theorem minus_nil : minus H [] = H := by
  funext a
  unfold minus
  rw [if_neg (by simp)]
theorem Ex.minus (e : Ex H H') : Ex (minus H M) (minus H' M) := fun a o h => by
  obtain ⟨n, h⟩ := minus_some h
  exact minus_get (e _ _ h) n
theorem Ex.minusT (e : Ex (Bl.minus H M) H') (e2 : Ex (Bl.minus H' M) H2) : Ex (Bl.minus H M) H2 := fun a o h => by
  obtain ⟨n, h1⟩ := minus_some h
  exact e2 _ _ (minus_get (e _ _ h) n)
theorem Ex.minusL (e : Ex H H') (e2 : Ex (Bl.minus H' M) H2) : Ex (Bl.minus H M) H2 := (Ex.minus e).trans e2
theorem Ex.minusR (e : Ex (Bl.minus H M) H') (e2 : Ex H' H2) : Ex (Bl.minus H M) H2 := e.trans e2
theorem Ex.m (e : Ex H H') : Ex (Bl.minus H M) H' := minus_ex.trans e
theorem ex_mut (h : a ∈ M) : Ex (minus H M) (upd H a o) := fun b u hb => by
  obtain ⟨n, hb⟩ := minus_some hb
  have : b ≠ a := fun e => n (e ▸ h)
  rw [upd_ne this]
  exact hb
/-- what was new may change -/
theorem Ex.ofMinus (e : Ex (Bl.minus H M) H') (h : ∀ a ∈ M, H a = none) : Ex H H' := fun a o ha => e a o (minus_get ha fun k => by
  rw [h a k] at ha
  cases ha)
end
/-! ### walking over things -/
def Mono {α : Type} (A : α → V → Hp → Prop) : Prop := ∀ a x H H', Ex H H' → A a x H → A a x H'
inductive All2 {α β : Type} (R : α → β → Prop) : List α → List β → Prop
  | nil : All2 R [] []
  | cons {a b as bs} : R a b → All2 R as bs → All2 R (a :: as) (b :: bs)
section
variable {α β : Type} {R S : α → β → Prop}
theorem All2.imp {as : List α} {bs : List β} (h : All2 R as bs) (k : ∀ a b, R a b → S a b) : All2 S as bs := by
  induction h with
  | nil => exact .nil
  | cons r _ ih => exact .cons (k _ _ r) ih
theorem All2.len {as : List α} {bs : List β} (h : All2 R as bs) : as.length = bs.length := by
  induction h with
  | nil => rfl
  | cons r _ ih => rw [List.length_cons, List.length_cons, ih]
theorem All2.get {as : List α} {bs : List β} (h : All2 R as bs) : ∀ {i : Nat} {b : β}, bs[i]? = some b → ∃ a, as[i]? = some a ∧ R a b := by
  induction h with
  | nil => intro i b e; simp at e
  | cons r _ ih =>
    intro i b e
    cases i with
    | zero =>
      rw [List.getElem?_cons_zero] at e
      cases e
      exact ⟨_, List.getElem?_cons_zero, r⟩
    | succ i =>
      obtain ⟨a, ha, hr⟩ := ih (i := i) (b := b) (by simpa using e)
      exact ⟨a, by simpa using ha, hr⟩
theorem All2.getL {as : List α} {bs : List β} (h : All2 R as bs) : ∀ {i : Nat} {a : α}, as[i]? = some a → ∃ b, bs[i]? = some b ∧ R a b := by
  induction h with
  | nil => intro i b e; simp at e
  | cons r _ ih =>
    intro i b e
    cases i with
    | zero =>
      rw [List.getElem?_cons_zero] at e
      cases e
      exact ⟨_, List.getElem?_cons_zero, r⟩
    | succ i =>
      obtain ⟨a, ha, hr⟩ := ih (i := i) (a := b) (by simpa using e)
      exact ⟨a, by simpa using ha, hr⟩
theorem All2.app {as cs : List α} {bs ds : List β} (h : All2 R as bs) (k : All2 R cs ds) : All2 R (as ++ cs) (bs ++ ds) := by
  induction h with
  | nil => exact k
  | cons r _ ih => exact .cons r ih
theorem All2.one {a : α} {b : β} (h : R a b) : All2 R [a] [b] := .cons h .nil
theorem All2.take {as : List α} {bs : List β} (h : All2 R as bs) : ∀ n, All2 R (as.take n) (bs.take n) := by
  induction h with
  | nil => intro n; simp; exact .nil
  | cons r _ ih =>
    intro n
    cases n with
    | zero => exact .nil
    | succ n => exact .cons r (ih n)
theorem All2.drop {as : List α} {bs : List β} (h : All2 R as bs) : ∀ n, All2 R (as.drop n) (bs.drop n) := by
  induction h with
  | nil => intro n; simp; exact .nil
  | cons r t ih =>
    intro n
    cases n with
    | zero => exact .cons r t
    | succ n => exact ih n
theorem all2_map {γ : Type} {f : γ → α} {as : List γ} {bs : List β} (h : All2 (fun c b => R (f c) b) as bs) : All2 R (as.map f) bs := by
  induction h with
  | nil => exact .nil
  | cons r _ ih => exact .cons r ih
theorem all2_self {f : α → β} (h : ∀ a, R a (f a)) : ∀ as : List α, All2 R as (as.map f)
  | [] => .nil
  | a :: as => .cons (h a) (all2_self h as)
end
theorem All2.mono {α : Type} {A : α → V → Hp → Prop} {l : List α} {xs : List V} {H H' : Hp} (h : All2 (fun a x => A a x H) l xs) (m : Mono A) (e : Ex H H') : All2 (fun a x => A a x H') l xs := h.imp fun a x => m a x H H' e
section
variable {α : Type} {K : PySem.W.Frag} {σ : L2.St} {H : Hp} {wi : TI} {te tl : TE} {t : TT} {l : List α} {A : α → V → Hp → Prop} {M : List Addr} {D : Ends} {tu tz : TS} {a : Addr} {xs : List V}
/-- wi goes over l, whose members' values A tells, while only M may change -/
def ItA (M : List Addr) (wi : TI) (σ : L2.St) (H : Hp) (l : List α) (A : α → V → Hp → Prop) : Prop := ∀ H1, Ex H H1 → ∀ R, (∀ J H2, Ex H1 H2 → Walk J l.length (fun H' => Ex (minus H2 M) H') (fun i H x H' => H' = H ∧ ∃ a, l[i]? = some a ∧ A a x H) → R J H2) → wi σ H1 R
theorem it_list (h : Ev tl σ H (.ref a)) (hx : H a = some (.lst xs)) (hA : All2 (fun b x => A b x (minus H M)) l xs) (m : Mono A) (n : a ∉ M) : ItA M (iList K tl) σ H l A := fun H1 e R k => h H1 e _ fun H2 e2 => by
  have hx2 : H2 a = some (.lst xs) := e2 _ _ (e _ _ hx)
  refine ⟨a, rfl, ⟨xs, sq_of hx2⟩, k _ H2 e2 ?_⟩
  rw [hA.len]
  refine Walk.mono (walk_list (K := K) (a := a) (xs := xs)) (fun H' e3 => sq_of (e3 _ _ (minus_get hx2 n))) fun i H' x H'' hi e3 y => ?_
  obtain ⟨b, hb, hr⟩ := hA.get y.2
  exact ⟨y.1, b, hb, m _ _ _ _ ((Ex.minus (e.trans e2)).trans e3) hr⟩
theorem it_tup (h : Ev tl σ H (.ref a)) (hx : SqT K H a xs) (hA : All2 (fun b x => A b x (minus H M)) l xs) (m : Mono A) (n : a ∉ M) : ItA M (iTup K tl) σ H l A := fun H1 e R k => h H1 e _ fun H2 e2 => by
  have hx2 : SqT K H2 a xs := ex_t (e.trans e2) hx
  refine ⟨a, rfl, ⟨xs, hx2⟩, k _ H2 e2 ?_⟩
  rw [hA.len]
  refine Walk.mono (walk_tup (K := K) (a := a) (xs := xs)) (fun H' e3 => ?_) fun i H' x H'' hi e3 y => ?_
  · rcases hx2 with hr | hr
    · rcases hr with hr | ⟨od, hr⟩
      · exact Or.inl (Or.inl (e3 _ _ (minus_get hr n)))
      · exact Or.inl (Or.inr ⟨od, e3 _ _ (minus_get hr n)⟩)
    · exact Or.inr hr
  · obtain ⟨b, hb, hr⟩ := hA.get y.2
    exact ⟨y.1, b, hb, m _ _ _ _ ((Ex.minus (e.trans e2)).trans e3) hr⟩
/-- over a new list -/
theorem it_new (h : ∀ H1, Ex H H1 → ∀ Q : VK, (∀ p ys H2, H1 p = none → Ex H1 H2 → H2 p = some (.lst ys) → All2 (fun b x => A b x (minus H2 M)) l ys → Q (.ref p) H2) → tl σ H1 Q) (m : Mono A) (hM : ∀ b ∈ M, ∃ o, H b = some o) : ItA M (iList K tl) σ H l A := fun H1 e R k => h H1 e _ fun p ys H2 hp e2 hy hA => by
  have n : p ∉ M := fun z => by
    obtain ⟨o, ho⟩ := hM p z
    rw [e _ _ ho] at hp
    cases hp
  refine ⟨p, rfl, ⟨ys, sq_of hy⟩, k _ H2 e2 ?_⟩
  rw [hA.len]
  refine Walk.mono (walk_list (K := K) (a := p) (xs := ys)) (fun H' e3 => sq_of (e3 _ _ (minus_get hy n))) fun i H' x H'' hi e3 y => ?_
  obtain ⟨b, hb, hr⟩ := hA.get y.2
  exact ⟨y.1, b, hb, m _ _ _ _ e3 hr⟩
theorem it_str {z : Str} (h : Ev te σ H (.str z)) : ItA M (iStr te) σ H z.cps.toList (fun c x _ => x = .str ⟨#[c]⟩) := fun H1 e R k => h H1 e _ fun H2 e2 => ⟨z, rfl, k _ H2 e2 (by
  rw [Array.length_toList]
  refine Walk.mono walk_str (fun _ _ => trivial) fun i H' x H'' hi e3 y => ?_
  obtain ⟨e, c, hc, hx⟩ := y
  exact ⟨e, c, by rw [Array.getElem?_toList]; exact hc, hx⟩)⟩
theorem it_rng {ta : TA} {n : Nat} (h : EvA ta σ H [.int (n : Int)]) (hn : n ≤ 100000) : ItA M (iRng1 ta) σ H (List.range n) (fun i x _ => x = .int (i : Int)) := fun H1 e R k => h H1 e _ fun H2 e2 => ⟨(n : Int), rfl, by omega, by omega, k _ H2 e2 (by
  rw [List.length_range]
  refine Walk.mono walk_range (fun _ _ => trivial) fun i H' x H'' hi e3 y => ?_
  have hi' : i < n := by simpa using hi
  refine ⟨y.1, i, by rw [List.getElem?_range hi'], ?_⟩
  rw [y.2]
  simp)⟩
theorem take_succ_of {i : Nat} {b : α} (h : l[i]? = some b) : l.take (i + 1) = l.take i ++ [b] := by
  rw [List.take_succ, h]
  rfl
theorem split_at {i : Nat} {b : α} (h : l[i]? = some b) : l = l.take i ++ b :: l.drop (i + 1) := by
  obtain ⟨hi, e⟩ := List.getElem?_eq_some_iff.mp h
  rw [← e]
  simp
/-- a loop over l; only M changes -/
theorem s_forA {j : Nat} (hi : ItA M wi σ H l A) (Pv : List α → L2.St → Hp → Prop) (h0 : ∀ H1, Ex H H1 → Pv [] σ H1)
    (hs : ∀ H2, Ex H H2 → ∀ pre b post x σ' H', l = pre ++ b :: post → Ex (minus H2 M) H' → Pv pre σ' H' → A b x H' → tu { D with nx := fun σ2 H3 => Ex (minus H2 M) H3 ∧ Pv (pre ++ [b]) σ2 H3, ct := fun σ2 H3 => Ex (minus H2 M) H3 ∧ Pv (pre ++ [b]) σ2 H3, bk := D.nx } (σ'.set j (some x)) H')
    (hd : ∀ σ' H', Ex (minus H M) H' → Pv l σ' H' → D.nx σ' H') : tFor wi (gName j) tu D σ H := hi H (Ex.refl H) _ fun J H2 e2 w => by
  refine for_it w (D := D) (g := gName j) (tb := tu) (fun i σ' H' => Ex (minus H2 M) H' ∧ Pv (l.take i) σ' H') ⟨minus_ex, by rw [List.take_zero]; exact h0 H2 e2⟩ (fun i σ' H' _ p => p.1) (fun i x σ' H1 H' hlt p y => ?_) (fun σ' H' p => hd σ' H' ((Ex.minus e2).trans p.1) (by have q := p.2; rw [List.take_length] at q; exact q))
  obtain ⟨eH, b, hb, hA⟩ := y
  subst eH
  show tu { D with nx := fun σ' H' => Ex (minus H2 M) H' ∧ Pv (l.take (i + 1)) σ' H', ct := fun σ' H' => Ex (minus H2 M) H' ∧ Pv (l.take (i + 1)) σ' H', bk := D.nx } (σ'.set j (some x)) H'
  rw [take_succ_of hb]
  exact hs H2 e2 (l.take i) b (l.drop (i + 1)) x σ' H' (split_at hb) p.1 p.2 hA
theorem q_forA {j : Nat} (hi : ItA M wi σ H l A) (Pv : List α → L2.St → Hp → Prop) (h0 : ∀ H1, Ex H H1 → Pv [] σ H1)
    (hs : ∀ H2, Ex H H2 → ∀ pre b post x σ' H', l = pre ++ b :: post → Ex (minus H2 M) H' → Pv pre σ' H' → A b x H' → tu { D with nx := fun σ2 H3 => Ex (minus H2 M) H3 ∧ Pv (pre ++ [b]) σ2 H3, ct := fun σ2 H3 => Ex (minus H2 M) H3 ∧ Pv (pre ++ [b]) σ2 H3, bk := tz D } (σ'.set j (some x)) H')
    (hd : ∀ σ' H', Ex (minus H M) H' → Pv l σ' H' → tz D σ' H') : tSeq (tFor wi (gName j) tu) tz D σ H := s_forA (D := { D with nx := tz D }) hi Pv h0 hs hd
/-- a loop that changes nothing -/
theorem s_forE {j : Nat} (hi : ItA [] wi σ H l A) (Pv : List α → L2.St → Hp → Prop) (h0 : ∀ H1, Ex H H1 → Pv [] σ H1)
    (hs : ∀ H2, Ex H H2 → ∀ pre b post x σ' H', l = pre ++ b :: post → Ex H2 H' → Pv pre σ' H' → A b x H' → tu { D with nx := fun σ2 H3 => Ex H2 H3 ∧ Pv (pre ++ [b]) σ2 H3, ct := fun σ2 H3 => Ex H2 H3 ∧ Pv (pre ++ [b]) σ2 H3, bk := D.nx } (σ'.set j (some x)) H')
    (hd : ∀ σ' H', Ex H H' → Pv l σ' H' → D.nx σ' H') : tFor wi (gName j) tu D σ H := by
  refine s_forA (D := D) hi Pv h0 (fun H2 e2 pre b post x σ' H' hl e p hA => ?_) (fun σ' H' e p => hd σ' H' (by rw [minus_nil] at e; exact e) p)
  rw [minus_nil] at e ⊢
  exact hs H2 e2 pre b post x σ' H' hl e p hA
theorem q_forE {j : Nat} (hi : ItA [] wi σ H l A) (Pv : List α → L2.St → Hp → Prop) (h0 : ∀ H1, Ex H H1 → Pv [] σ H1)
    (hs : ∀ H2, Ex H H2 → ∀ pre b post x σ' H', l = pre ++ b :: post → Ex H2 H' → Pv pre σ' H' → A b x H' → tu { D with nx := fun σ2 H3 => Ex H2 H3 ∧ Pv (pre ++ [b]) σ2 H3, ct := fun σ2 H3 => Ex H2 H3 ∧ Pv (pre ++ [b]) σ2 H3, bk := tz D } (σ'.set j (some x)) H')
    (hd : ∀ σ' H', Ex H H' → Pv l σ' H' → tz D σ' H') : tSeq (tFor wi (gName j) tu) tz D σ H := s_forE (D := { D with nx := tz D }) hi Pv h0 hs hd
/-- a comprehension -/
theorem el_comp {j : Nat} {vs : List Nat} (p : α → Bool) (g : α → V) (hi : ItA [] wi σ H l A) (hz : l.length ≤ 40000) (hw : ∀ x, wipe ((wipe σ vs).set j (some x)) vs = wipe σ vs)
    (ht : ∀ b x H1, b ∈ l → Ex H H1 → A b x H1 → EvT t ((wipe σ vs).set j (some x)) H1 (p b)) (he : ∀ b x H1, b ∈ l → Ex H H1 → A b x H1 → p b = true → Ev te ((wipe σ vs).set j (some x)) H1 (g b)) :
    EvL (tLc wi (gName j) t te vs) σ H ((l.filter p).map g) := fun H0 e0 Q q => hi H0 e0 _ fun J H1 e1 w => by
  intro Dl hD
  refine lc_it w (fun i H' => H1 Dl = none ∧ Ex H1 H' ∧ H' Dl = some (.lst (((l.take i).filter p).map g))) ⟨hD, Ex.new hD, by rw [List.take_zero]; exact upd_same⟩ (fun i H' _ h => by rw [minus_nil]; exact h.2.1) (fun i x H2 H' hlt h y => ?_) (fun H' h => q Dl H' (fresh_back e1 h.1) (e1.trans h.2.1) (by rw [← List.take_length (l := l)]; exact h.2.2))
  obtain ⟨eH, b, hb, hA⟩ := y
  subst eH
  obtain ⟨h1, h2, h3⟩ := h
  have hm : b ∈ l := List.mem_of_getElem? hb
  refine ⟨hw x, ht b x H' hm ((e0.trans e1).trans h2) hA H' (Ex.refl H') _ fun H3 e3 => ?_⟩
  rw [take_succ_of hb, List.filter_append, List.map_append]
  cases hp : p b with
  | true =>
    show te _ H3 _
    refine he b x H' hm ((e0.trans e1).trans h2) hA hp H3 e3 _ fun H4 e4 => ⟨_, e4 _ _ (e3 _ _ h3), ?_, h1, Ex.mut ((h2.trans e3).trans e4) h1, ?_⟩
    · refine sz_lt ?_
      rw [List.length_map]
      have := List.length_filter_le p (l.take i)
      rw [List.length_take] at this
      omega
    · rw [List.filter_cons, if_pos hp]
      exact upd_same
  | false =>
    show H1 Dl = none ∧ _
    refine ⟨h1, h2.trans e3, ?_⟩
    rw [List.filter_cons, if_neg (by rw [hp]; exact Bool.false_ne_true)]
    have e := e3 _ _ h3
    simpa using e
theorem et_yes : EvT tYes σ H true := fun H1 _ Q q => q H1 (Ex.refl H1)
/-- without a condition -/
theorem el_map {j : Nat} {vs : List Nat} (g : α → V) (hi : ItA [] wi σ H l A) (hz : l.length ≤ 40000) (hw : ∀ x, wipe ((wipe σ vs).set j (some x)) vs = wipe σ vs)
    (he : ∀ b x H1, b ∈ l → Ex H H1 → A b x H1 → Ev te ((wipe σ vs).set j (some x)) H1 (g b)) : EvL (tLc wi (gName j) tYes te vs) σ H (l.map g) := by
  have h := el_comp (t := tYes) (te := te) (j := j) (vs := vs) (fun _ => true) g hi hz hw (fun _ _ _ _ _ _ => et_yes) (fun b x H1 hb e hA _ => he b x H1 hb e hA)
  rw [List.filter_eq_self.mpr (fun _ _ => rfl)] at h
  exact h
end
end Bl

-- part W7
set_option Elab.async false
set_option linter.all false
set_option maxRecDepth 100000
set_option maxHeartbeats 4000000
namespace Bl
open PySem PySem.Spec PyProof.Rows L2 Evl
/-! ### more of what an expression gives -/
section
variable {K : PySem.W.Frag} {σ : L2.St} {H H' : Hp} {ta tb tc te : TE} {v : V} {D : Ends} {tu tz : TS} {xs ys : List V}
abbrev rTupQ (K : PySem.W.Frag) : List V → Hp → VK → Prop := fun xs H Q => ∃ p ys, xs = [.ref p] ∧ ((SqL K H p ys ∧ ∀ l, H l = none → Q (.ref l) (upd H l (.tup ys))) ∨ (SqT K H p ys ∧ Q (.ref p) H))
/-- v is a tuple of xs -/
def IsTp (xs : List V) : V → Hp → Prop := fun v H => ∃ a, v = .ref a ∧ H a = some (.tup xs)
theorem ep_tuple (h : EvL ta σ H xs) : EvP (tCB (rTupQ K) (tCons ta tNil)) σ H (IsTp xs) := fun H1 e Q q => h H1 e _ fun p H2 _ e2 hp => ⟨p, xs, rfl, Or.inl ⟨sq_of hp, fun l hl => q _ _ (e2.trans (Ex.new hl)) ⟨l, rfl, upd_same⟩⟩⟩
theorem ev_all {bs : List Bool} (h : EvL ta σ H (bs.map V.bl)) : Ev (tCB (rAll K) (tCons ta tNil)) σ H (.bl (bs.all id)) := fun H1 e Q q => h H1 e _ fun p H2 _ e2 hp => ⟨p, bs, rfl, sq_of hp, q H2 e2⟩
theorem ev_any {bs : List Bool} (h : EvL ta σ H (bs.map V.bl)) : Ev (tCB (rAny K) (tCons ta tNil)) σ H (.bl (bs.any id)) := fun H1 e Q q => h H1 e _ fun p H2 _ e2 hp => ⟨p, bs, rfl, sq_of hp, q H2 e2⟩
/-- l.extend(tuple) -/
theorem s_extT {l b : Addr} {zs : List V} (hl : H l = some (.lst xs)) (ha : Ev ta σ H (.ref l)) (h : Ev te σ H (.ref b)) (hb : H b = some (.tup zs)) (hz : xs.length + zs.length ≤ 16000000) (k : ∀ H1, Ex H H1 → D.nx σ (upd H1 l (.lst (xs ++ zs)))) :
    tDrop (tBM K "list" rExtendT ta (tCons te tNil)) D σ H := ha H (Ex.refl H) _ fun H1 e1 =>
  ⟨Or.inl ⟨rfl, xs, sq_of (e1 l _ hl)⟩, h H1 e1 _ fun H2 e2 => ⟨l, b, xs, zs, rfl, rfl, e2 l _ (e1 l _ hl), e2 b _ (e1 b _ hb), Nat.le_trans hz (by decide), k H2 (e1.trans e2)⟩⟩
theorem q_extT {l b : Addr} {zs : List V} (hl : H l = some (.lst xs)) (ha : Ev ta σ H (.ref l)) (h : Ev te σ H (.ref b)) (hb : H b = some (.tup zs)) (hz : xs.length + zs.length ≤ 16000000) (k : ∀ H1, Ex H H1 → tz D σ (upd H1 l (.lst (xs ++ zs)))) :
    tSeq (tDrop (tBM K "list" rExtendT ta (tCons te tNil))) tz D σ H := s_extT (D := { D with nx := tz D }) hl ha h hb hz k
/-- where the longer bound is wanted -/
theorem s_app' {l : Addr} (hl : H l = some (.lst xs)) (ha : Ev ta σ H (.ref l)) (h : Ev te σ H v) (hz : xs.length < 16000000) (k : ∀ H1, Ex H H1 → D.nx σ (upd H1 l (.lst (xs ++ [v])))) :
    tDrop (tBM K "list" rAppend ta (tCons te tNil)) D σ H := ha H (Ex.refl H) _ fun H1 e1 =>
  ⟨Or.inl ⟨rfl, xs, sq_of (e1 l _ hl)⟩, h H1 e1 _ fun H2 e2 => ⟨l, xs, v, rfl, rfl, e2 l _ (e1 l _ hl), Nat.lt_trans hz (by decide), k H2 (e1.trans e2)⟩⟩
theorem q_app' {l : Addr} (hl : H l = some (.lst xs)) (ha : Ev ta σ H (.ref l)) (h : Ev te σ H v) (hz : xs.length < 16000000) (k : ∀ H1, Ex H H1 → tz D σ (upd H1 l (.lst (xs ++ [v])))) :
    tSeq (tDrop (tBM K "list" rAppend ta (tCons te tNil))) tz D σ H := s_app' (D := { D with nx := tz D }) hl ha h hz k
/-- what is appended told by what is true of it -/
theorem s_appP {l : Addr} {Post : V → Hp → Prop} (hl : H l = some (.lst xs)) (ha : Ev ta σ H (.ref l)) (h : EvP te σ H Post) (hz : xs.length < 16000000) (k : ∀ x H1, Ex H H1 → Post x H1 → D.nx σ (upd H1 l (.lst (xs ++ [x])))) :
    tDrop (tBM K "list" rAppend ta (tCons te tNil)) D σ H := ha H (Ex.refl H) _ fun H1 e1 =>
  ⟨Or.inl ⟨rfl, xs, sq_of (e1 l _ hl)⟩, h H1 e1 _ fun x H2 e2 px => ⟨l, xs, x, rfl, rfl, e2 l _ (e1 l _ hl), Nat.lt_trans hz (by decide), k x H2 (e1.trans e2) px⟩⟩
theorem q_appP {l : Addr} {Post : V → Hp → Prop} (hl : H l = some (.lst xs)) (ha : Ev ta σ H (.ref l)) (h : EvP te σ H Post) (hz : xs.length < 16000000) (k : ∀ x H1, Ex H H1 → Post x H1 → tz D σ (upd H1 l (.lst (xs ++ [x])))) :
    tSeq (tDrop (tBM K "list" rAppend ta (tCons te tNil))) tz D σ H := s_appP (D := { D with nx := tz D }) hl ha h hz k
theorem ev_ordS {c : Nat} (h : Ev ta σ H (.str ⟨#[c]⟩)) : Ev (tCB rOrd (tCons ta tNil)) σ H (.int (c : Int)) := ev_ord h rfl
theorem ev_isS {a b : Bool} (h : Ev te σ H (.bl a)) (e : a = b) : Ev te σ H (.bl b) := by rw [← e]; exact h
theorem et_eq {a b : Bool} {t : TT} (h : EvT t σ H a) (e : a = b) : EvT t σ H b := by rw [← e]; exact h
end
/-! ### texts -/
def ct (s : Str) : List Nat := s.cps.toList
def KW : List Str := ["run", "kept", "end", "tool", "arg", "in", "out", "exit"]
def wkind (t : List Nat) : Str := match KW.find? (fun k => decide (t = ct k)) with
  | some k => k
  | none => if t.length ≤ 32 then "name" else "long"
abbrev sp_codes (K : PySem.W.Frag) : Sp := spR fun vs _ Post => ∃ s : Str, vs = [.str s] ∧ s.cps.size ≤ 40000 ∧ Post = IsTx (ct s)
abbrev sp_word_kind (K : PySem.W.Frag) : Sp := spR fun vs H Post => ∃ a t, vs = [.ref a] ∧ Tx H a t ∧ Post = fun v _ => v = .str (wkind t)
abbrev sp_is_name (K : PySem.W.Frag) : Sp := spR fun vs H Post => ∃ a t, vs = [.ref a] ∧ Tx H a t ∧ t.length ≤ 40000 ∧ Post = fun v _ => v = .bl (Vabldo.isName t)
abbrev sp_counted_lines (K : PySem.W.Frag) : Sp := spR fun vs H Post => ∃ (a : Addr) (xs : List V) (ns : List (List Nat)), vs = [.ref a] ∧ H a = some (.lst xs) ∧ All2 (fun n x => IsTx n x H) ns xs ∧ (Vabldo.lines ns).length ≤ 10000000 ∧ Post = fun v H' => ∃ p, v = .ref p ∧ H p = none ∧ H' p = some (.lst (tv (ns.length :: Vabldo.lines ns)))
section
variable {w : World} {K : PySem.W.Frag} {mg : Str → Option Value} {base : Heap} {σ : L2.St} {H : Hp} {ta tb : TE}
theorem tv_app (a b : List Nat) : tv (a ++ b) = tv a ++ tv b := by unfold tv; rw [List.map_append]
theorem all2_tv : ∀ t : List Nat, All2 (fun (n : Nat) (x : V) => x = .int (n : Int)) t (tv t)
  | [] => .nil
  | n :: t => .cons rfl (all2_tv t)
theorem it_tx {tl : TE} {a : Addr} {t : List Nat} {M : List Addr} (h : Ev tl σ H (.ref a)) (hx : Tx H a t) (n : a ∉ M) : ItA M (iTup K tl) σ H t (fun n x _ => x = .int (n : Int)) := it_tup h hx.sq (all2_tv t) (fun _ _ _ _ _ h => h) n
theorem sc_codes : FnScope ["written", "sign"] ["written"] (defScope s_codes) := ⟨rfl, rfl, rfl, by decide +kernel, rfl, by decide +kernel, by decide +kernel⟩
theorem ok_codes (T : Txt w K mg)  : Has P0 w K mg base "codes" 1 ["written"] (sp_codes K) := by
  refine has_of T.f_codes T.g_codes sc_codes (fun _ _ _ _ _ _ us hl => match us, hl with | [_], _ => rfl) (fun vs H Q E h => by obtain ⟨_, ⟨s, rfl, hs, rfl⟩, _⟩ := h; rfl) (fun cdv A outer s H vs Q E hr h => ⟨_, PSs.nox (pss_one (ps_ret (pe_callTy call_tuple_of (by rfl) T.b_tuple (by decide +kernel) (pa_cons (pe_lc (own := [("sign", 1)]) (g := gName 1) (te := (tCB _ (tCons (tVar 1) tNil))) rfl sc_codes.nd (pi_str (pv 0)) (blkOk_by (own := [("sign", 1)]) (N := ["written", "sign"]) (sc := defScope s_codes) (by decide +kernel)) (fun _ _ _ _ _ => pg_name (i := 1) sc_codes.nd rfl (Or.inl rfl)) (fun _ _ _ _ _ => pts_nil) (fun _ _ _ _ _ => (pe_callB call_ord (by rfl) T.b_ord (by decide +kernel) (pa_cons (pv 1) pa_nil)))) pa_nil)))), ?_⟩)
  obtain ⟨_, ⟨s, rfl, hs, rfl⟩, k⟩ := h
  refine s_retP (ep_tuple (el_map (fun (c : Nat) => V.int (c : Int)) (it_str (ev_var rfl)) (by rw [Array.length_toList]; exact hs) (fun _ => rfl) fun c x H1 hc e1 hx => ?_)) fun v H1 e1 p => k v H1 e1 p
  subst hx
  exact ev_ordS (ev_var rfl)
theorem ep_codes {s : Str} (h : Ev ta σ H (.str s)) (hs : s.cps.size ≤ 40000) : EvP (tCall (sp_codes K) [] E0 (tCons ta tNil)) σ H (IsTx (ct s)) := ep_call (ea_cons h ea_nil) fun H1 _ => ⟨s, rfl, hs, rfl⟩
theorem kw_small : ∀ s ∈ KW, s.cps.size ≤ 40000 := by decide
theorem find_none {α : Type} {p : α → Bool} {l : List α} (h : ∀ x ∈ l, p x = false) : l.find? p = none := List.find?_eq_none.mpr fun x hx => by rw [h x hx]; exact Bool.false_ne_true
theorem find_at {α : Type} {p : α → Bool} {pre post : List α} {b : α} (h : ∀ x ∈ pre, p x = false) (hb : p b = true) : (pre ++ b :: post).find? p = some b := by
  rw [List.find?_append, find_none h, List.find?_cons, hb]
  rfl
theorem sc_word_kind : FnScope ["word", "kept"] ["word"] (defScope s_word_kind) := ⟨rfl, rfl, rfl, by decide +kernel, rfl, by decide +kernel, by decide +kernel⟩
theorem ok_word_kind (T : Txt w K mg) (H_codes : Has P0 w K mg base "codes" 1 ["written"] (sp_codes K)) : Has P0 w K mg base "word_kind" 2 ["word"] (sp_word_kind K) := by
  refine has_of T.f_word_kind T.g_word_kind sc_word_kind (fun _ _ _ _ _ _ us hl => match us, hl with | [_], _ => rfl) (fun vs H Q E h => by obtain ⟨_, ⟨a, t, rfl, hx, rfl⟩, _⟩ := h; rfl) (fun cdv A outer s H vs Q E hr h => ⟨_, PSs.nox (pss_cons (ps_for PassesOwn.never rfl (pi_tup (pe_gr (by rfl) T.g_KEPT_WORDS)) (pg_name (i := 1) sc_word_kind.nd rfl (Or.inl rfl)) (pss_one (ps_if (pt_cmpR (op_eqD (by exact hr.units)) (pv 0) (pe_h H_codes (by exact hr.mono (by decide)) (by rfl) (pa_cons (pv 1) pa_nil)) (nomark _)) (pss_one (ps_ret (pv 1))) pss_nil))) (pss_cons (ps_if (pt_cmpR op_le (pe_callB call_len_seq (by rfl) T.b_len PySem.boot_len (pa_cons (pv 0) pa_nil)) (pe_gi (by rfl) T.i_LONGEST_NAME) (nomark _)) (pss_one (ps_ret pe_str)) pss_nil) (pss_one (ps_ret pe_str)))), ?_⟩)
  obtain ⟨_, ⟨a, t, rfl, hx, rfl⟩, k⟩ := h
  refine q_forE (l := KW) (A := fun k x _ => x = .str k) (it_tup (xs := KW.map V.str) ev_c (T.t_KEPT_WORDS H) (all2_self (R := fun (b : Str) (x : V) => x = V.str b) (f := V.str) (fun _ => rfl) KW) (fun _ _ _ _ _ h => h) (by simp)) (fun pre σ' _ => (∃ y, σ' = [some (.ref a), y]) ∧ ∀ s ∈ pre, decide (t = ct s) = false) (fun H1 e1 => ⟨⟨_, rfl⟩, by simp⟩) (fun H2 e2 pre b post x σ' H' hl e3 hp hb => ?_) (fun σ' H' e1 hp => ?_)
  · obtain ⟨⟨y, rfl⟩, hn⟩ := hp
    subst hb
    refine s_when (b := decide (t = ct b)) (et_test (ev_eqTx (ev_tx (ev_var rfl) (hx.mono (e2.trans e3))) (ep_codes (ev_var rfl) (kw_small b (hl ▸ by simp))))) (fun hb H1 e1 => ?_) (fun hb H1 e1 => ⟨e3.trans e1, ⟨_, rfl⟩, ?_⟩)
    · refine s_ret (ev_var rfl) fun H4 e4 => k _ H4 (((e2.trans e3).trans e1).trans e4) ?_
      unfold wkind
      rw [hl, find_at (p := fun k => decide (t = ct k)) hn hb]
    · intro s hs
      rcases List.mem_append.mp hs with hs | hs
      · exact hn s hs
      · rw [List.mem_singleton.mp hs]
        exact hb
  · obtain ⟨⟨y, rfl⟩, hn⟩ := hp
    have hw : wkind t = if t.length ≤ 32 then ("name" : Str) else ("long" : Str) := by
      unfold wkind
      rw [find_none (p := fun k => decide (t = ct k)) hn]
    refine q_when (et_test (ev_le (ev_lenTx (ev_var rfl) (hx.mono e1)) ev_c)) (fun hb H1 e4 => ?_) (fun hb H1 e4 => ?_)
    · refine s_ret ev_c fun H5 e5 => k _ H5 ((e1.trans e4).trans e5) ?_
      rw [hw, if_pos (by have := of_decide_eq_true hb; omega)]
    · refine s_ret ev_c fun H5 e5 => k _ H5 ((e1.trans e4).trans e5) ?_
      rw [hw, if_neg (by have := of_decide_eq_false hb; omega)]
theorem wk_name (t : List Nat) : decide (wkind t = "name") = (decide (t.length ≤ 32) && !Vabldo.isKept t) := by
  unfold wkind Vabldo.isKept
  cases h : KW.find? (fun k => decide (t = ct k)) with
  | some k =>
    have hk := List.find?_some h
    have hm := List.mem_of_find?_eq_some h
    have hn : decide (k = "name") = false := by
      revert hm
      have : ∀ k ∈ KW, decide (k = "name") = false := by decide
      exact this k
    have hc : [Vabldo.str "run", Vabldo.str "kept", Vabldo.str "end", Vabldo.str "tool", Vabldo.str "arg", Vabldo.str "in", Vabldo.str "out", Vabldo.str "exit"].contains t = true := by
      have : ∀ k ∈ KW, [Vabldo.str "run", Vabldo.str "kept", Vabldo.str "end", Vabldo.str "tool", Vabldo.str "arg", Vabldo.str "in", Vabldo.str "out", Vabldo.str "exit"].contains (ct k) = true := by decide
      rw [of_decide_eq_true hk]
      exact this k hm
    rw [hc]
    simpa using hn
  | none =>
    have hn := List.find?_eq_none.mp h
    have hc : [Vabldo.str "run", Vabldo.str "kept", Vabldo.str "end", Vabldo.str "tool", Vabldo.str "arg", Vabldo.str "in", Vabldo.str "out", Vabldo.str "exit"].contains t = false := by
      rw [Bool.eq_false_iff]
      intro hc
      rw [List.contains_iff_mem] at hc
      have e : [Vabldo.str "run", Vabldo.str "kept", Vabldo.str "end", Vabldo.str "tool", Vabldo.str "arg", Vabldo.str "in", Vabldo.str "out", Vabldo.str "exit"] = KW.map ct := by decide
      rw [e] at hc
      obtain ⟨k, hk, ek⟩ := List.mem_map.mp hc
      exact hn k hk (decide_eq_true ek.symm)
    rw [hc]
    by_cases hl : t.length ≤ 32
    · simp [hl]
    · simp [hl]
      decide
theorem all_id {α : Type} (f : α → Bool) (l : List α) : (l.map f).all id = l.all f := by rw [List.all_map]; rfl
theorem any_id {α : Type} (f : α → Bool) (l : List α) : (l.map f).any id = l.any f := by rw [List.any_map]; rfl
theorem sc_is_name : FnScope ["text", "byte"] ["text"] (defScope s_is_name) := ⟨rfl, rfl, rfl, by decide +kernel, rfl, by decide +kernel, by decide +kernel⟩
theorem ok_is_name (T : Txt w K mg) (H_begins_word : Has P0 w K mg base "begins_word" 2 ["byte"] (sp_begins_word K)) (H_continues_word : Has P0 w K mg base "continues_word" 3 ["byte"] (sp_continues_word K)) (H_word_kind : Has P0 w K mg base "word_kind" 2 ["word"] (sp_word_kind K)) : Has P0 w K mg base "is_name" 4 ["text"] (sp_is_name K) := by
  refine has_of T.f_is_name T.g_is_name sc_is_name (fun _ _ _ _ _ _ us hl => match us, hl with | [_], _ => rfl) (fun vs H Q E h => by obtain ⟨_, ⟨a, t, rfl, hx, hz, rfl⟩, _⟩ := h; rfl) (fun cdv A outer s H vs Q E hr h => ⟨_, PSs.nox (pss_cons (ps_if (PW.pt (pw_or (pt_cmpR op_eq (pe_callB call_len_seq (by rfl) T.b_len PySem.boot_len (pa_cons (pv 0) pa_nil)) pe_int (nomark _)) (pw_or1 (pt_not (pt_val (pe_h H_begins_word (by exact hr.mono (by decide)) (by rfl) (pa_cons (pe_ix ix_tup (pv 0) pe_int (fun _ _ => rfl)) pa_nil))))))) (pss_one (ps_ret pe_bl)) pss_nil) (pss_cons (ps_if (pt_not (pt_val (pe_callB (cr_all rfl) (by rfl) T.b_all (by decide +kernel) (pa_cons (pe_lc (own := [("byte", 1)]) (g := gName 1) (te := (tCall _ [] E0 (tCons (tVar 1) tNil))) rfl sc_is_name.nd (pi_tup (pv 0)) (blkOk_by (own := [("byte", 1)]) (N := ["text", "byte"]) (sc := defScope s_is_name) (by decide +kernel)) (fun _ _ _ _ _ => pg_name (i := 1) sc_is_name.nd rfl (Or.inl rfl)) (fun _ _ _ _ _ => pts_nil) (fun _ _ _ _ _ => (pe_h H_continues_word (by exact hr.mono (by decide)) (by rfl) (pa_cons (pv 1) pa_nil)))) pa_nil)))) (pss_one (ps_ret pe_bl)) pss_nil) (pss_one (ps_ret (pe_cmpR op_eq (pe_h H_word_kind (by exact hr.mono (by decide)) (by rfl) (pa_cons (pv 0) pa_nil)) pe_str (nomark _)))))), ?_⟩)
  obtain ⟨_, ⟨a, t, rfl, hx, hz, rfl⟩, k⟩ := h
  cases t with
  | nil =>
    refine q_when (b := true) (et_or (a := true) (b := false) (et_test (ev_eqI (a := 0) (b := 0) (ev_lenTx (ev_var rfl) hx) ev_c)) (fun h => by cases h)) (fun _ H1 e1 => s_ret ev_c fun H2 e2 => k _ H2 (e1.trans e2) rfl) (fun h => by cases h)
  | cons c r =>
    refine q_when (b := !Vabldo.opens c) (et_eq (et_or (et_test (ev_eqI (ev_lenTx (ev_var rfl) hx) ev_c)) fun _ => et_not (et_B (ev_bit (ev_byte (i := 0) (n := c) (ev_var rfl) ev_c hx rfl)))) ?_) (fun hb H1 e1 => ?_) (fun hb H1 e1 => ?_)
    · rw [decide_eq_false (by rw [List.length_cons]; omega), Bool.false_or]
    · refine s_ret ev_c fun H2 e2 => k _ H2 (e1.trans e2) ?_
      have : Vabldo.opens c = false := by simpa using hb
      show V.bl false = V.bl (Vabldo.opens c && _)
      rw [this]
      rfl
    · have ho : Vabldo.opens c = true := by simpa using hb
      refine q_when (et_not (et_B (ev_all (bs := (c :: r).map Vabldo.inner) ?_))) (fun hb H2 e2 => ?_) (fun hb H2 e2 => ?_)
      · rw [List.map_map]
        refine el_map (V.bl ∘ Vabldo.inner) (it_tx (ev_var rfl) (hx.mono e1) (by simp)) hz (fun _ => rfl) fun n x H1 _ _ hx => ?_
        subst hx
        exact ev_bit (ev_var rfl)
      · refine s_ret ev_c fun H3 e3 => k _ H3 ((e1.trans e2).trans e3) ?_
        have ha : (c :: r).all Vabldo.inner = false := by
          rw [all_id] at hb
          revert hb
          cases (c :: r).all Vabldo.inner <;> simp
        show V.bl false = V.bl (Vabldo.opens c && ((c :: r).all Vabldo.inner && _))
        rw [ha, Bool.false_and, Bool.and_false]
      · refine s_ret (ev_eqS (ev_callR (v := .str (wkind (c :: r))) (ea_cons (ev_var rfl) ea_nil) fun H3 e3 => ⟨a, c :: r, rfl, hx.mono ((e1.trans e2).trans e3), rfl⟩) ev_c) fun H3 e3 => k _ H3 ((e1.trans e2).trans e3) ?_
        have ha : (c :: r).all Vabldo.inner = true := by
          rw [all_id] at hb
          revert hb
          cases (c :: r).all Vabldo.inner <;> simp
        show _ = V.bl (Vabldo.opens c && ((c :: r).all Vabldo.inner && _))
        rw [ha, ho, wk_name, Bool.true_and, Bool.true_and]
theorem lines_app (a b : List (List Nat)) : Vabldo.lines (a ++ b) = Vabldo.lines a ++ Vabldo.lines b := by unfold Vabldo.lines; rw [List.flatMap_append]
theorem lines_one (a : List Nat) : Vabldo.lines [a] = a ++ [10] := by simp [Vabldo.lines]
theorem mono_tx : Mono (fun (n : List Nat) x H => IsTx n x H) := fun _ _ _ _ e h => h.mono e
theorem sc_counted_lines : FnScope ["names", "lines", "name"] ["names"] (defScope s_counted_lines) := ⟨rfl, rfl, rfl, by decide +kernel, rfl, by decide +kernel, by decide +kernel⟩
theorem ok_counted_lines (T : Txt w K mg)  : Has P0 w K mg base "counted_lines" 1 ["names"] (sp_counted_lines K) := by
  refine has_of T.f_counted_lines T.g_counted_lines sc_counted_lines (fun _ _ _ _ _ _ us hl => match us, hl with | [_], _ => rfl) (fun vs H Q E h => by obtain ⟨_, ⟨a, xs, ns, rfl, hx, ha, hz, rfl⟩, _⟩ := h; rfl) (fun cdv A outer s H vs Q E hr h => ⟨_, PSs.nox (pss_cons (ps_set (i := 1) sc_counted_lines.nd rfl (Or.inl rfl) (pe_lst (pa_cons (pe_callB call_len_seq (by rfl) T.b_len PySem.boot_len (pa_cons (pv 0) pa_nil)) pa_nil))) (pss_cons (ps_for PassesOwn.never rfl (pi_list (pv 0)) (pg_name (i := 2) sc_counted_lines.nd rfl (Or.inl rfl)) (pss_cons (ps_expr (pe_bm PySem.F.plainAttrs_list PySem.F.slot_list_extend PySem.F.type_list_extend mt_extendT (pv 1) (pa_cons (pv 2) pa_nil))) (pss_one (ps_expr (pe_bm PySem.F.plainAttrs_list PySem.F.slot_list_append PySem.F.type_list_append mt_append (pv 1) (pa_cons (pe_gi (by rfl) T.i_LINE_FEED) pa_nil)))))) (pss_one (ps_ret (pv 1))))), ?_⟩)
  obtain ⟨_, ⟨a, xs, ns, rfl, hx, ha, hz, rfl⟩, k⟩ := h
  have hln : xs.length = ns.length := ha.len.symm
  refine q_asgL (el_lst (ea_cons (ev_lenLs (ev_var rfl) hx) ea_nil) (show 1 ≤ 100000 by decide)) fun p H1 hp e1 h1 => ?_
  rw [hln] at h1
  have hap : a ≠ p := fun e => by
    rw [e] at hx
    rw [hx] at hp
    cases hp
  have hm : ∀ b ∈ [p], H b = none := fun b hb => by rw [List.mem_singleton.mp hb]; exact hp
  have ha1 : All2 (fun n x => IsTx n x (minus H1 [p])) ns xs := ha.mono mono_tx fun b o hb => minus_get (e1 _ _ hb) fun z => by
    rw [hm b z] at hb
    cases hb
  refine q_forA (l := ns) (it_list (M := [p]) (ev_var rfl) (e1 _ _ hx) ha1 mono_tx (by simpa using hap)) (fun pre σ' H' => (∃ y, σ' = [some (.ref a), some (.ref p), y]) ∧ H' p = some (.lst (tv (ns.length :: Vabldo.lines pre)))) (fun H2 e2 => ⟨⟨_, rfl⟩, e2 _ _ h1⟩) (fun H2 e2 pre b post x σ' H' hl e3 hp' hb => ?_) (fun σ' H' e2 hp' => ?_)
  · obtain ⟨⟨y, rfl⟩, hpl⟩ := hp'
    obtain ⟨c, rfl, hc⟩ := hb
    have hlen : (Vabldo.lines pre).length + b.length + 1 ≤ 10000000 := by
      rw [hl, lines_app, List.length_append] at hz
      have : Vabldo.lines (b :: post) = b ++ [10] ++ Vabldo.lines post := by simp [Vabldo.lines]
      rw [this, List.length_append, List.length_append, List.length_singleton] at hz
      omega
    refine q_extT hpl (ev_var rfl) (ev_var rfl) hc (by rw [tv_len, tv_len, List.length_cons]; omega) fun H3 e4 => ?_
    refine s_app' upd_same (ev_var rfl) ev_c (by rw [List.length_append, tv_len, tv_len, List.length_cons]; omega) fun H4 e5 => ⟨?_, ⟨_, rfl⟩, ?_⟩
    · exact Ex.minusT e3 (Ex.minusT (H' := H3) (Ex.m e4) (Ex.minusT (H' := upd H3 p (.lst (tv (ns.length :: Vabldo.lines pre) ++ tv b))) (ex_mut (by simp)) (Ex.minusT (H' := H4) (Ex.m e5) (ex_mut (by simp)))))
    · rw [lines_app, lines_one, ← List.cons_append, tv_app, tv_app, ← List.append_assoc]
      exact upd_same
  · obtain ⟨⟨y, rfl⟩, hpl⟩ := hp'
    refine s_ret (ev_var rfl) fun H3 e3 => k _ H3 ((Ex.ofMinus (Ex.minusL e1 e2) hm).trans e3) ⟨p, rfl, hp, e3 _ _ hpl⟩
end
end Bl

-- part M1
set_option Elab.async false
set_option linter.all false
set_option maxRecDepth 100000
set_option maxHeartbeats 4000000
namespace Bl
open Vabldo
/-! ### tokens, by place -/
def sb : Bool → List Nat → Nat
  | _, [] => 0
  | b, c :: r => if c = 10 then 1 + sb false r else if c = 35 then 1 + sb true r else if (!b && !blank c) = true then 0 else 1 + sb b r
theorem sb_le : ∀ (b : Bool) (l : List Nat), sb b l ≤ l.length
  | _, [] => Nat.le_refl _
  | b, c :: r => by
    unfold sb
    rw [List.length_cons]
    have h1 := sb_le false r
    have h2 := sb_le true r
    have h3 := sb_le b r
    split
    · omega
    · split
      · omega
      · split
        · omega
        · omega
def tokLen : List Nat → Nat
  | [] => 0
  | c :: r => if opens c = true then ((c :: r).takeWhile inner).length else if digit c = true then (if c = 48 ∧ 1 < ((c :: r).takeWhile digit).length then 0 else ((c :: r).takeWhile digit).length) else if c = 59 ∨ c = 123 ∨ c = 125 then 1 else 0
def tokNum (l : List Nat) : Nat := match l with
  | [] => 0
  | c :: _ => if opens c = true then (if isKept l = true then 2 else if l.length ≤ 32 then 1 else 5) else if digit c = true then 3 else 4
def TK (whole : Nat) (l : List Nat) : List Tok := tokensIn whole (l.length + 1) l
theorem dropWhile_len {α : Type} (p : α → Bool) : ∀ l : List α, (l.dropWhile p).length ≤ l.length
  | [] => Nat.le_refl _
  | a :: l => by
    rw [List.dropWhile_cons]
    split
    · have := dropWhile_len p l
      rw [List.length_cons]
      omega
    · exact Nat.le_refl _
theorem tok_fuel (whole : Nat) : ∀ (n m : Nat) (l : List Nat), l.length < n → l.length < m → tokensIn whole n l = tokensIn whole m l
  | 0, _, _, h, _ => absurd h (by omega)
  | _, 0, _, _, h => absurd h (by omega)
  | n + 1, m + 1, [], _, _ => rfl
  | n + 1, m + 1, c :: r, h1, h2 => by
    rw [List.length_cons] at h1 h2
    have e1 := tok_fuel whole n m r (by omega) (by omega)
    have e2 := tok_fuel whole n m (r.dropWhile fun x => x != 10) (by have := dropWhile_len (fun x => x != 10) r; omega) (by have := dropWhile_len (fun x => x != 10) r; omega)
    have e3 := tok_fuel whole n m (r.dropWhile inner) (by have := dropWhile_len inner r; omega) (by have := dropWhile_len inner r; omega)
    have e4 := tok_fuel whole n m (r.dropWhile digit) (by have := dropWhile_len digit r; omega) (by have := dropWhile_len digit r; omega)
    simp only [tokensIn, e1, e2, e3, e4]
theorem TK_of {whole n : Nat} {l : List Nat} (h : l.length < n) : tokensIn whole n l = TK whole l := tok_fuel whole n (l.length + 1) l h (by omega)
theorem TK_nil (whole : Nat) : TK whole [] = [{ kind := 0, text := [], place := whole }] := rfl
theorem TK_cons (whole c : Nat) (r : List Nat) : TK whole (c :: r) =
    if blank c = true then TK whole r
    else if c = 35 then TK whole (r.dropWhile fun x => x != 10)
    else if opens c = true then { kind := if isKept (c :: r.takeWhile inner) = true then 2 else if (c :: r.takeWhile inner).length ≤ 32 then 1 else 5, text := c :: r.takeWhile inner, place := whole - (r.length + 1) } :: TK whole (r.dropWhile inner)
    else if digit c = true then
      if c = 48 ∧ (c :: r.takeWhile digit).length ≠ 1 then [{ kind := 0, text := [], place := whole - (r.length + 1) }] else { kind := 3, text := c :: r.takeWhile digit, place := whole - (r.length + 1) } :: TK whole (r.dropWhile digit)
    else if c = 59 ∨ c = 123 ∨ c = 125 then { kind := 4, text := [c], place := whole - (r.length + 1) } :: TK whole r
    else [{ kind := 0, text := [], place := whole - (r.length + 1) }] := by
  show tokensIn whole (r.length + 1 + 1) (c :: r) = _
  have e1 : tokensIn whole (r.length + 1) r = TK whole r := rfl
  have e2 : tokensIn whole (r.length + 1) (r.dropWhile fun x => x != 10) = TK whole (r.dropWhile fun x => x != 10) := TK_of (by have := dropWhile_len (fun x => x != 10) r; omega)
  have e3 : tokensIn whole (r.length + 1) (r.dropWhile inner) = TK whole (r.dropWhile inner) := TK_of (by have := dropWhile_len inner r; omega)
  have e4 : tokensIn whole (r.length + 1) (r.dropWhile digit) = TK whole (r.dropWhile digit) := TK_of (by have := dropWhile_len digit r; omega)
  simp only [tokensIn, e1, e2, e3, e4]
theorem blank10 : blank 10 = true := by decide
theorem blank35 : blank 35 = false := by decide
theorem TK_skip (whole : Nat) : ∀ l : List Nat, TK whole l = TK whole (l.drop (sb false l)) ∧ TK whole (l.dropWhile fun x => x != 10) = TK whole (l.drop (sb true l))
  | [] => ⟨rfl, rfl⟩
  | c :: r => by
    obtain ⟨a, b⟩ := TK_skip whole r
    constructor
    · unfold sb
      by_cases h1 : c = 10
      · subst h1
        rw [if_pos rfl, TK_cons, if_pos blank10, Nat.add_comm, List.drop_succ_cons]
        exact a
      · rw [if_neg h1]
        by_cases h2 : c = 35
        · subst h2
          rw [if_pos rfl, TK_cons, if_neg (by decide), if_pos rfl, Nat.add_comm, List.drop_succ_cons]
          exact b
        · rw [if_neg h2]
          by_cases h3 : blank c = true
          · rw [if_neg (by simp [h3]), TK_cons, if_pos h3, Nat.add_comm, List.drop_succ_cons]
            exact a
          · rw [if_pos (by simp [h3])]
            rfl
    · rw [List.dropWhile_cons]
      unfold sb
      by_cases h1 : c = 10
      · subst h1
        rw [if_pos rfl, if_neg (by decide), TK_cons, if_pos blank10, Nat.add_comm, List.drop_succ_cons]
        exact a
      · rw [if_neg h1, if_pos (by simpa using h1)]
        by_cases h2 : c = 35
        · rw [if_pos h2, Nat.add_comm, List.drop_succ_cons]
          exact b
        · rw [if_neg h2, if_neg (by simp), Nat.add_comm, List.drop_succ_cons]
          exact b
theorem sb_head : ∀ (l : List Nat) (b : Bool) (c : Nat) (r : List Nat), l.drop (sb b l) = c :: r → blank c = false ∧ c ≠ 35
  | [], b, c, r, h => by
    rw [List.drop_nil] at h
    cases h
  | d :: l, b, c, r, h => by
    unfold sb at h
    by_cases h1 : d = 10
    · rw [if_pos h1, Nat.add_comm, List.drop_succ_cons] at h
      exact sb_head l false c r h
    · rw [if_neg h1] at h
      by_cases h2 : d = 35
      · rw [if_pos h2, Nat.add_comm, List.drop_succ_cons] at h
        exact sb_head l true c r h
      · rw [if_neg h2] at h
        by_cases h3 : (!b && !blank d) = true
        · rw [if_pos h3, List.drop_zero] at h
          cases h
          rw [Bool.and_eq_true] at h3
          exact ⟨by simpa using h3.2, h2⟩
        · rw [if_neg h3, Nat.add_comm, List.drop_succ_cons] at h
          exact sb_head l b c r h
theorem takeWhile_take {α : Type} (p : α → Bool) : ∀ l : List α, l.take (l.takeWhile p).length = l.takeWhile p
  | [] => rfl
  | a :: l => by
    rw [List.takeWhile_cons]
    split
    · rw [List.length_cons, List.take_succ_cons, takeWhile_take p l]
    · rfl
theorem drop_takeWhile {α : Type} (p : α → Bool) : ∀ l : List α, l.drop (l.takeWhile p).length = l.dropWhile p
  | [] => rfl
  | a :: l => by
    rw [List.takeWhile_cons, List.dropWhile_cons]
    split
    · rw [List.length_cons, List.drop_succ_cons, drop_takeWhile p l]
    · rfl
theorem opens_inner {c : Nat} (h : opens c = true) : inner c = true := by
  unfold inner
  rw [h]
  rfl
theorem tw_cons {α : Type} {p : α → Bool} {a : α} {l : List α} (h : p a = true) : (a :: l).takeWhile p = a :: l.takeWhile p := by rw [List.takeWhile_cons, if_pos h]
theorem tokLen_cons (c : Nat) (r : List Nat) : tokLen (c :: r) = if opens c = true then ((c :: r).takeWhile inner).length else if digit c = true then (if c = 48 ∧ 1 < ((c :: r).takeWhile digit).length then 0 else ((c :: r).takeWhile digit).length) else if c = 59 ∨ c = 123 ∨ c = 125 then 1 else 0 := rfl
theorem tokNum_cons (c : Nat) (r : List Nat) : tokNum (c :: r) = if opens c = true then (if isKept (c :: r) = true then 2 else if (c :: r).length ≤ 32 then 1 else 5) else if digit c = true then 3 else 4 := rfl
theorem takeWhile_len {α : Type} (p : α → Bool) : ∀ l : List α, (l.takeWhile p).length ≤ l.length
  | [] => Nat.le_refl _
  | a :: l => by
    rw [List.takeWhile_cons]
    split
    · have := takeWhile_len p l
      rw [List.length_cons, List.length_cons]
      omega
    · exact Nat.zero_le _
theorem tokLen_le (l : List Nat) : tokLen l ≤ l.length := by
  cases l with
  | nil => exact Nat.le_refl _
  | cons c r =>
    have h1 := takeWhile_len inner (c :: r)
    have h2 := takeWhile_len digit (c :: r)
    have h3 : 1 ≤ (c :: r).length := by rw [List.length_cons]; omega
    rw [tokLen_cons]
    split
    · exact h1
    · split
      · split
        · exact Nat.zero_le _
        · exact h2
      · split
        · exact h3
        · exact Nat.zero_le _
/-- a token, or none -/
theorem TK_step (whole c : Nat) (r : List Nat) (hb : blank c = false) (h35 : c ≠ 35) : TK whole (c :: r) = if tokLen (c :: r) = 0 then [{ kind := 0, text := [], place := whole - (r.length + 1) }]
    else { kind := tokNum ((c :: r).take (tokLen (c :: r))), text := (c :: r).take (tokLen (c :: r)), place := whole - (r.length + 1) } :: TK whole ((c :: r).drop (tokLen (c :: r))) := by
  rw [TK_cons, if_neg (by rw [hb]; exact Bool.false_ne_true), if_neg h35]
  by_cases h1 : opens c = true
  · have e : tokLen (c :: r) = ((c :: r).takeWhile inner).length := by rw [tokLen_cons, if_pos h1]
    have e2 : (c :: r).takeWhile inner = c :: r.takeWhile inner := tw_cons (opens_inner h1)
    have n : ¬ tokLen (c :: r) = 0 := by rw [e, e2, List.length_cons]; omega
    rw [if_pos h1, if_neg n, e, takeWhile_take, drop_takeWhile, e2, List.dropWhile_cons, if_pos (opens_inner h1), tokNum_cons, if_pos h1]
  · rw [if_neg h1]
    by_cases h2 : digit c = true
    · have e2 : (c :: r).takeWhile digit = c :: r.takeWhile digit := tw_cons h2
      rw [if_pos h2]
      by_cases h3 : c = 48 ∧ 1 < ((c :: r).takeWhile digit).length
      · have e : tokLen (c :: r) = 0 := by rw [tokLen_cons, if_neg h1, if_pos h2, if_pos h3]
        rw [if_pos ⟨h3.1, by rw [← e2]; omega⟩, e, if_pos rfl]
      · have e : tokLen (c :: r) = ((c :: r).takeWhile digit).length := by rw [tokLen_cons, if_neg h1, if_pos h2, if_neg h3]
        have hl : 1 ≤ (c :: r.takeWhile digit).length := by rw [List.length_cons]; omega
        have n : ¬ tokLen (c :: r) = 0 := by rw [e, e2]; omega
        rw [if_neg (fun z => h3 ⟨z.1, by rw [e2]; have := z.2; omega⟩), if_neg n, e, takeWhile_take, drop_takeWhile, e2, List.dropWhile_cons, if_pos h2, tokNum_cons, if_neg h1, if_pos h2]
    · rw [if_neg h2]
      by_cases h3 : c = 59 ∨ c = 123 ∨ c = 125
      · have e : tokLen (c :: r) = 1 := by rw [tokLen_cons, if_neg h1, if_neg h2, if_pos h3]
        rw [if_pos h3, e, if_neg (by omega), List.take_succ_cons, List.take_zero, List.drop_succ_cons, List.drop_zero, tokNum_cons, if_neg h1, if_neg h2]
      · have e : tokLen (c :: r) = 0 := by rw [tokLen_cons, if_neg h1, if_neg h2, if_neg h3]
        rw [if_neg h3, e, if_pos rfl]
end Bl

-- part W8
set_option Elab.async false
set_option linter.all false
set_option maxRecDepth 100000
set_option maxHeartbeats 4000000
namespace Bl
open PySem PySem.Spec PyProof.Rows L2 Evl
/-! ### the walks of tokens.py -/
abbrev sp_skip_blanks (K : PySem.W.Frag) : Sp := spR fun vs H Post => ∃ (a : Addr) (t : List Nat) (s : Nat), vs = [.ref a, .int (s : Int)] ∧ Tx H a t ∧ s ≤ t.length ∧ Post = fun v _ => v = .int ((s + sb false (t.drop s) : Nat) : Int)
abbrev sp_word_end (K : PySem.W.Frag) : Sp := spR fun vs H Post => ∃ (a : Addr) (t : List Nat) (s : Nat), vs = [.ref a, .int (s : Int)] ∧ Tx H a t ∧ s ≤ t.length ∧ Post = fun v _ => v = .int ((s + ((t.drop s).takeWhile Vabldo.inner).length : Nat) : Int)
def numLen : List Nat → Nat
  | [] => 0
  | c :: r => if c = 48 ∧ 1 < ((c :: r).takeWhile Vabldo.digit).length then 0 else ((c :: r).takeWhile Vabldo.digit).length
abbrev sp_number_end (K : PySem.W.Frag) : Sp := spR fun vs H Post => ∃ (a : Addr) (t : List Nat) (s : Nat), vs = [.ref a, .int (s : Int)] ∧ Tx H a t ∧ s < t.length ∧ Post = fun v _ => v = .int ((s + numLen (t.drop s) : Nat) : Int)
abbrev sp_token_end (K : PySem.W.Frag) : Sp := spR fun vs H Post => ∃ (a : Addr) (t : List Nat) (s : Nat), vs = [.ref a, .int (s : Int)] ∧ Tx H a t ∧ s < t.length ∧ Post = fun v _ => v = .int ((s + tokLen (t.drop s) : Nat) : Int)
def SG : List Str := [";", "{", "}"]
def tkind (t : List Nat) : Str := if Vabldo.digit (t.headD 0) = true then "number" else match SG.find? (fun k => decide (t = ct k)) with
  | some k => k
  | none => wkind t
abbrev sp_token_kind (K : PySem.W.Frag) : Sp := spR fun vs H Post => ∃ (a : Addr) (t : List Nat), vs = [.ref a] ∧ Tx H a t ∧ t ≠ [] ∧ Post = fun v _ => v = .str (tkind t)
section
variable {w : World} {K : PySem.W.Frag} {mg : Str → Option Value} {base : Heap} {σ : L2.St} {H : Hp} {ta tb : TE}
theorem at_of {α : Type} {t : List α} {p : Nat} (h : p < t.length) : ∃ c, t[p]? = some c ∧ t.drop p = c :: t.drop (p + 1) := ⟨t[p], List.getElem?_eq_getElem h, List.drop_eq_getElem_cons h⟩
theorem sb_cons (b : Bool) (c : Nat) (r : List Nat) : sb b (c :: r) = if c = 10 then 1 + sb false r else if c = 35 then 1 + sb true r else if (!b && !Vabldo.blank c) = true then 0 else 1 + sb b r := rfl
theorem sc_skip_blanks : FnScope ["text", "start", "place", "remark", "byte"] ["text", "start"] (defScope s_skip_blanks) := ⟨rfl, rfl, rfl, by decide +kernel, rfl, by decide +kernel, by decide +kernel⟩
theorem ok_skip_blanks (T : Txt w K mg) (H_is_blank : Has P0 w K mg base "is_blank" 1 ["byte"] (sp_is_blank K)) : Has P0 w K mg base "skip_blanks" 2 ["text", "start"] (sp_skip_blanks K) := by
  refine has_of T.f_skip_blanks T.g_skip_blanks sc_skip_blanks (fun _ _ _ _ _ _ us hl => match us, hl with | [_, _], _ => rfl) (fun vs H Q E h => by obtain ⟨_, ⟨a, t, s, rfl, hx, hs, rfl⟩, _⟩ := h; rfl) (fun cdv A outer s H vs Q E hr h => ⟨_, PSs.nox (pss_cons (ps_set (i := 2) sc_skip_blanks.nd rfl (Or.inl rfl) (pv 1)) (pss_cons (ps_set (i := 3) sc_skip_blanks.nd rfl (Or.inl rfl) pe_bl) (pss_cons (ps_while PassesOwn.never (pt_cmpR op_lt (pv 2) (pe_callB call_len_seq (by rfl) T.b_len PySem.boot_len (pa_cons (pv 0) pa_nil)) (nomark _)) (pss_cons (ps_set (i := 4) sc_skip_blanks.nd rfl (Or.inl rfl) (pe_ix ix_tup (pv 0) (pv 2) (fun _ _ => rfl))) (pss_cons (ps_if (pt_cmpR op_eq (pv 4) (pe_gi (by rfl) T.i_LINE_FEED) (nomark _)) (pss_one (ps_set (i := 3) sc_skip_blanks.nd rfl (Or.inl rfl) pe_bl)) (pss_one (ps_if (pt_cmpR op_eq (pv 4) (pe_callB call_ord (by rfl) T.b_ord (by decide +kernel) (pa_cons pe_str pa_nil)) (nomark _)) (pss_one (ps_set (i := 3) sc_skip_blanks.nd rfl (Or.inl rfl) pe_bl)) (pss_one (ps_if (PW.pt (pw_and (pt_not (pt_val (pv 3))) (pw_and1 (pt_not (pt_val (pe_h H_is_blank (by exact hr.mono (by decide)) (by rfl) (pa_cons (pv 4) pa_nil))))))) (pss_one (ps_ret (pv 2))) pss_nil))))) (pss_one (ps_aug (i := 2) sc_skip_blanks.nd rfl (Or.inl rfl) pe_int ip_add))))) (pss_one (ps_ret (pv 2)))))), ?_⟩)
  obtain ⟨_, ⟨a, t, s, rfl, hx, hs, rfl⟩, k⟩ := h
  refine q_asg (ev_var rfl) fun H1 e1 => q_asg ev_c fun H2 e2 => ?_
  refine q_while (fun m σ' H' => ∃ (p : Nat) (r : Bool) (y : Option V), m = t.length - p ∧ p ≤ t.length ∧ σ' = [some (.ref a), some (.int (s : Int)), some (.int (p : Int)), some (.bl r), y] ∧ Ex H H' ∧ s + sb false (t.drop s) = p + sb r (t.drop p)) (t.length - s) ⟨s, false, _, rfl, hs, rfl, e1.trans e2, rfl⟩ (fun m σ' H' hw => ?_)
  obtain ⟨p, r, y, rfl, hp, rfl, e3, hq⟩ := hw
  refine ⟨decide (p < t.length), et_eq (et_test (ev_lt (ev_var rfl) (ev_lenTx (ev_var rfl) (hx.mono e3)))) (dec_lt ..), fun hb H3 e4 => ?_, fun hb H3 e4 => ?_⟩
  · have hlt := of_decide_eq_true hb
    obtain ⟨c, hc, hd⟩ := at_of hlt
    rw [hd, sb_cons] at hq
    refine ⟨_, fun _ _ h => h, ?_⟩
    refine q_asg (ev_byte (i := p) (ev_var rfl) (ev_var rfl) (hx.mono (e3.trans e4)) hc) fun H4 e5 => ?_
    refine q_if (et_test (ev_eqN (m := 10) (ev_var rfl) ev_c)) (fun h1 H5 e6 => ?_) (fun h1 H5 e6 => ?_)
    · have h1 : c = 10 := by simpa using h1
      rw [if_pos h1] at hq
      exact s_asg ev_c fun H6 e7 => s_aug rfl ev_c fun H7 e8 => ⟨t.length - (p + 1), by omega, p + 1, false, _, rfl, hlt, rfl, ((((e3.trans e4).trans e5).trans e6).trans e7).trans e8, by omega⟩
    · have h1 : ¬ c = 10 := by simpa using h1
      rw [if_neg h1] at hq
      refine s_if (et_test (ev_eqN (m := 35) (ev_var rfl) ev_ordc)) (fun h2 H6 e7 => ?_) (fun h2 H6 e7 => ?_)
      · have h2 : c = 35 := by simpa using h2
        rw [if_pos h2] at hq
        exact s_asg ev_c fun H7 e8 => s_aug rfl ev_c fun H8 e9 => ⟨t.length - (p + 1), by omega, p + 1, true, _, rfl, hlt, rfl, (((((e3.trans e4).trans e5).trans e6).trans e7).trans e8).trans e9, by omega⟩
      · have h2 : ¬ c = 35 := by simpa using h2
        rw [if_neg h2] at hq
        refine s_when (et_and (et_not (et_B (ev_var rfl))) fun _ => et_not (et_B (ev_bit (n := c) (ev_var rfl)))) (fun h3 H7 e8 => ?_) (fun h3 H7 e8 => ?_)
        · rw [if_pos h3] at hq
          exact s_ret (ev_var rfl) fun H8 e9 => k _ H8 ((((((e3.trans e4).trans e5).trans e6).trans e7).trans e8).trans e9) (by rw [hq]; rfl)
        · rw [if_neg (by rw [h3]; exact Bool.false_ne_true)] at hq
          exact s_aug rfl ev_c fun H8 e9 => ⟨t.length - (p + 1), by omega, p + 1, r, _, rfl, hlt, rfl, (((((e3.trans e4).trans e5).trans e6).trans e7).trans e8).trans e9, by omega⟩
  · have hge := of_decide_eq_false hb
    have e : t.drop p = [] := List.drop_eq_nil_of_le (by omega)
    rw [e] at hq
    exact s_ret (ev_var rfl) fun H4 e5 => k _ H4 ((e3.trans e4).trans e5) (by rw [hq]; rfl)
/-- the loop of word_end and number_end -/
theorem q_endloop {f : Nat → Bool} {a : Addr} {t : List Nat} {s : Nat} {D : Ends} {tz : TS} (hx : Tx H a t) (hs : s ≤ t.length) (k : ∀ H1, Ex H H1 → tz D [some (.ref a), some (.int (s : Int)), some (.int ((s + ((t.drop s).takeWhile f).length : Nat) : Int))] H1) :
    tSeq (tWhile (tAnd (tTest (tOp rLt (tVar 2) (tCB (rLenQ K) (tCons (tVar 0) tNil)))) (tB (tCall (spR (bit f)) [] E0 (tCons (tOp (rIxT K) (tVar 0) (tVar 2)) tNil)))) (tAug 2 (tC (.int 1)) (ipI fun i j => i + j))) tz D [some (.ref a), some (.int (s : Int)), some (.int (s : Int))] H := by
  refine q_while (fun m σ' H' => ∃ p : Nat, m = t.length - p ∧ p ≤ t.length ∧ σ' = [some (.ref a), some (.int (s : Int)), some (.int (p : Int))] ∧ Ex H H' ∧ s + ((t.drop s).takeWhile f).length = p + ((t.drop p).takeWhile f).length) (t.length - s) ⟨s, rfl, hs, rfl, Ex.refl H, rfl⟩ (fun m σ' H' hw => ?_)
  obtain ⟨p, rfl, hp, rfl, e3, hq⟩ := hw
  refine ⟨decide (p < t.length) && f (t.getD p 0), et_and (et_eq (et_test (ev_lt (ev_var rfl) (ev_lenTx (ev_var rfl) (hx.mono e3)))) (dec_lt ..)) (fun hb => ?_), fun hb H3 e4 => ?_, fun hb H3 e4 => ?_⟩
  · have hlt := of_decide_eq_true hb
    obtain ⟨c, hc, hd⟩ := at_of hlt
    refine et_B (ev_bit (ev_byte (i := p) (ev_var rfl) (ev_var rfl) (hx.mono e3) ?_))
    rw [hc, List.getD_eq_getElem?_getD, hc]
    rfl
  · rw [Bool.and_eq_true] at hb
    have hlt := of_decide_eq_true hb.1
    obtain ⟨c, hc, hd⟩ := at_of hlt
    have hf : f c = true := by
      have := hb.2
      rw [List.getD_eq_getElem?_getD, hc] at this
      exact this
    rw [hd, tw_cons hf, List.length_cons] at hq
    exact ⟨_, fun _ _ h => h, s_aug rfl ev_c fun H7 e8 => ⟨t.length - (p + 1), by omega, p + 1, rfl, hlt, rfl, (e3.trans e4).trans e8, by omega⟩⟩
  · have e : ((t.drop p).takeWhile f).length = 0 := by
      by_cases hlt : p < t.length
      · obtain ⟨c, hc, hd⟩ := at_of hlt
        rw [decide_eq_true hlt, Bool.true_and, List.getD_eq_getElem?_getD, hc] at hb
        rw [hd, List.takeWhile_cons, if_neg (by rw [show f c = false from hb]; exact Bool.false_ne_true)]
        rfl
      · rw [List.drop_eq_nil_of_le (by omega)]
        rfl
    rw [hq, e] at k
    exact k H3 (e3.trans e4)
theorem sc_word_end : FnScope ["text", "start", "end"] ["text", "start"] (defScope s_word_end) := ⟨rfl, rfl, rfl, by decide +kernel, rfl, by decide +kernel, by decide +kernel⟩
theorem ok_word_end (T : Txt w K mg) (H_continues_word : Has P0 w K mg base "continues_word" 3 ["byte"] (sp_continues_word K)) : Has P0 w K mg base "word_end" 4 ["text", "start"] (sp_word_end K) := by
  refine has_of T.f_word_end T.g_word_end sc_word_end (fun _ _ _ _ _ _ us hl => match us, hl with | [_, _], _ => rfl) (fun vs H Q E h => by obtain ⟨_, ⟨a, t, s, rfl, hx, hs, rfl⟩, _⟩ := h; rfl) (fun cdv A outer s H vs Q E hr h => ⟨_, PSs.nox (pss_cons (ps_set (i := 2) sc_word_end.nd rfl (Or.inl rfl) (pv 1)) (pss_cons (ps_while PassesOwn.never (PW.pt (pw_and (pt_cmpR op_lt (pv 2) (pe_callB call_len_seq (by rfl) T.b_len PySem.boot_len (pa_cons (pv 0) pa_nil)) (nomark _)) (pw_and1 (pt_val (pe_h H_continues_word (by exact hr.mono (by decide)) (by rfl) (pa_cons (pe_ix ix_tup (pv 0) (pv 2) (fun _ _ => rfl)) pa_nil)))))) (pss_one (ps_aug (i := 2) sc_word_end.nd rfl (Or.inl rfl) pe_int ip_add))) (pss_one (ps_ret (pv 2))))), ?_⟩)
  obtain ⟨_, ⟨a, t, s, rfl, hx, hs, rfl⟩, k⟩ := h
  refine q_asg (ev_var rfl) fun H1 e1 => q_endloop (hx.mono e1) hs fun H2 e2 => s_ret (ev_var rfl) fun H3 e3 => k _ H3 ((e1.trans e2).trans e3) rfl
theorem sc_number_end : FnScope ["text", "start", "end"] ["text", "start"] (defScope s_number_end) := ⟨rfl, rfl, rfl, by decide +kernel, rfl, by decide +kernel, by decide +kernel⟩
theorem ok_number_end (T : Txt w K mg) (H_is_digit : Has P0 w K mg base "is_digit" 1 ["byte"] (sp_is_digit K)) : Has P0 w K mg base "number_end" 2 ["text", "start"] (sp_number_end K) := by
  refine has_of T.f_number_end T.g_number_end sc_number_end (fun _ _ _ _ _ _ us hl => match us, hl with | [_, _], _ => rfl) (fun vs H Q E h => by obtain ⟨_, ⟨a, t, s, rfl, hx, hs, rfl⟩, _⟩ := h; rfl) (fun cdv A outer s H vs Q E hr h => ⟨_, PSs.nox (pss_cons (ps_set (i := 2) sc_number_end.nd rfl (Or.inl rfl) (pv 1)) (pss_cons (ps_while PassesOwn.never (PW.pt (pw_and (pt_cmpR op_lt (pv 2) (pe_callB call_len_seq (by rfl) T.b_len PySem.boot_len (pa_cons (pv 0) pa_nil)) (nomark _)) (pw_and1 (pt_val (pe_h H_is_digit (by exact hr.mono (by decide)) (by rfl) (pa_cons (pe_ix ix_tup (pv 0) (pv 2) (fun _ _ => rfl)) pa_nil)))))) (pss_one (ps_aug (i := 2) sc_number_end.nd rfl (Or.inl rfl) pe_int ip_add))) (pss_cons (ps_if (PW.pt (pw_and (pt_cmpR op_eq (pe_ix ix_tup (pv 0) (pv 1) (fun _ _ => rfl)) (pe_callB call_ord (by rfl) T.b_ord (by decide +kernel) (pa_cons pe_str pa_nil)) (nomark _)) (pw_and1 (pt_cmpR op_gt (pv 2) (pe_op op_add (pv 1) pe_int) (nomark _))))) (pss_one (ps_ret (pv 1))) pss_nil) (pss_one (ps_ret (pv 2)))))), ?_⟩)
  obtain ⟨_, ⟨a, t, s, rfl, hx, hs, rfl⟩, k⟩ := h
  obtain ⟨c, hc, hd⟩ := at_of hs
  refine q_asg (ev_var rfl) fun H1 e1 => q_endloop (hx.mono e1) (Nat.le_of_lt hs) fun H2 e2 => ?_
  have en : numLen (t.drop s) = if c = 48 ∧ 1 < ((t.drop s).takeWhile Vabldo.digit).length then 0 else ((t.drop s).takeWhile Vabldo.digit).length := by rw [hd]; rfl
  refine q_when (b := (c == 48) && decide (1 < ((t.drop s).takeWhile Vabldo.digit).length)) (et_and (et_test (ev_eqN (m := 48) (ev_byte (i := s) (ev_var rfl) (ev_var rfl) (hx.mono (e1.trans e2)) hc) ev_ordc)) fun _ => et_eq (et_test (ev_gt (ev_var rfl) (ev_op (ev_var rfl) ev_c rv_I0))) ?_) (fun hb H3 e3 => ?_) (fun hb H3 e3 => ?_)
  · by_cases h : 1 < ((t.drop s).takeWhile Vabldo.digit).length
    · rw [decide_eq_true h, decide_eq_true (by omega)]
    · rw [decide_eq_false h, decide_eq_false (by omega)]
  · rw [Bool.and_eq_true] at hb
    refine s_ret (ev_var rfl) fun H4 e4 => k _ H4 (((e1.trans e2).trans e3).trans e4) ?_
    rw [en, if_pos ⟨by simpa using hb.1, of_decide_eq_true hb.2⟩]
    rfl
  · refine s_ret (ev_var rfl) fun H4 e4 => k _ H4 (((e1.trans e2).trans e3).trans e4) ?_
    rw [en, if_neg (fun z => by rw [z.1, decide_eq_true z.2] at hb; cases hb)]
theorem in_signs (c : Nat) : inV (.int (c : Int)) [.int 59, .int 123, .int 125] = decide (c = 59 ∨ c = 123 ∨ c = 125) := by
  by_cases h : c = 59 ∨ c = 123 ∨ c = 125
  · rw [decide_eq_true h]
    rcases h with rfl | rfl | rfl <;> decide
  · rw [decide_eq_false h]
    have h1 : ¬ (59 : Int) = (c : Int) := by omega
    have h2 : ¬ (123 : Int) = (c : Int) := by omega
    have h3 : ¬ (125 : Int) = (c : Int) := by omega
    simp [inV, eqV, h1, h2, h3]
theorem sc_token_end : FnScope ["text", "start", "first", "sign"] ["text", "start"] (defScope s_token_end) := ⟨rfl, rfl, rfl, by decide +kernel, rfl, by decide +kernel, by decide +kernel⟩
theorem ok_token_end (T : Txt w K mg) (H_begins_word : Has P0 w K mg base "begins_word" 2 ["byte"] (sp_begins_word K)) (H_word_end : Has P0 w K mg base "word_end" 4 ["text", "start"] (sp_word_end K)) (H_is_digit : Has P0 w K mg base "is_digit" 1 ["byte"] (sp_is_digit K)) (H_number_end : Has P0 w K mg base "number_end" 2 ["text", "start"] (sp_number_end K)) : Has P0 w K mg base "token_end" 5 ["text", "start"] (sp_token_end K) := by
  refine has_of T.f_token_end T.g_token_end sc_token_end (fun _ _ _ _ _ _ us hl => match us, hl with | [_, _], _ => rfl) (fun vs H Q E h => by obtain ⟨_, ⟨a, t, s, rfl, hx, hs, rfl⟩, _⟩ := h; rfl) (fun cdv A outer s H vs Q E hr h => ⟨_, PSs.nox (pss_cons (ps_set (i := 2) sc_token_end.nd rfl (Or.inl rfl) (pe_ix ix_tup (pv 0) (pv 1) (fun _ _ => rfl))) (pss_cons (ps_if (pt_val (pe_h H_begins_word (by exact hr.mono (by decide)) (by rfl) (pa_cons (pv 2) pa_nil))) (pss_one (ps_ret (pe_h H_word_end (by exact hr.mono (by decide)) (by rfl) (pa_cons (pv 0) (pa_cons (pv 1) pa_nil))))) pss_nil) (pss_cons (ps_if (pt_val (pe_h H_is_digit (by exact hr.mono (by decide)) (by rfl) (pa_cons (pv 2) pa_nil))) (pss_one (ps_ret (pe_h H_number_end (by exact hr.mono (by decide)) (by rfl) (pa_cons (pv 0) (pa_cons (pv 1) pa_nil))))) pss_nil) (pss_cons (ps_if (pt_cmpR op_in_seq (pv 2) (pe_lc (own := [("sign", 3)]) (g := gName 3) (te := (tCB _ (tCons (tVar 3) tNil))) rfl sc_token_end.nd (pi_tup (pe_gr (by rfl) T.g_SIGNS)) (blkOk_by (own := [("sign", 3)]) (N := ["text", "start", "first", "sign"]) (sc := defScope s_token_end) (by decide +kernel)) (fun _ _ _ _ _ => pg_name (i := 3) sc_token_end.nd rfl (Or.inl rfl)) (fun _ _ _ _ _ => pts_nil) (fun _ _ _ _ _ => (pe_callB call_ord (by rfl) T.b_ord (by decide +kernel) (pa_cons (pv 3) pa_nil)))) (by rfl)) (pss_one (ps_ret (pe_op op_add (pv 1) pe_int))) pss_nil) (pss_one (ps_ret (pv 1))))))), ?_⟩)
  obtain ⟨_, ⟨a, t, s, rfl, hx, hs, rfl⟩, k⟩ := h
  obtain ⟨c, hc, hd⟩ := at_of hs
  refine q_asg (ev_byte (i := s) (ev_var rfl) (ev_var rfl) hx hc) fun H1 e1 => ?_
  have et : tokLen (t.drop s) = if Vabldo.opens c = true then ((t.drop s).takeWhile Vabldo.inner).length else if Vabldo.digit c = true then numLen (t.drop s) else if c = 59 ∨ c = 123 ∨ c = 125 then 1 else 0 := by rw [hd]; rfl
  refine q_when (et_B (ev_bit (n := c) (ev_var rfl))) (fun h1 H2 e2 => ?_) (fun h1 H2 e2 => ?_)
  · refine s_ret (ev_callR (v := .int ((s + ((t.drop s).takeWhile Vabldo.inner).length : Nat) : Int)) (ea_cons (ev_var rfl) (ea_cons (ev_var rfl) ea_nil)) fun H3 e3 => ⟨a, t, s, rfl, hx.mono ((e1.trans e2).trans e3), Nat.le_of_lt hs, rfl⟩) fun H3 e3 => k _ H3 ((e1.trans e2).trans e3) ?_
    rw [et, if_pos h1]
  · rw [if_neg (by rw [h1]; exact Bool.false_ne_true)] at et
    refine q_when (et_B (ev_bit (n := c) (ev_var rfl))) (fun h2 H3 e3 => ?_) (fun h2 H3 e3 => ?_)
    · refine s_ret (ev_callR (v := .int ((s + numLen (t.drop s) : Nat) : Int)) (ea_cons (ev_var rfl) (ea_cons (ev_var rfl) ea_nil)) fun H4 e4 => ⟨a, t, s, rfl, hx.mono (((e1.trans e2).trans e3).trans e4), hs, rfl⟩) fun H4 e4 => k _ H4 (((e1.trans e2).trans e3).trans e4) ?_
      rw [et, if_pos h2]
    · rw [if_neg (by rw [h2]; exact Bool.false_ne_true)] at et
      refine q_when (b := decide (c = 59 ∨ c = 123 ∨ c = 125)) (et_test (ev_isS (ev_opL (ev_var rfl) (el_map (l := SG) (A := fun s x _ => x = .str s) (fun s => V.int ((s.cps.getD 0 0 : Nat) : Int)) (it_tup (xs := SG.map V.str) ev_c (T.t_SIGNS H3) (all2_self (R := fun (b : Str) (x : V) => x = V.str b) (f := V.str) (fun _ => rfl) SG) (fun _ _ _ _ _ h => h) (by simp)) (by decide) (fun _ => rfl) fun s x H4 hs e4 hx => ?_) fun p H4 hp e4 => rv_isL (sq_of hp) rfl (by decide)) (in_signs c))) (fun h3 H4 e4 => ?_) (fun h3 H4 e4 => ?_)
      · subst hx
        refine ev_ord (ev_var rfl) ?_
        revert s
        decide
      · refine s_ret (ev_op (ev_var rfl) ev_c rv_I0) fun H5 e5 => k _ H5 ((((e1.trans e2).trans e3).trans e4).trans e5) ?_
        rw [et, if_pos (of_decide_eq_true h3)]
        rfl
      · refine s_ret (ev_var rfl) fun H5 e5 => k _ H5 ((((e1.trans e2).trans e3).trans e4).trans e5) ?_
        rw [et, if_neg (of_decide_eq_false h3)]
        rfl
theorem sg_small : ∀ s ∈ SG, s.cps.size ≤ 40000 := by decide
theorem sc_token_kind : FnScope ["spelled", "sign"] ["spelled"] (defScope s_token_kind) := ⟨rfl, rfl, rfl, by decide +kernel, rfl, by decide +kernel, by decide +kernel⟩
theorem ok_token_kind (T : Txt w K mg) (H_is_digit : Has P0 w K mg base "is_digit" 1 ["byte"] (sp_is_digit K)) (H_codes : Has P0 w K mg base "codes" 1 ["written"] (sp_codes K)) (H_word_kind : Has P0 w K mg base "word_kind" 2 ["word"] (sp_word_kind K)) : Has P0 w K mg base "token_kind" 3 ["spelled"] (sp_token_kind K) := by
  refine has_of T.f_token_kind T.g_token_kind sc_token_kind (fun _ _ _ _ _ _ us hl => match us, hl with | [_], _ => rfl) (fun vs H Q E h => by obtain ⟨_, ⟨a, t, rfl, hx, ht, rfl⟩, _⟩ := h; rfl) (fun cdv A outer s H vs Q E hr h => ⟨_, PSs.nox (pss_cons (ps_if (pt_val (pe_h H_is_digit (by exact hr.mono (by decide)) (by rfl) (pa_cons (pe_ix ix_tup (pv 0) pe_int (fun _ _ => rfl)) pa_nil))) (pss_one (ps_ret pe_str)) pss_nil) (pss_cons (ps_for PassesOwn.never rfl (pi_tup (pe_gr (by rfl) T.g_SIGNS)) (pg_name (i := 1) sc_token_kind.nd rfl (Or.inl rfl)) (pss_one (ps_if (pt_cmpR (op_eqD (by exact hr.units)) (pv 0) (pe_h H_codes (by exact hr.mono (by decide)) (by rfl) (pa_cons (pv 1) pa_nil)) (nomark _)) (pss_one (ps_ret (pv 1))) pss_nil))) (pss_one (ps_ret (pe_h H_word_kind (by exact hr.mono (by decide)) (by rfl) (pa_cons (pv 0) pa_nil)))))), ?_⟩)
  obtain ⟨_, ⟨a, t, rfl, hx, ht, rfl⟩, k⟩ := h
  cases t with
  | nil => exact absurd rfl ht
  | cons c r =>
    refine q_when (et_B (ev_bit (ev_byte (i := 0) (n := c) (ev_var rfl) ev_c hx rfl))) (fun h1 H1 e1 => ?_) (fun h1 H1 e1 => ?_)
    · refine s_ret ev_c fun H2 e2 => k _ H2 (e1.trans e2) ?_
      unfold tkind
      rw [if_pos (show Vabldo.digit ((c :: r).headD 0) = true from h1)]
    · have ek : tkind (c :: r) = match SG.find? (fun k => decide (c :: r = ct k)) with | some k => k | none => wkind (c :: r) := by
        unfold tkind
        rw [if_neg (by rw [show Vabldo.digit ((c :: r).headD 0) = false from h1]; exact Bool.false_ne_true)]
      refine q_forE (l := SG) (A := fun k x _ => x = .str k) (it_tup (xs := SG.map V.str) ev_c (T.t_SIGNS H1) (all2_self (R := fun (b : Str) (x : V) => x = V.str b) (f := V.str) (fun _ => rfl) SG) (fun _ _ _ _ _ h => h) (by simp)) (fun pre σ' _ => (∃ y, σ' = [some (.ref a), y]) ∧ ∀ s ∈ pre, decide (c :: r = ct s) = false) (fun H2 e2 => ⟨⟨_, rfl⟩, by simp⟩) (fun H2 e2 pre b post x σ' H' hl e3 hp hb => ?_) (fun σ' H' e2 hp => ?_)
      · obtain ⟨⟨y, rfl⟩, hn⟩ := hp
        subst hb
        refine s_when (b := decide (c :: r = ct b)) (et_test (ev_eqTx (ev_tx (ev_var rfl) (hx.mono (e1.trans (e2.trans e3)))) (ep_codes (ev_var rfl) (sg_small b (hl ▸ by simp))))) (fun hb H4 e4 => ?_) (fun hb H4 e4 => ⟨e3.trans e4, ⟨_, rfl⟩, ?_⟩)
        · refine s_ret (ev_var rfl) fun H5 e5 => k _ H5 (e1.trans (((e2.trans e3).trans e4).trans e5)) ?_
          rw [ek, hl, find_at (p := fun k => decide (c :: r = ct k)) hn hb]
        · intro s hs
          rcases List.mem_append.mp hs with hs | hs
          · exact hn s hs
          · rw [List.mem_singleton.mp hs]
            exact hb
      · obtain ⟨⟨y, rfl⟩, hn⟩ := hp
        refine s_ret (ev_callR (v := .str (wkind (c :: r))) (ea_cons (ev_var rfl) ea_nil) fun H3 e3 => ⟨a, c :: r, rfl, hx.mono (e1.trans (e2.trans e3)), rfl⟩) fun H3 e3 => k _ H3 (e1.trans (e2.trans e3)) ?_
        rw [ek, find_none (p := fun k => decide (c :: r = ct k)) hn]
end
end Bl

-- part W9
set_option Elab.async false
set_option linter.all false
set_option maxRecDepth 100000
set_option maxHeartbeats 4000000
namespace Bl
open PySem PySem.Spec PyProof.Rows L2 Evl
/-! ### things that are made -/
def spI (C : Addr) (names : List Str) : Sp := fun vs H Q _ => ∃ (x dx : Addr) (as : List V), vs = .ref x :: as ∧ as.length = names.length ∧ H x = some (.ins C dx []) ∧ Q .non (upd H x (.ins C dx (names.zip as)))
theorem spI_len {C : Addr} {names : List Str} {vs : List V} {H : Hp} {Q : VK} {E : XK} (h : spI C names vs H Q E) : vs.length = names.length + 1 := by
  obtain ⟨x, dx, as, rfl, hl, _⟩ := h
  rw [List.length_cons, hl]
theorem len2 {α : Type} : ∀ {l : List α}, l.length = 2 → ∃ a b, l = [a, b]
  | [a, b], _ => ⟨a, b, rfl⟩
theorem len3 {α : Type} : ∀ {l : List α}, l.length = 3 → ∃ a b c, l = [a, b, c]
  | [a, b, c], _ => ⟨a, b, c, rfl⟩
section
variable {w : World} {K : PySem.W.Frag} {mg : Str → Option Value} {base : Heap}
theorem hasC_of {c qual : Str} {st : Stmt} {k : Nat} {N ps fs : List Str} {sp : Sp} {f : Addr} (hf : ∃ fd, FunD K "__init__" qual (defArgs st) (defBody st) (defScope st) [] [] f fd) (hm : Mk K (He.ga K c) f) (hc : Cls K (He.ga K c)) (hg : mg c = some (.ref (He.ga K c))) (hn : ∀ f ∈ fs, NoAttr K (He.ga K c) f) (S : FnScope N ps (defScope st))
    (hb : ∀ (kV doc pm : Value) (an : Option Addr) (cdv ct : Value) (us : List Value), us.length = ps.length → bindArgs (PySem.W.fnOf "__init__" qual (defArgs st) (defBody st) (defScope st) .none kV doc pm an cdv ct) ⟨us, []⟩ = pure (ps.zip us))
    (len : ∀ vs H Q E, sp vs H Q E → vs.length = ps.length)
    (body : ∀ (cdv : Value) (A : Around) (outer : List Env) (s : Shared) (H : Hp) (vs : List V) (Q : VK) (E : XK), Room k (A.deeper (envOfC qual (defScope st) s.heap.objs.size f cdv)) → sp vs H Q E →
      ∃ t, PSs (cxOf CX0 P0 w K mg base N qual (defScope st) f cdv A outer s H E) (defBody st) t ∧ t { nx := fun _ H' => Q .non H', rt := Q } (L2.start N vs) H) : HasC P0 w K mg base c (k + 1) ps sp fs := by
  obtain ⟨fd, F⟩ := hf
  exact ⟨⟨f, fd, hm, F.ok S len body, F.bindsN hb⟩, hc, hn, hg⟩
end
section
variable {K : PySem.W.Frag} {σ : L2.St} {H H' : Hp} {ta tb tc te : TE} {v x : V} {D : Ends} {tu tz : TS} {xs ys : List V}
def EvAP (ta : TA) (σ : L2.St) (H : Hp) (PA : List V → Hp → Prop) : Prop := ∀ H1, Ex H H1 → ∀ Q : List V → Hp → Prop, (∀ vs H2, Ex H1 H2 → PA vs H2 → Q vs H2) → ta σ H1 Q
theorem EvA.p {ta : TA} {vs : List V} (h : EvA ta σ H vs) : EvAP ta σ H (fun us _ => us = vs) := fun H1 e Q q => h H1 e Q fun H2 e2 => q vs H2 e2 rfl
theorem eap_cons {tr : TA} {PA : V → Hp → Prop} {PB : List V → Hp → Prop} (h : EvP ta σ H PA) (hr : EvAP tr σ H PB) (m : ∀ x H1 H2, Ex H1 H2 → PA x H1 → PA x H2) : EvAP (tCons ta tr) σ H (fun vs H1 => ∃ x us, vs = x :: us ∧ PA x H1 ∧ PB us H1) := fun H1 e Q q =>
  h H1 e _ fun x H2 e2 px => hr H2 (e.trans e2) _ fun us H3 e3 pu => q _ H3 (e2.trans e3) ⟨x, us, rfl, m _ _ _ e3 px, pu⟩
theorem eap_nil : EvAP tNil σ H (fun vs _ => vs = []) := fun H1 _ _ q => q [] H1 (Ex.refl H1) rfl
theorem ex_make {H1 : Hp} {x dx : Addr} {C : Addr} {l : List (Str × V)} (hx : H1 x = none) (hd : H1 dx = none) (hne : dx ≠ x) : Ex H1 (upd (upd (upd H1 dx (.own x)) x (.ins C dx [])) x (.ins C dx l)) := by
  rw [upd_upd]
  refine (Ex.new hd).trans (Ex.new ?_)
  rw [upd_ne (Ne.symm hne)]
  exact hx
/-- an object made by its __init__ -/
def IsOb (C : Addr) (names : List Str) (PA : List V → Hp → Prop) : V → Hp → Prop := fun v H => ∃ (x dx : Addr) (as : List V), v = .ref x ∧ H x = some (.ins C dx (names.zip as)) ∧ PA as H
theorem ep_make {C : Addr} {names : List Str} {ta : TA} {PA : List V → Hp → Prop} {E : XK} (h : EvAP ta σ H PA) (hl : ∀ as H1, PA as H1 → as.length = names.length) (m : ∀ as H1 H2, Ex H1 H2 → PA as H1 → PA as H2) : EvP (tMake C (spI C names) [] E ta) σ H (IsOb C names PA) := fun H1 e Q q =>
  h H1 e _ fun as H2 e2 pa x dx hx hd hne => ⟨x, dx, as, by rw [List.append_nil], hl as H2 pa, upd_same, rfl, q _ _ (e2.trans (ex_make hx hd hne)) ⟨x, dx, as, rfl, upd_same, m _ _ _ (ex_make hx hd hne) pa⟩⟩
/-- .. and it is new -/
theorem em_make {C : Addr} {names : List Str} {ta : TA} {PA : List V → Hp → Prop} {E : XK} (h : EvAP ta σ H PA) (hl : ∀ as H1, PA as H1 → as.length = names.length) (m : ∀ as H1 H2, Ex H1 H2 → PA as H1 → PA as H2) :
    ∀ H1, Ex H H1 → ∀ Q : VK, (∀ x H2, H1 x = none → Ex H1 H2 → IsOb C names PA (.ref x) H2 → Q (.ref x) H2) → tMake C (spI C names) [] E ta σ H1 Q := fun H1 e Q q =>
  h H1 e _ fun as H2 e2 pa x dx hx hd hne => ⟨x, dx, as, by rw [List.append_nil], hl as H2 pa, upd_same, rfl, q _ _ (fresh_back e2 hx) (e2.trans (ex_make hx hd hne)) ⟨x, dx, as, rfl, upd_same, m _ _ _ (ex_make hx hd hne) pa⟩⟩
theorem ep_tup {ta : TA} {vs : List V} (h : EvA ta σ H vs) (hl : vs.length ≤ 100000) : EvP (tTup ta) σ H (IsTp vs) := fun H1 e Q q => eu_tup h hl H1 e Q fun p H2 _ e2 hp => q _ H2 e2 ⟨p, rfl, hp⟩
theorem ep_tup0 : EvP (tTup tNil) σ H (IsTx []) := fun H1 e Q q => ep_tup (vs := []) ea_nil (by decide) H1 e Q fun v H2 e2 hp => q v H2 e2 hp
theorem sIx_at (n d k : Nat) (h : k ≤ n) : HT.sIx n d (some (k : Int)) = k := by rw [HT.sIx_nat]; omega
theorem tv_take (t : List Nat) (n : Nat) : (tv t).take n = tv (t.take n) := by unfold tv; rw [List.map_take]
theorem tv_drop (t : List Nat) (n : Nat) : (tv t).drop n = tv (t.drop n) := by unfold tv; rw [List.map_drop]
theorem ep_slice {a : Addr} {t : List Nat} {s e : Nat} {tl th : TE} (h : Ev ta σ H (.ref a)) (hx : Tx H a t) (h1 : Ev tl σ H (.int (s : Int))) (h2 : Ev th σ H (.int (e : Int))) (hs : s ≤ t.length) (he : e ≤ t.length) : EvP (tSl (rSlA K) ta (tPart tl) (tPart th)) σ H (IsTx ((t.drop s).take (e - s))) := fun H1 e1 Q q =>
  h H1 e1 _ fun H2 e2 => h1 H2 (e1.trans e2) _ fun H3 e3 => ⟨_, rfl, h2 H3 ((e1.trans e2).trans e3) _ fun H4 e4 => ⟨_, rfl, a, tv t, rfl, (hx.mono (((e1.trans e2).trans e3).trans e4)).sq, (fun z => by
    rw [tv_len, sIx_at _ _ _ hs, sIx_at _ _ _ he] at z
    have z1 := z.1
    have z2 := z.2
    subst z1 z2
    refine q _ H4 ((e2.trans e3).trans e4) ⟨a, rfl, ?_⟩
    rw [List.drop_zero, Nat.sub_zero, List.take_length]
    exact hx.mono (((e1.trans e2).trans e3).trans e4)), (fun z p hp => by
    refine q _ _ (((e2.trans e3).trans e4).trans (Ex.new hp)) ⟨p, rfl, ?_⟩
    show upd H4 p (.tup (cutV (tv t) (some (s : Int)) (some (e : Int)))) p = some (.tup (tv ((t.drop s).take (e - s))))
    rw [upd_same]
    unfold cutV
    rw [tv_len, sIx_at _ _ _ hs, sIx_at _ _ _ he, tv_drop, tv_take])⟩⟩
end
/-! ### tokens -/
def kindS (n : Nat) (k : Vabldo.Tok) : Str := if k.kind = 0 then (if k.place = n then ("over" : Str) else ("none" : Str)) else if k.kind = 1 then ("name" : Str) else if k.kind = 2 then ⟨k.text.toArray⟩ else if k.kind = 3 then ("number" : Str) else if k.kind = 4 then ⟨k.text.toArray⟩ else ("long" : Str)
def TokAt (K : PySem.W.Frag) (n : Nat) (k : Vabldo.Tok) (v : V) (H : Hp) : Prop := ∃ (x dx s : Addr), v = .ref x ∧ H x = some (.ins (He.ga K "Token") dx [("kind", .str (kindS n k)), ("place", .int (k.place : Int)), ("spelled", .ref s)]) ∧ Tx H s k.text
theorem mono_tok {K : PySem.W.Frag} {n : Nat} : Mono (TokAt K n) := fun k v H H' e h => by
  obtain ⟨x, dx, s, h1, h2, h3⟩ := h
  exact ⟨x, dx, s, h1, e _ _ h2, h3.mono e⟩
theorem tok_minus {K : PySem.W.Frag} {n : Nat} {k : Vabldo.Tok} {v : V} {H : Hp} {p : Addr} {xs : List V} (h : TokAt K n k v H) (hp : H p = some (.lst xs)) : TokAt K n k v (minus H [p]) := by
  obtain ⟨x, dx, s, h1, h2, h3⟩ := h
  refine ⟨x, dx, s, h1, minus_get h2 ?_, minus_get h3 ?_⟩
  · rw [List.mem_singleton]
    exact ne_of h2 hp (by intro z; cases z)
  · rw [List.mem_singleton]
    exact ne_of h3 hp (by intro z; cases z)
theorem ct_mk (t : List Nat) : ct ⟨t.toArray⟩ = t := rfl
theorem mk_ct (s : Str) : (⟨(ct s).toArray⟩ : Str) = s := rfl
theorem opens_not {c : Nat} (h : Vabldo.opens c = true) : Vabldo.digit c = false ∧ c ≠ 59 ∧ c ≠ 123 ∧ c ≠ 125 := by
  unfold Vabldo.opens Vabldo.letter at h
  simp only [Bool.or_eq_true, Bool.and_eq_true, decide_eq_true_eq, beq_iff_eq] at h
  unfold Vabldo.digit
  rw [Bool.and_eq_false_iff, decide_eq_false_iff_not, decide_eq_false_iff_not]
  omega
theorem sg_ct (c : Nat) (r : List Nat) (h : c ≠ 59 ∧ c ≠ 123 ∧ c ≠ 125) : SG.find? (fun k => decide (c :: r = ct k)) = none := by
  refine find_none fun s hs => decide_eq_false fun e => ?_
  have : ∀ s ∈ SG, (ct s).headD 0 = 59 ∨ (ct s).headD 0 = 123 ∨ (ct s).headD 0 = 125 := by decide
  have q := this s hs
  rw [← e] at q
  have q' : c = 59 ∨ c = 123 ∨ c = 125 := q
  omega
theorem kept_find (t : List Nat) : Vabldo.isKept t = true → KW.find? (fun k => decide (t = ct k)) = some ⟨t.toArray⟩ := by
  intro h
  have e : [Vabldo.str "run", Vabldo.str "kept", Vabldo.str "end", Vabldo.str "tool", Vabldo.str "arg", Vabldo.str "in", Vabldo.str "out", Vabldo.str "exit"] = KW.map ct := by decide
  unfold Vabldo.isKept at h
  rw [e, List.contains_iff_mem] at h
  obtain ⟨s, hs, es⟩ := List.mem_map.mp h
  subst es
  have : ∀ s ∈ KW, KW.find? (fun k => decide (ct s = ct k)) = some ⟨(ct s).toArray⟩ := by decide
  exact this s hs
theorem kept_none (t : List Nat) : Vabldo.isKept t = false → KW.find? (fun k => decide (t = ct k)) = none := by
  intro h
  have e : [Vabldo.str "run", Vabldo.str "kept", Vabldo.str "end", Vabldo.str "tool", Vabldo.str "arg", Vabldo.str "in", Vabldo.str "out", Vabldo.str "exit"] = KW.map ct := by decide
  unfold Vabldo.isKept at h
  rw [e] at h
  refine find_none fun s hs => decide_eq_false fun z => ?_
  rw [z, List.contains_iff_mem.mpr (List.mem_map.mpr ⟨s, hs, rfl⟩)] at h
  cases h
/-- the kind of a token that is read -/
theorem tkind_eq (n p c : Nat) (r : List Nat) (hs : tokLen (c :: r) ≠ 0) : tkind ((c :: r).take (tokLen (c :: r))) = kindS n { kind := tokNum ((c :: r).take (tokLen (c :: r))), text := (c :: r).take (tokLen (c :: r)), place := p } := by
  obtain ⟨m, hm⟩ : ∃ m, tokLen (c :: r) = m + 1 := ⟨tokLen (c :: r) - 1, by omega⟩
  have e : (c :: r).take (tokLen (c :: r)) = c :: r.take m := by rw [hm, List.take_succ_cons]
  rw [e]
  unfold tkind kindS
  show (if Vabldo.digit c = true then _ else _) = _
  rw [tokNum_cons]
  by_cases h1 : Vabldo.opens c = true
  · obtain ⟨h2, h3⟩ := opens_not h1
    rw [if_neg (by rw [h2]; exact Bool.false_ne_true), sg_ct c _ h3, if_pos h1]
    show wkind (c :: r.take m) = _
    unfold wkind
    cases hk : Vabldo.isKept (c :: r.take m) with
    | true =>
      rw [kept_find _ hk]
      rfl
    | false =>
      rw [kept_none _ hk]
      by_cases hl : (c :: r.take m).length ≤ 32
      · rw [if_pos hl, if_neg Bool.false_ne_true, if_pos hl]
        rfl
      · rw [if_neg hl, if_neg Bool.false_ne_true, if_neg hl]
        rfl
  · rw [if_neg h1]
    by_cases h2 : Vabldo.digit c = true
    · rw [if_pos h2, if_pos h2]
      rfl
    · rw [if_neg h2, if_neg h2]
      rw [tokLen_cons, if_neg h1, if_neg h2] at hm
      by_cases h3 : c = 59 ∨ c = 123 ∨ c = 125
      · rw [if_pos h3] at hm
        have em : m = 0 := by omega
        subst em
        rw [List.take_zero]
        rcases h3 with rfl | rfl | rfl <;> rfl
      · rw [if_neg h3] at hm
        cases hm
abbrev sp_Token (K : PySem.W.Frag) : Sp := spI (He.ga K "Token") ["kind", "place", "spelled"]
abbrev sp_scan (K : PySem.W.Frag) : Sp := spR fun vs H Post => ∃ (a : Addr) (t : List Nat), vs = [.ref a] ∧ Tx H a t ∧ t.length ≤ 10000 ∧ Post = fun v H' => ∃ p xs, v = .ref p ∧ H' p = some (.lst xs) ∧ All2 (fun k v => TokAt K t.length k v H') (Vabldo.tokens t) xs
section
variable {w : World} {K : PySem.W.Frag} {mg : Str → Option Value} {base : Heap} {σ : L2.St} {H : Hp} {ta tb tc : TE}
theorem sc_Token_init : FnScope ["self", "kind", "place", "spelled"] ["self", "kind", "place", "spelled"] (defScope s_Token_init) := ⟨rfl, rfl, rfl, by decide +kernel, rfl, by decide +kernel, by decide +kernel⟩
theorem ok_Token (T : Txt w K mg) : HasC P0 w K mg base "Token" 1 ["self", "kind", "place", "spelled"] (sp_Token K) ["kind", "place", "spelled"] := by
  refine hasC_of T.f_Token_init T.m_Token T.c_Token T.g_Token (List.forall_mem_cons.mpr ⟨T.n_Token_kind, (List.forall_mem_cons.mpr ⟨T.n_Token_place, (List.forall_mem_cons.mpr ⟨T.n_Token_spelled, (fun _ h => absurd h List.not_mem_nil)⟩)⟩)⟩) sc_Token_init (fun _ _ _ _ _ _ us hl => match us, hl with | [_, _, _, _], _ => rfl) (fun vs H Q E h => spI_len h) (fun cdv A outer s H vs Q E hr h => ⟨_, PSs.nox (pss_cons (ps_fld (pv 0) (pv 1) rfl) (pss_cons (ps_fld (pv 0) (pv 2) rfl) (pss_one (ps_fld (pv 0) (pv 3) rfl)))), ?_⟩)
  obtain ⟨x, dx, as, rfl, hl, hH, k⟩ := h
  obtain ⟨a, b, c, rfl⟩ := len3 hl
  refine st_seq (st_fld (val_var rfl) (val_var rfl) hH T.c_Token T.n_Token_kind (by decide) ?_)
  refine st_seq (st_fld (val_var rfl) (val_var rfl) upd_same T.c_Token T.n_Token_place (show (1 : Nat) < 1000 by decide) ?_)
  refine st_fld (val_var rfl) (val_var rfl) upd_same T.c_Token T.n_Token_spelled (show (2 : Nat) < 1000 by decide) ?_
  rw [upd_upd, upd_upd]
  exact k
theorem ep_token {n : Nat} {tok : Vabldo.Tok} {E : XK} (h1 : Ev ta σ H (.str (kindS n tok))) (h2 : Ev tb σ H (.int (tok.place : Int))) (h3 : EvP tc σ H (IsTx tok.text)) :
    EvP (tMake (He.ga K "Token") (sp_Token K) [] E (tCons ta (tCons tb (tCons tc tNil)))) σ H (TokAt K n tok) := by
  refine EvP.imp (ep_make (PA := fun as H1 => ∃ s, as = [.str (kindS n tok), .int (tok.place : Int), .ref s] ∧ Tx H1 s tok.text) (fun H1 e Q q => h1 H1 e _ fun H2 e2 => h2 H2 (e.trans e2) _ fun H3 e3 => h3 H3 ((e.trans e2).trans e3) _ fun v H4 e4 p => ?_) ?_ ?_) ?_
  · obtain ⟨s, rfl, hs⟩ := p
    exact q _ H4 ((e2.trans e3).trans e4) ⟨s, rfl, hs⟩
  · rintro as H1 ⟨s, rfl, _⟩
    rfl
  · rintro as H1 H2 e ⟨s, rfl, h⟩
    exact ⟨s, rfl, h.mono e⟩
  · rintro v H1 e ⟨x, dx, as, rfl, hx, s, rfl, hs⟩
    exact ⟨x, dx, s, rfl, hx, hs⟩
theorem all2_minus {n : Nat} {ks : List Vabldo.Tok} {xs ys : List V} {H : Hp} {p : Addr} (h : All2 (fun k v => TokAt K n k v H) ks xs) (hp : H p = some (.lst ys)) : All2 (fun k v => TokAt K n k v (minus H [p])) ks xs := h.imp fun _ _ h => tok_minus h hp
theorem drop_len_eq {t : List Nat} {s c : Nat} {r : List Nat} (h : t.drop s = c :: r) : t.length - (r.length + 1) = s ∧ s < t.length := by
  have e : (t.drop s).length = r.length + 1 := by rw [h, List.length_cons]
  rw [List.length_drop] at e
  omega
theorem sc_scan : FnScope ["text", "tokens", "start", "end", "spelled"] ["text"] (defScope s_scan) := ⟨rfl, rfl, rfl, by decide +kernel, rfl, by decide +kernel, by decide +kernel⟩
theorem ok_scan (T : Txt w K mg) (H_skip_blanks : Has P0 w K mg base "skip_blanks" 2 ["text", "start"] (sp_skip_blanks K)) (H_token_end : Has P0 w K mg base "token_end" 5 ["text", "start"] (sp_token_end K)) (H_Token : HasC P0 w K mg base "Token" 1 ["self", "kind", "place", "spelled"] (sp_Token K) ["kind", "place", "spelled"]) (H_token_kind : Has P0 w K mg base "token_kind" 3 ["spelled"] (sp_token_kind K)) : Has P0 w K mg base "scan" 6 ["text"] (sp_scan K) := by
  refine has_of T.f_scan T.g_scan sc_scan (fun _ _ _ _ _ _ us hl => match us, hl with | [_], _ => rfl) (fun vs H Q E h => by obtain ⟨_, ⟨a, t, rfl, hx, hz, rfl⟩, _⟩ := h; rfl) (fun cdv A outer s H vs Q E hr h => ⟨_, PSs.nox (pss_cons (ps_set (i := 1) sc_scan.nd rfl (Or.inl rfl) (pe_lst pa_nil)) (pss_cons (ps_set (i := 2) sc_scan.nd rfl (Or.inl rfl) (pe_h H_skip_blanks (by exact hr.mono (by decide)) (by rfl) (pa_cons (pv 0) (pa_cons pe_int pa_nil)))) (pss_cons (ps_while PassesOwn.never (pt_cmpR op_lt (pv 2) (pe_callB call_len_seq (by rfl) T.b_len PySem.boot_len (pa_cons (pv 0) pa_nil)) (nomark _)) (pss_cons (ps_set (i := 3) sc_scan.nd rfl (Or.inl rfl) (pe_h H_token_end (by exact hr.mono (by decide)) (by rfl) (pa_cons (pv 0) (pa_cons (pv 2) pa_nil)))) (pss_cons (ps_if (pt_cmpR op_eq (pv 3) (pv 2) (nomark _)) (pss_cons (ps_expr (pe_bm PySem.F.plainAttrs_list PySem.F.slot_list_append PySem.F.type_list_append mt_append (pv 1) (pa_cons (pe_hc H_Token (by exact hr.mono (by decide)) (by rfl) (pa_cons pe_str (pa_cons (pv 2) (pa_cons (pe_tup pa_nil) pa_nil)))) pa_nil))) (pss_one (ps_ret (pv 1)))) pss_nil) (pss_cons (ps_set (i := 4) sc_scan.nd rfl (Or.inl rfl) (pe_slice sl_tupA (pv 0) (po_some (pv 2)) (po_some (pv 3)))) (pss_cons (ps_expr (pe_bm PySem.F.plainAttrs_list PySem.F.slot_list_append PySem.F.type_list_append mt_append (pv 1) (pa_cons (pe_hc H_Token (by exact hr.mono (by decide)) (by rfl) (pa_cons (pe_h H_token_kind (by exact hr.mono (by decide)) (by rfl) (pa_cons (pv 4) pa_nil)) (pa_cons (pv 2) (pa_cons (pv 4) pa_nil)))) pa_nil))) (pss_one (ps_set (i := 2) sc_scan.nd rfl (Or.inl rfl) (pe_h H_skip_blanks (by exact hr.mono (by decide)) (by rfl) (pa_cons (pv 0) (pa_cons (pv 3) pa_nil)))))))))) (pss_cons (ps_expr (pe_bm PySem.F.plainAttrs_list PySem.F.slot_list_append PySem.F.type_list_append mt_append (pv 1) (pa_cons (pe_hc H_Token (by exact hr.mono (by decide)) (by rfl) (pa_cons pe_str (pa_cons (pe_callB call_len_seq (by rfl) T.b_len PySem.boot_len (pa_cons (pv 0) pa_nil)) (pa_cons (pe_tup pa_nil) pa_nil)))) pa_nil))) (pss_one (ps_ret (pv 1))))))), ?_⟩)
  obtain ⟨_, ⟨a, t, rfl, hx, hz, rfl⟩, k⟩ := h
  refine q_asgL (el_lst ea_nil (by decide)) fun p H1 hp e1 h1 => ?_
  have hm : ∀ b ∈ [p], H b = none := fun b hb => by rw [List.mem_singleton.mp hb]; exact hp
  refine q_asg (ev_callR (v := .int ((0 + sb false (t.drop 0) : Nat) : Int)) (ea_cons (ev_var rfl) (ea_cons ev_c ea_nil)) fun H2 e2 => ⟨a, t, 0, rfl, hx.mono (e1.trans e2), Nat.zero_le _, rfl⟩) fun H2 e2 => ?_
  have htk : Vabldo.tokens t = TK t.length t := rfl
  refine q_while (fun m σ' H' => ∃ (s : Nat) (y z : Option V) (xs : List V) (done : List Vabldo.Tok), m = t.length - s ∧ s ≤ t.length ∧ σ' = [some (.ref a), some (.ref p), some (.int (s : Int)), y, z] ∧ Ex (minus H1 [p]) H' ∧ H' p = some (.lst xs) ∧ All2 (fun k v => TokAt K t.length k v H') done xs ∧ done ++ TK t.length (t.drop s) = TK t.length t ∧ done.length ≤ s ∧ (∀ c r, t.drop s = c :: r → Vabldo.blank c = false ∧ c ≠ 35)) (t.length - sb false t) ⟨sb false t, _, _, [], [], rfl, sb_le _ _, by rw [Nat.zero_add]; rfl, Ex.m e2, e2 _ _ h1, .nil, by rw [List.nil_append]; exact (TK_skip t.length t).1.symm, Nat.zero_le _, fun c r h => sb_head t false c r h⟩ (fun m σ' H' hw => ?_)
  obtain ⟨s, y, z, xs, done, rfl, hs, rfl, e3, hpl, hA, htok, hdl, hhead⟩ := hw
  have hxm : Tx (minus H1 [p]) a t := minus_get (e1 _ _ hx) (by rw [List.mem_singleton]; exact ne_of_none hx hp)
  have hx3 : Tx H' a t := e3 _ _ hxm
  have hxl := hA.len
  refine ⟨decide (s < t.length), et_eq (et_test (ev_lt (ev_var rfl) (ev_lenTx (ev_var rfl) hx3))) (dec_lt ..), fun hb H3 e4 => ?_, fun hb H3 e4 => ?_⟩
  · have hlt := of_decide_eq_true hb
    obtain ⟨c, hc, hd⟩ := at_of hlt
    obtain ⟨hb1, hb2⟩ := hhead _ _ hd
    obtain ⟨hpl1, _⟩ := drop_len_eq hd
    have hstep := TK_step t.length c (t.drop (s + 1)) hb1 hb2
    rw [← hd] at hstep
    have hle := tokLen_le (t.drop s)
    rw [List.length_drop] at hle
    refine ⟨_, fun _ _ h => h, ?_⟩
    refine q_asg (ev_callR (v := .int ((s + tokLen (t.drop s) : Nat) : Int)) (ea_cons (ev_var rfl) (ea_cons (ev_var rfl) ea_nil)) fun H4 e5 => ⟨a, t, s, rfl, hx3.mono (e4.trans e5), hlt, rfl⟩) fun H4 e5 => ?_
    refine q_when (et_test (ev_eqN (ev_var rfl) (ev_var rfl))) (fun h0 H5 e6 => ?_) (fun h0 H5 e6 => ?_)
    · have h0 : tokLen (t.drop s) = 0 := by
        have := beq_iff_eq.mp h0
        omega
      rw [if_pos h0, hpl1] at hstep
      have e46 := (e4.trans e5).trans e6
      refine q_appP (Post := TokAt K t.length { kind := 0, text := [], place := s }) (e46 _ _ hpl) (ev_var rfl) (ep_token (ev_is ev_c (congrArg V.str (by unfold kindS; rw [if_pos rfl, if_neg (Nat.ne_of_lt hlt)]))) (ev_var rfl) ep_tup0) (by omega) fun x H6 e7 px => ?_
      have hp6 : H6 p = some (.lst xs) := (e46.trans e7) _ _ hpl
      refine s_ret (ev_var rfl) fun H7 e8 => k _ H7 ((Ex.ofMinus (Ex.minusL e1 (Ex.minusT e3 (Ex.minusT (Ex.m (e46.trans e7)) (ex_mut (a := p) (by simp))))) hm).trans e8) ⟨p, xs ++ [x], rfl, e8 _ _ upd_same, ?_⟩
      rw [htk, ← htok, hstep]
      have em : Ex (minus H6 [p]) H7 := (ex_mut (a := p) (by simp)).trans e8
      exact ((all2_minus (hA.mono mono_tok (e46.trans e7)) hp6).mono mono_tok em).app (.one (mono_tok _ _ _ _ em (tok_minus px hp6)))
    · have h0 : tokLen (t.drop s) ≠ 0 := by
        have := beq_eq_false_iff_ne.mp h0
        omega
      rw [if_neg h0, hpl1] at hstep
      have e46 := (e4.trans e5).trans e6
      refine q_asgP (ep_slice (ev_var rfl) (hx3.mono e46) (ev_var rfl) (ev_var rfl) hs (by omega)) fun v H6 e7 pv => ?_
      obtain ⟨q, rfl, hq⟩ := pv
      rw [Nat.add_sub_cancel_left] at hq
      have hk := tkind_eq t.length s c (t.drop (s + 1)) (by rw [← hd]; exact h0)
      rw [← hd] at hk
      have hne : (t.drop s).take (tokLen (t.drop s)) ≠ [] := by
        intro z
        have zl := congrArg List.length z
        rw [List.length_take, List.length_drop, List.length_nil] at zl
        omega
      have e47 := e46.trans e7
      refine q_appP (Post := TokAt K t.length { kind := tokNum ((t.drop s).take (tokLen (t.drop s))), text := (t.drop s).take (tokLen (t.drop s)), place := s }) (e47 _ _ hpl) (ev_var rfl) (ep_token (ev_callR (ea_cons (ev_var rfl) ea_nil) fun H7 e8 => ⟨q, _, rfl, hq.mono e8, hne, by rw [hk]⟩) (ev_var rfl) (ev_tx (ev_var rfl) hq)) (by omega) fun x H7 e8 px => ?_
      have hp7 : H7 p = some (.lst xs) := (e47.trans e8) _ _ hpl
      have em : Ex (minus H7 [p]) (upd H7 p (.lst (xs ++ [x]))) := ex_mut (by simp)
      have e37 : Ex (minus H1 [p]) (upd H7 p (.lst (xs ++ [x]))) := Ex.minusT e3 (Ex.minusT (Ex.m (e47.trans e8)) em)
      refine s_asg (ev_callR (v := .int ((s + tokLen (t.drop s) + sb false (t.drop (s + tokLen (t.drop s))) : Nat) : Int)) (ea_cons (ev_var rfl) (ea_cons (ev_var rfl) ea_nil)) fun H8 e9 => ⟨a, t, s + tokLen (t.drop s), rfl, (e37.trans e9) _ _ hxm, by omega, rfl⟩) fun H8 e9 => ?_
      have hsb := sb_le false (t.drop (s + tokLen (t.drop s)))
      rw [List.length_drop] at hsb
      refine ⟨t.length - (s + tokLen (t.drop s) + sb false (t.drop (s + tokLen (t.drop s)))), by omega, s + tokLen (t.drop s) + sb false (t.drop (s + tokLen (t.drop s))), _, _, xs ++ [x], done ++ [{ kind := tokNum ((t.drop s).take (tokLen (t.drop s))), text := (t.drop s).take (tokLen (t.drop s)), place := s }], rfl, by omega, rfl, e37.trans e9, e9 _ _ upd_same, ?_, ?_, ?_, ?_⟩
      · exact ((all2_minus (hA.mono mono_tok (e47.trans e8)) hp7).mono mono_tok (em.trans e9)).app (.one (mono_tok _ _ _ _ (em.trans e9) (tok_minus px hp7)))
      · have es := (TK_skip t.length (t.drop (s + tokLen (t.drop s)))).1
        rw [List.drop_drop] at es
        rw [List.drop_drop] at hstep
        rw [← htok, hstep, es, List.append_assoc]
        rfl
      · rw [List.length_append, List.length_singleton]
        omega
      · intro c' r' h'
        rw [← List.drop_drop] at h'
        exact sb_head _ false c' r' h'
  · have hge := of_decide_eq_false hb
    have hs' : s = t.length := by omega
    have e : t.drop s = [] := List.drop_eq_nil_of_le (by omega)
    rw [e, TK_nil] at htok
    refine q_appP (Post := TokAt K t.length { kind := 0, text := [], place := t.length }) (e4 _ _ hpl) (ev_var rfl) (ep_token (ev_is ev_c (congrArg V.str (by unfold kindS; rw [if_pos rfl, if_pos rfl]))) (ev_lenTx (ev_var rfl) (hx3.mono e4)) ep_tup0) (by omega) fun x H6 e7 px => ?_
    have hp6 : H6 p = some (.lst xs) := (e4.trans e7) _ _ hpl
    refine s_ret (ev_var rfl) fun H7 e8 => k _ H7 ((Ex.ofMinus (Ex.minusL e1 (Ex.minusT e3 (Ex.minusT (Ex.m (e4.trans e7)) (ex_mut (a := p) (by simp))))) hm).trans e8) ⟨p, xs ++ [x], rfl, e8 _ _ upd_same, ?_⟩
    rw [htk, ← htok]
    have em : Ex (minus H6 [p]) H7 := (ex_mut (a := p) (by simp)).trans e8
    exact ((all2_minus (hA.mono mono_tok (e4.trans e7)) hp6).mono mono_tok em).app (.one (mono_tok _ _ _ _ em (tok_minus px hp6)))
end
end Bl

-- part M2
set_option Elab.async false
set_option linter.all false
set_option maxRecDepth 100000
set_option maxHeartbeats 4000000
namespace Bl
open PySem hiding Tok
open Vabldo
/-! ### the table of steps, row by row -/
def rowsOf (a : Str) : List (Str × Str) := (ents.filter fun e => decide (e.a = a)).map fun e => (e.b, e.v)
theorem rows_find (a b : Str) : ∀ es : List Hd.Ent, ((es.find? fun e => decide (e.key = [Sum.inr a, Sum.inr b])).map (·.v)) = (((es.filter fun e => decide (e.a = a)).map fun e => (e.b, e.v)).find? fun p => decide (p.1 = b)).map (·.2)
  | [] => rfl
  | e :: es => by
    have ih := rows_find a b es
    by_cases h1 : e.a = a
    · rw [List.filter_cons, if_pos (decide_eq_true h1), List.map_cons, List.find?_cons, List.find?_cons]
      by_cases h2 : e.b = b
      · have hk : decide (e.key = [Sum.inr a, Sum.inr b]) = true := decide_eq_true (by unfold Hd.Ent.key; rw [h1, h2])
        have hk2 : decide ((e.b, e.v).1 = b) = true := decide_eq_true h2
        rw [hk, hk2]
        rfl
      · have hk : decide (e.key = [Sum.inr a, Sum.inr b]) = false := decide_eq_false fun z => by
          unfold Hd.Ent.key at z
          simp only [List.cons.injEq, Sum.inr.injEq, and_true] at z
          exact h2 z.2
        have hk2 : decide ((e.b, e.v).1 = b) = false := decide_eq_false h2
        rw [hk, hk2]
        exact ih
    · have hk : decide (e.key = [Sum.inr a, Sum.inr b]) = false := decide_eq_false fun z => by
        unfold Hd.Ent.key at z
        simp only [List.cons.injEq, Sum.inr.injEq, and_true] at z
        exact h1 z.1
      rw [List.filter_cons, if_neg (by rw [decide_eq_false h1]; exact Bool.false_ne_true), List.find?_cons, hk]
      exact ih
theorem step_rows (a b : Str) : stepOf a b = ((rowsOf a).find? fun p => decide (p.1 = b)).map (·.2) := rows_find a b ents
theorem row1 {a b c : Str} (h : rowsOf a = [(b, c)]) (x : Str) : stepOf a x = if x = b then some c else none := by
  rw [step_rows, h, List.find?_cons]
  by_cases e : b = x
  · rw [show decide ((b, c).1 = x) = true from decide_eq_true e, if_pos e.symm]
    rfl
  · rw [show decide ((b, c).1 = x) = false from decide_eq_false e, if_neg (Ne.symm e)]
    rfl
abbrev pr (a b : Str) : Str × Str := (a, b)
theorem rw_log : rowsOf "log" = [pr "run" "record", pr "kept" "record", pr "end" "end"] := by decide +kernel
theorem rw_record : rowsOf "record" = [pr "name" "record name"] := by decide +kernel
theorem rw_recordN : rowsOf "record name" = [pr "{" "record {"] := by decide +kernel
theorem rw_recordO : rowsOf "record {" = [pr "tool" "tool"] := by decide +kernel
theorem rw_tool : rowsOf "tool" = [pr "name" "tool name"] := by decide +kernel
theorem rw_toolN : rowsOf "tool name" = [pr ";" "arguments"] := by decide +kernel
theorem rw_arguments : rowsOf "arguments" = [pr "arg" "arg", pr "in" "in", pr "out" "out", pr "exit" "exit"] := by decide +kernel
theorem rw_arg : rowsOf "arg" = [pr "name" "arg name"] := by decide +kernel
theorem rw_argN : rowsOf "arg name" = [pr ";" "arguments"] := by decide +kernel
theorem rw_in : rowsOf "in" = [pr "name" "in name"] := by decide +kernel
theorem rw_inN : rowsOf "in name" = [pr "number" "in number"] := by decide +kernel
theorem rw_inX : rowsOf "in number" = [pr ";" "inputs"] := by decide +kernel
theorem rw_inputs : rowsOf "inputs" = [pr "in" "in", pr "out" "out", pr "exit" "exit"] := by decide +kernel
theorem rw_out : rowsOf "out" = [pr "name" "out name"] := by decide +kernel
theorem rw_outN : rowsOf "out name" = [pr "number" "out number"] := by decide +kernel
theorem rw_outX : rowsOf "out number" = [pr ";" "outputs"] := by decide +kernel
theorem rw_outputs : rowsOf "outputs" = [pr "out" "out", pr "exit" "exit"] := by decide +kernel
theorem rw_exit : rowsOf "exit" = [pr "number" "exit number"] := by decide +kernel
theorem rw_exitX : rowsOf "exit number" = [pr ";" "exit ;"] := by decide +kernel
theorem rw_exitS : rowsOf "exit ;" = [pr "}" "log"] := by decide +kernel
theorem rw_end : rowsOf "end" = [pr "number" "end number"] := by decide +kernel
theorem rw_endX : rowsOf "end number" = [pr ";" "end ;"] := by decide +kernel
theorem rw_endS : rowsOf "end ;" = [pr "over" "whole"] := by decide +kernel
theorem rw_whole : rowsOf "whole" = [] := by decide +kernel
/-- of several -/
theorem row_hit {a x c : Str} (h : ((rowsOf a).find? fun p => decide (p.1 = x)) = some (x, c)) : stepOf a x = some c := by rw [step_rows, h]; rfl
theorem row_miss {a x : Str} (h : ∀ p ∈ rowsOf a, p.1 ≠ x) : stepOf a x = none := by
  rw [step_rows, find_none fun p hp => decide_eq_false (h p hp)]
  rfl
/-! ### tokens as they come -/
def NumT (t : Text) : Prop := t ≠ [] ∧ (∀ c ∈ t, digit c = true) ∧ (t.headD 0 = 48 → t.length = 1)
structure Wf (k : Tok) : Prop where
  w1 : k.kind = 1 → isName k.text = true
  w2 : k.kind = 2 → isKept k.text = true
  w3 : k.kind = 3 → NumT k.text
  w4 : k.kind = 4 → k.text = [59] ∨ k.text = [123] ∨ k.text = [125]
  le : k.kind ≤ 5
inductive Cp : List Tok → Prop
  | last {k : Tok} : k.kind = 0 → Cp [k]
  | cons {k : Tok} {r : List Tok} : k.kind ≠ 0 → Wf k → Cp r → Cp (k :: r)
theorem takeWhile_all {α : Type} (p : α → Bool) : ∀ (l : List α), ∀ c ∈ l.takeWhile p, p c = true
  | [], c, h => by cases h
  | a :: l, c, h => by
    rw [List.takeWhile_cons] at h
    split at h
    · rename_i hp
      rcases List.mem_cons.mp h with rfl | h
      · exact hp
      · exact takeWhile_all p l c h
    · cases h
theorem wf_tok (n p c : Nat) (r : List Nat) (h0 : tokLen (c :: r) ≠ 0) : Wf { kind := tokNum ((c :: r).take (tokLen (c :: r))), text := (c :: r).take (tokLen (c :: r)), place := p } ∧ tokNum ((c :: r).take (tokLen (c :: r))) ≠ 0 := by
  obtain ⟨m, hm⟩ : ∃ m, tokLen (c :: r) = m + 1 := ⟨tokLen (c :: r) - 1, by omega⟩
  have e : (c :: r).take (tokLen (c :: r)) = c :: r.take m := by rw [hm, List.take_succ_cons]
  rw [tokLen_cons] at hm
  by_cases h1 : opens c = true
  · rw [e, tokNum_cons, if_pos h1]
    by_cases h2 : isKept (c :: r.take m) = true
    · rw [if_pos h2]
      exact ⟨⟨fun z => (by cases z), fun _ => h2, fun z => (by cases z), fun z => (by cases z), Nat.le_of_ble_eq_true rfl⟩, by decide⟩
    · rw [if_neg h2]
      split
      · rename_i hl
        refine ⟨⟨fun _ => ?_, fun z => (by cases z), fun z => (by cases z), fun z => (by cases z), Nat.le_of_ble_eq_true rfl⟩, by decide⟩
        have et : (c :: r).take (tokLen (c :: r)) = (c :: r).takeWhile inner := by rw [tokLen_cons, if_pos h1, takeWhile_take]
        show isName (c :: r.take m) = true
        have ha : (c :: r.take m).all inner = true := by
          rw [← e, et, List.all_eq_true]
          exact takeWhile_all inner _
        unfold isName
        rw [ha, decide_eq_true hl]
        show (opens c && _) = true
        rw [h1]
        simpa using h2
      · exact ⟨⟨fun z => (by cases z), fun z => (by cases z), fun z => (by cases z), fun z => (by cases z), Nat.le_of_ble_eq_true rfl⟩, by decide⟩
  · rw [if_neg h1] at hm
    by_cases h2 : digit c = true
    · rw [if_pos h2] at hm
      by_cases h3 : c = 48 ∧ 1 < ((c :: r).takeWhile digit).length
      · rw [if_pos h3] at hm
        cases hm
      · rw [if_neg h3] at hm
        have et : (c :: r).take (tokLen (c :: r)) = (c :: r).takeWhile digit := by
          rw [tokLen_cons, if_neg h1, if_pos h2, if_neg h3, takeWhile_take]
        have en : tokNum (c :: r.take m) = 3 := by rw [tokNum_cons, if_neg h1, if_pos h2]
        rw [e, en]
        refine ⟨⟨fun z => (by cases z), fun z => (by cases z), fun _ => ⟨(by intro z; cases z), ?_, ?_⟩, fun z => (by cases z), Nat.le_of_ble_eq_true rfl⟩, by decide⟩
        · show ∀ d ∈ c :: r.take m, digit d = true
          rw [← e, et]
          exact takeWhile_all digit _
        · intro hz
          have hc : c = 48 := hz
          show (c :: r.take m).length = 1
          rw [← e, et]
          have : ¬ 1 < ((c :: r).takeWhile digit).length := fun z => h3 ⟨hc, z⟩
          omega
    · rw [if_neg h2] at hm
      by_cases h3 : c = 59 ∨ c = 123 ∨ c = 125
      · rw [if_pos h3] at hm
        have em : m = 0 := by omega
        subst em
        rw [e, tokNum_cons, if_neg h1, if_neg h2, List.take_zero]
        refine ⟨⟨fun z => (by cases z), fun z => (by cases z), fun z => (by cases z), fun _ => ?_, Nat.le_of_ble_eq_true rfl⟩, by decide⟩
        show [c] = _ ∨ [c] = _ ∨ [c] = _
        rcases h3 with rfl | rfl | rfl <;> simp
      · rw [if_neg h3] at hm
        cases hm
theorem cp_TK (n : Nat) : ∀ (m : Nat) (l : List Nat), l.length ≤ m → Cp (TK n l) := by
  intro m
  induction m with
  | zero =>
    intro l h
    have : l = [] := List.length_eq_zero_iff.mp (by omega)
    subst this
    exact .last rfl
  | succ m ih =>
    intro l h
    rw [(TK_skip n l).1]
    cases hd : l.drop (sb false l) with
    | nil => exact .last rfl
    | cons c r =>
      obtain ⟨h1, h2⟩ := sb_head l false c r hd
      have hl : (c :: r).length ≤ l.length := by rw [← hd, List.length_drop]; omega
      rw [TK_step n c r h1 h2]
      by_cases h0 : tokLen (c :: r) = 0
      · rw [if_pos h0]
        exact .last rfl
      · rw [if_neg h0]
        obtain ⟨w, hk⟩ := wf_tok n (n - (r.length + 1)) c r h0
        refine .cons hk w (ih _ ?_)
        rw [List.length_drop]
        omega
theorem cp_tokens (t : Text) : Cp (tokens t) := cp_TK t.length t.length t (Nat.le_refl _)
/-! ### kinds -/
section
variable {n : Nat} {k : Tok} {r ts : List Tok}
theorem kind0 (h : k.kind = 0) : kindS n k = if k.place = n then ("over" : Str) else ("none" : Str) := by unfold kindS; rw [if_pos h]
theorem cp_ne (h : Cp ts) : ts ≠ [] := by cases h <;> simp
theorem kw_ne : ∀ s ∈ KW, s ≠ "over" ∧ s ≠ "none" ∧ s ≠ "name" ∧ s ≠ "number" ∧ s ≠ "long" ∧ s ≠ ";" ∧ s ≠ "{" ∧ s ≠ "}" := by decide
theorem kept_mem (t : Text) (h : isKept t = true) : (⟨t.toArray⟩ : Str) ∈ KW := List.mem_of_find?_eq_some (kept_find t h)
theorem str_inj {a b : List Nat} (h : (⟨a.toArray⟩ : Str) = ⟨b.toArray⟩) : a = b := by
  have := congrArg ct h
  exact this
/-- the kinds that may be, each by its number -/
theorem kinds (w : Wf k) : (k.kind = 0 ∧ (kindS n k = "over" ∨ kindS n k = "none")) ∨ (k.kind = 1 ∧ kindS n k = "name") ∨ (k.kind = 2 ∧ kindS n k = ⟨k.text.toArray⟩ ∧ kindS n k ∈ KW) ∨ (k.kind = 3 ∧ kindS n k = "number") ∨ (k.kind = 4 ∧ kindS n k = ⟨k.text.toArray⟩ ∧ kindS n k ∈ SG) ∨ (k.kind = 5 ∧ kindS n k = "long") := by
  have hle := w.le
  rcases (by omega : k.kind = 0 ∨ k.kind = 1 ∨ k.kind = 2 ∨ k.kind = 3 ∨ k.kind = 4 ∨ k.kind = 5) with h | h | h | h | h | h
  · left
    refine ⟨h, ?_⟩
    rw [kind0 h]
    split
    · exact Or.inl rfl
    · exact Or.inr rfl
  · right; left
    refine ⟨h, ?_⟩
    unfold kindS
    rw [h]
    rfl
  · right; right; left
    have e : kindS n k = ⟨k.text.toArray⟩ := by unfold kindS; rw [h]; rfl
    exact ⟨h, e, by rw [e]; exact kept_mem _ (w.w2 h)⟩
  · right; right; right; left
    refine ⟨h, ?_⟩
    unfold kindS
    rw [h]
    rfl
  · right; right; right; right; left
    have e : kindS n k = ⟨k.text.toArray⟩ := by unfold kindS; rw [h]; rfl
    refine ⟨h, e, ?_⟩
    rw [e]
    rcases w.w4 h with z | z | z <;> rw [z] <;> decide
  · right; right; right; right; right
    refine ⟨h, ?_⟩
    unfold kindS
    rw [h]
    rfl
theorem sg_ne : ∀ s ∈ SG, s ≠ "over" ∧ s ≠ "none" ∧ s ≠ "name" ∧ s ≠ "number" ∧ s ≠ "long" ∧ s ∉ KW := by decide
theorem is_word {s : String} {x : Str} (w : Wf k) (hx : x ∈ KW) (hs : ct x = str s) : (k.kind == 2 && k.text == str s) = decide (kindS n k = x) := by
  have hn := kw_ne x hx
  rcases kinds (n := n) w with ⟨h, e⟩ | ⟨h, e⟩ | ⟨h, e, hm⟩ | ⟨h, e⟩ | ⟨h, e, hm⟩ | ⟨h, e⟩
  · rw [h, show ((0 : Nat) == 2) = false from rfl, Bool.false_and]
    refine (decide_eq_false fun z => ?_).symm
    rw [z] at e
    rcases e with e | e
    · exact hn.1 e
    · exact hn.2.1 e
  · rw [h, show ((1 : Nat) == 2) = false from rfl, Bool.false_and]
    exact (decide_eq_false fun z => hn.2.2.1 (z.symm.trans e)).symm
  · rw [h, show ((2 : Nat) == 2) = true from rfl, Bool.true_and, e, ← hs]
    by_cases q : k.text = ct x
    · rw [q]
      rw [decide_eq_true (show (⟨(ct x).toArray⟩ : Str) = x from rfl)]
      exact beq_self_eq_true _
    · rw [decide_eq_false fun z => q (by have := congrArg ct z; exact this)]
      exact beq_eq_false_iff_ne.mpr q
  · rw [h, show ((3 : Nat) == 2) = false from rfl, Bool.false_and]
    exact (decide_eq_false fun z => hn.2.2.2.1 (z.symm.trans e)).symm
  · rw [h, show ((4 : Nat) == 2) = false from rfl, Bool.false_and]
    exact (decide_eq_false fun z => (sg_ne _ hm).2.2.2.2.2 (by rw [z]; exact hx)).symm
  · rw [h, show ((5 : Nat) == 2) = false from rfl, Bool.false_and]
    exact (decide_eq_false fun z => hn.2.2.2.2.1 (z.symm.trans e)).symm
theorem is_sign {c : Nat} {x : Str} (w : Wf k) (hx : x ∈ SG) (hs : ct x = [c]) : (k.kind == 4 && k.text == [c]) = decide (kindS n k = x) := by
  have hn := sg_ne x hx
  rcases kinds (n := n) w with ⟨h, e⟩ | ⟨h, e⟩ | ⟨h, e, hm⟩ | ⟨h, e⟩ | ⟨h, e, hm⟩ | ⟨h, e⟩
  · rw [h, show ((0 : Nat) == 4) = false from rfl, Bool.false_and]
    refine (decide_eq_false fun z => ?_).symm
    rw [z] at e
    rcases e with e | e
    · exact hn.1 e
    · exact hn.2.1 e
  · rw [h, show ((1 : Nat) == 4) = false from rfl, Bool.false_and]
    exact (decide_eq_false fun z => hn.2.2.1 (z.symm.trans e)).symm
  · rw [h, show ((2 : Nat) == 4) = false from rfl, Bool.false_and]
    exact (decide_eq_false fun z => hn.2.2.2.2.2 (by rw [← z]; exact hm)).symm
  · rw [h, show ((3 : Nat) == 4) = false from rfl, Bool.false_and]
    exact (decide_eq_false fun z => hn.2.2.2.1 (z.symm.trans e)).symm
  · rw [h, show ((4 : Nat) == 4) = true from rfl, Bool.true_and, e, ← hs]
    by_cases q : k.text = ct x
    · rw [q]
      rw [decide_eq_true (show (⟨(ct x).toArray⟩ : Str) = x from rfl)]
      exact beq_self_eq_true _
    · rw [decide_eq_false fun z => q (by have := congrArg ct z; exact this)]
      exact beq_eq_false_iff_ne.mpr q
  · rw [h, show ((5 : Nat) == 4) = false from rfl, Bool.false_and]
    exact (decide_eq_false fun z => hn.2.2.2.2.1 (z.symm.trans e)).symm
theorem is_name (w : Wf k) : (k.kind == 1) = decide (kindS n k = "name") := by
  rcases kinds (n := n) w with ⟨h, e⟩ | ⟨h, e⟩ | ⟨h, e, hm⟩ | ⟨h, e⟩ | ⟨h, e, hm⟩ | ⟨h, e⟩
  · rw [h]
    rcases e with e | e <;> rw [e] <;> decide
  · rw [h, e]; decide
  · rw [h, decide_eq_false (kw_ne _ hm).2.2.1]; rfl
  · rw [h, e]; decide
  · rw [h, decide_eq_false (sg_ne _ hm).2.2.1]; rfl
  · rw [h, e]; decide
theorem is_number (w : Wf k) : (k.kind == 3) = decide (kindS n k = "number") := by
  rcases kinds (n := n) w with ⟨h, e⟩ | ⟨h, e⟩ | ⟨h, e, hm⟩ | ⟨h, e⟩ | ⟨h, e, hm⟩ | ⟨h, e⟩
  · rw [h]
    rcases e with e | e <;> rw [e] <;> decide
  · rw [h, e]; decide
  · rw [h, decide_eq_false (kw_ne _ hm).2.2.2.1]; rfl
  · rw [h, e]; decide
  · rw [h, decide_eq_false (sg_ne _ hm).2.2.2.1]; rfl
  · rw [h, e]; decide
theorem wf0 (h : k.kind = 0) : Wf k := ⟨fun z => by omega, fun z => by omega, fun z => by omega, fun z => by omega, by omega⟩
theorem cp_wf (h : Cp ts) : Wf (next ts) := by
  cases h with
  | last h => exact wf0 h
  | cons h w _ => exact w
end
end Bl

-- part M3
set_option Elab.async false
set_option linter.all false
set_option maxRecDepth 100000
set_option maxHeartbeats 4000000
namespace Bl
open PySem hiding Tok
open Vabldo
/-! ### the steps against the descent; what is built -/
def mis (n : Nat) : Str → List Tok → Option Nat
  | _, [] => none
  | st, k :: r => match stepOf st (kindS n k) with
    | none => some k.place
    | some st' => mis n st' r
def mkU (v : Text → Nat) (p : Text × Text) : Used := { file := p.1, number := v p.2 }
def fillR (v : Text → Nat) (rc : Record) (k : Str) (r : List Tok) : Record :=
  if k = "tool" then { rc with tool := (next r).text } else if k = "arg" then { rc with args := rc.args ++ [(next r).text] }
  else if k = "in" then { rc with ins := rc.ins ++ [mkU v ((next r).text, (next (r.drop 1)).text)] } else if k = "out" then { rc with outs := rc.outs ++ [mkU v ((next r).text, (next (r.drop 1)).text)] }
  else if k = "exit" then { rc with exit := v (next r).text } else rc
def bstep (v : Text → Nat) (st : List Record × Nat) (k : Str) (r : List Tok) : List Record × Nat :=
  if k = "run" ∨ k = "kept" then (st.1 ++ [{ run := decide (k = "run"), name := (next r).text, tool := [], args := [], ins := [], outs := [], exit := 0 }], st.2)
  else if k = "end" then (st.1, v (next r).text)
  else match st.1.getLast? with
    | none => st
    | some rc => (st.1.dropLast ++ [fillR v rc k r], st.2)
def bld (n : Nat) (v : Text → Nat) : List Record × Nat → List Tok → List Record × Nat
  | st, [] => st
  | st, k :: r => bld n v (bstep v st (kindS n k) r) r
section
variable {n : Nat} {ts : List Tok} {v : Text → Nat}
theorem mis_yes {S x S' : Str} {k : Tok} {r : List Tok} (h : kindS n k = x) (hs : stepOf S x = some S') : mis n S (k :: r) = mis n S' r := by
  show (match stepOf S (kindS n k) with | none => some k.place | some st' => mis n st' r) = _
  rw [h, hs]
theorem mis_no {S : Str} {k : Tok} {r : List Tok} (hs : stepOf S (kindS n k) = none) : mis n S (k :: r) = some k.place := by
  show (match stepOf S (kindS n k) with | none => some k.place | some st' => mis n st' r) = _
  rw [hs]
theorem mis_bad {S : Str} (h : Cp ts) (hs : stepOf S (kindS n (next ts)) = none) : mis n S ts = some (next ts).place := by
  cases h with
  | last _ => exact mis_no hs
  | cons _ _ _ => exact mis_no hs
theorem cp_next {x : Str} (h : Cp ts) (hk : kindS n (next ts) = x) (hx : x ≠ "over" ∧ x ≠ "none") : ∃ k r, ts = k :: r ∧ Cp r ∧ Wf k ∧ kindS n k = x := by
  cases h with
  | @last k h0 =>
    have e : kindS n k = x := hk
    rw [kind0 h0] at e
    split at e
    · exact absurd e.symm hx.1
    · exact absurd e.symm hx.2
  | @cons k r h0 w hc => exact ⟨k, r, rfl, hc, w, hk⟩
def PL : List Str := ["name", "number", ";", "{", "}", "over"]
theorem pl_ne : ∀ k ∈ PL, k ≠ "run" ∧ k ≠ "kept" ∧ k ≠ "end" ∧ k ≠ "tool" ∧ k ≠ "arg" ∧ k ≠ "in" ∧ k ≠ "out" ∧ k ≠ "exit" := by decide
theorem fill_plain {rc : Record} {k : Str} {r : List Tok} (h : k ∈ PL) : fillR v rc k r = rc := by
  obtain ⟨_, _, _, h4, h5, h6, h7, h8⟩ := pl_ne k h
  unfold fillR
  rw [if_neg h4, if_neg h5, if_neg h6, if_neg h7, if_neg h8]
theorem bstep_plain {st : List Record × Nat} {k : Str} {r : List Tok} (h : k ∈ PL) : bstep v st k r = st := by
  obtain ⟨h1, h2, h3, _⟩ := pl_ne k h
  unfold bstep
  rw [if_neg (fun z => z.elim h1 h2), if_neg h3]
  cases e : st.1.getLast? with
  | none => rfl
  | some rc =>
    obtain ⟨l, hl⟩ := List.getLast?_eq_some_iff.mp e
    show (st.1.dropLast ++ [fillR v rc k r], st.2) = st
    rw [fill_plain h, hl, List.dropLast_concat, ← hl]
theorem bld_plain {st : List Record × Nat} {k : Tok} {r : List Tok} (h : kindS n k ∈ PL) : bld n v st (k :: r) = bld n v st r := by
  show bld n v (bstep v st (kindS n k) r) r = _
  rw [bstep_plain h]
theorem bstep_last {rs : List Record} {rc : Record} {td : Nat} {k : Str} {r : List Tok} (h : k ≠ "run" ∧ k ≠ "kept" ∧ k ≠ "end") : bstep v (rs ++ [rc], td) k r = (rs ++ [fillR v rc k r], td) := by
  unfold bstep
  rw [if_neg (fun z => z.elim h.1 h.2.1), if_neg h.2.2]
  show (match (rs ++ [rc]).getLast? with | none => (rs ++ [rc], td) | some rc' => ((rs ++ [rc]).dropLast ++ [fillR v rc' k r], td)) = _
  rw [List.getLast?_concat, List.dropLast_concat]
theorem isW {s : String} {x : Str} (h : Cp ts) (hx : x ∈ KW) (hs : ct x = str s) : isWord s ts = decide (kindS n (next ts) = x) := is_word (cp_wf h) hx hs
theorem isS {c : Nat} {x : Str} (h : Cp ts) (hx : x ∈ SG) (hs : ct x = [c]) : isSign c ts = decide (kindS n (next ts) = x) := is_sign (cp_wf h) hx hs
theorem isN (h : Cp ts) : kindIs 1 ts = decide (kindS n (next ts) = "name") := is_name (cp_wf h)
theorem isNum (h : Cp ts) : kindIs 3 ts = decide (kindS n (next ts) = "number") := is_number (cp_wf h)
theorem name_of {k : Tok} (w : Wf k) (h : kindS n k = "name") : Vabldo.isName k.text = true := by
  have := is_name (n := n) w
  rw [decide_eq_true h] at this
  exact w.w1 (beq_iff_eq.mp this)
theorem num_of {k : Tok} (w : Wf k) (h : kindS n k = "number") : NumT k.text := by
  have := is_number (n := n) w
  rw [decide_eq_true h] at this
  exact w.w3 (beq_iff_eq.mp this)
theorem wordName_ok {s : String} {x S0 S1 S2 S3 cs : Str} {c : Nat} (hx : x ∈ KW) (hs : ct x = str s) (h0 : stepOf S0 x = some S1) (h1 : rowsOf S1 = [pr "name" S2]) (h2 : rowsOf S2 = [pr cs S3]) (hc : cs ∈ SG) (hcc : ct cs = [c]) (h : Cp ts) (hk : kindS n (next ts) = x) :
    (∃ e, wordName s c ts = .error e ∧ mis n S0 ts = some e) ∨ ∃ k1 k2 k3 r, ts = k1 :: k2 :: k3 :: r ∧ wordName s c ts = .ok (k2.text, r) ∧ mis n S0 ts = mis n S3 r ∧ Cp r ∧ kindS n k1 = x ∧ kindS n k2 = "name" ∧ kindS n k3 = cs ∧ Vabldo.isName k2.text = true := by
  have hw : isWord s ts = true := by rw [isW h hx hs, decide_eq_true hk]
  obtain ⟨k1, r1, rfl, hr1, w1, e1⟩ := cp_next h hk ⟨(kw_ne x hx).1, (kw_ne x hx).2.1⟩
  have m1 : mis n S0 (k1 :: r1) = mis n S1 r1 := mis_yes e1 h0
  unfold wordName
  rw [if_neg (by rw [hw]; exact Bool.false_ne_true.symm), List.drop_succ_cons, List.drop_zero, isN (n := n) hr1]
  by_cases e2 : kindS n (next r1) = "name"
  · rw [decide_eq_true e2, if_neg Bool.false_ne_true.symm]
    obtain ⟨k2, r2, rfl, hr2, w2, e2⟩ := cp_next hr1 e2 (by decide)
    have m2 : mis n S1 (k2 :: r2) = mis n S2 r2 := mis_yes e2 (by rw [row1 h1, if_pos rfl])
    rw [show (k1 :: k2 :: r2).drop 2 = r2 from rfl, isS (n := n) hr2 hc hcc]
    by_cases e3 : kindS n (next r2) = cs
    · rw [decide_eq_true e3, if_neg Bool.false_ne_true.symm]
      obtain ⟨k3, r3, rfl, hr3, w3, e3⟩ := cp_next hr2 e3 ⟨(sg_ne cs hc).1, (sg_ne cs hc).2.1⟩
      have m3 : mis n S2 (k3 :: r3) = mis n S3 r3 := mis_yes e3 (by rw [row1 h2, if_pos rfl])
      exact Or.inr ⟨k1, k2, k3, r3, rfl, rfl, by rw [m1, m2, m3], hr3, e1, e2, e3, name_of w2 e2⟩
    · rw [decide_eq_false e3, if_pos rfl]
      exact Or.inl ⟨_, rfl, by rw [m1, m2]; exact mis_bad hr2 (by rw [row1 h2, if_neg e3])⟩
  · rw [decide_eq_false e2, if_pos rfl]
    exact Or.inl ⟨_, rfl, by rw [m1]; exact mis_bad hr1 (by rw [row1 h1, if_neg e2])⟩
theorem wordNumber_ok {s : String} {x S0 S1 S2 S3 : Str} (hx : x ∈ KW) (hs : ct x = str s) (h0 : stepOf S0 x = some S1) (h1 : rowsOf S1 = [pr "number" S2]) (h2 : rowsOf S2 = [pr ";" S3]) (h : Cp ts) (hk : kindS n (next ts) = x) :
    (∃ e, wordNumber s ts = .error e ∧ mis n S0 ts = some e) ∨ ∃ k1 k2 k3 r, ts = k1 :: k2 :: k3 :: r ∧ wordNumber s ts = .ok (valueOf k2.text, r) ∧ mis n S0 ts = mis n S3 r ∧ Cp r ∧ kindS n k1 = x ∧ kindS n k2 = "number" ∧ kindS n k3 = ";" ∧ NumT k2.text := by
  have hw : isWord s ts = true := by rw [isW h hx hs, decide_eq_true hk]
  obtain ⟨k1, r1, rfl, hr1, w1, e1⟩ := cp_next h hk ⟨(kw_ne x hx).1, (kw_ne x hx).2.1⟩
  have m1 : mis n S0 (k1 :: r1) = mis n S1 r1 := mis_yes e1 h0
  unfold wordNumber
  rw [if_neg (by rw [hw]; exact Bool.false_ne_true.symm), List.drop_succ_cons, List.drop_zero, isNum (n := n) hr1]
  by_cases e2 : kindS n (next r1) = "number"
  · rw [decide_eq_true e2, if_neg Bool.false_ne_true.symm]
    obtain ⟨k2, r2, rfl, hr2, w2, e2⟩ := cp_next hr1 e2 (by decide)
    have m2 : mis n S1 (k2 :: r2) = mis n S2 r2 := mis_yes e2 (by rw [row1 h1, if_pos rfl])
    rw [show (k1 :: k2 :: r2).drop 2 = r2 from rfl, isS (n := n) (c := 59) (x := ";") hr2 (by decide) rfl]
    by_cases e3 : kindS n (next r2) = ";"
    · rw [decide_eq_true e3, if_neg Bool.false_ne_true.symm]
      obtain ⟨k3, r3, rfl, hr3, w3, e3⟩ := cp_next hr2 e3 (by decide)
      have m3 : mis n S2 (k3 :: r3) = mis n S3 r3 := mis_yes e3 (by rw [row1 h2, if_pos rfl])
      exact Or.inr ⟨k1, k2, k3, r3, rfl, rfl, by rw [m1, m2, m3], hr3, e1, e2, e3, num_of w2 e2⟩
    · rw [decide_eq_false e3, if_pos rfl]
      exact Or.inl ⟨_, rfl, by rw [m1, m2]; exact mis_bad hr2 (by rw [row1 h2, if_neg e3])⟩
  · rw [decide_eq_false e2, if_pos rfl]
    exact Or.inl ⟨_, rfl, by rw [m1]; exact mis_bad hr1 (by rw [row1 h1, if_neg e2])⟩
theorem st_arg : stepOf "arguments" "arg" = some "arg" := row_hit (by rw [rw_arguments]; rfl)
theorem args_ok : ∀ (m : Nat) (ts : List Tok), ts.length < m → Cp ts →
    (∃ e, args m ts = .error e ∧ mis n "arguments" ts = some e) ∨ ∃ as r, args m ts = .ok (as, r) ∧ mis n "arguments" ts = mis n "arguments" r ∧ Cp r ∧ r.length ≤ ts.length ∧ kindS n (next r) ≠ "arg" ∧ (∀ a ∈ as, Vabldo.isName a = true) ∧
      ∀ v rs rc td, bld n v (rs ++ [rc], td) ts = bld n v (rs ++ [{ rc with args := rc.args ++ as }], td) r
  | 0, ts, h, _ => absurd h (by omega)
  | m + 1, ts, hl, hc => by
    unfold args
    rw [isW (n := n) (x := "arg") hc (by decide) rfl]
    by_cases hk : kindS n (next ts) = "arg"
    · rw [decide_eq_true hk, if_neg Bool.false_ne_true.symm]
      rcases wordName_ok (n := n) (s := "arg") (c := 59) (x := "arg") (by decide) rfl st_arg rw_arg rw_argN (by decide) rfl hc hk with ⟨e, he, hm⟩ | ⟨k1, k2, k3, r, rfl, he, hm, hr, e1, e2, e3, hn⟩
      · rw [he]
        exact Or.inl ⟨e, rfl, hm⟩
      · rw [he]
        have hl' : r.length < m := by
          simp only [List.length_cons] at hl
          omega
        rcases args_ok m r hl' hr with ⟨e, he2, hm2⟩ | ⟨as, r', he2, hm2, hr2, hl2, hn2, ha2, hb2⟩
        · refine Or.inl ⟨e, ?_, by rw [hm, hm2]⟩
          show (args m r).map _ = _
          rw [he2]
          rfl
        · refine Or.inr ⟨k2.text :: as, r', ?_, by rw [hm, hm2], hr2, ?_, hn2, ?_, fun v rs rc td => ?_⟩
          · show (args m r).map _ = _
            rw [he2]
            rfl
          · simp only [List.length_cons]
            omega
          · intro a ha
            rcases List.mem_cons.mp ha with rfl | ha
            · exact hn
            · exact ha2 a ha
          · show bld n v (bstep v (rs ++ [rc], td) (kindS n k1) (k2 :: k3 :: r)) (k2 :: k3 :: r) = _
            rw [e1, bstep_last (by decide), bld_plain (by rw [e2]; decide), bld_plain (by rw [e3]; decide)]
            have ef : fillR v rc "arg" (k2 :: k3 :: r) = { rc with args := rc.args ++ [k2.text] } := rfl
            rw [ef, hb2, List.append_assoc]
            rfl
    · rw [decide_eq_false hk, if_pos rfl]
      refine Or.inr ⟨[], ts, rfl, rfl, hc, Nat.le_refl _, hk, by simp, fun v rs rc td => ?_⟩
      rw [List.append_nil]
theorem useds_ok {s : String} {x Sb S1 S2 S3 : Str} (put : Record → List Used → Record) (hx : x ∈ KW) (hs : ct x = str s) (h0 : stepOf Sb x = some S1) (h1 : rowsOf S1 = [pr "name" S2]) (h2 : rowsOf S2 = [pr "number" S3]) (h3 : rowsOf S3 = [pr ";" Sb]) (hne : x ≠ "run" ∧ x ≠ "kept" ∧ x ≠ "end")
    (hp0 : ∀ rc, put rc [] = rc) (hp : ∀ rc a b, put (put rc a) b = put rc (a ++ b)) (hf : ∀ v rc k2 k3 r, fillR v rc x (k2 :: k3 :: r) = put rc [mkU v (k2.text, k3.text)]) : ∀ (m : Nat) (ts : List Tok), ts.length < m → Cp ts →
    (∃ e, useds s m ts = .error e ∧ mis n Sb ts = some e) ∨ ∃ us r, ∃ raw : List (Text × Text), useds s m ts = .ok (us, r) ∧ us = raw.map (mkU valueOf) ∧ (∀ p ∈ raw, Vabldo.isName p.1 = true ∧ NumT p.2) ∧ mis n Sb ts = mis n Sb r ∧ Cp r ∧ r.length ≤ ts.length ∧ kindS n (next r) ≠ x ∧
      ∀ v rs rc td, bld n v (rs ++ [rc], td) ts = bld n v (rs ++ [put rc (raw.map (mkU v))], td) r
  | 0, ts, h, _ => absurd h (by omega)
  | m + 1, ts, hl, hc => by
    unfold useds
    rw [isW (n := n) hc hx hs]
    by_cases hk : kindS n (next ts) = x
    · rw [decide_eq_true hk, if_neg Bool.false_ne_true.symm]
      obtain ⟨k1, r1, rfl, hr1, w1, e1⟩ := cp_next hc hk ⟨(kw_ne x hx).1, (kw_ne x hx).2.1⟩
      have m1 : mis n Sb (k1 :: r1) = mis n S1 r1 := mis_yes e1 h0
      rw [List.drop_succ_cons, List.drop_zero, isN (n := n) hr1]
      by_cases d2 : kindS n (next r1) = "name"
      · rw [decide_eq_true d2, if_neg Bool.false_ne_true.symm]
        obtain ⟨k2, r2, rfl, hr2, w2, e2⟩ := cp_next hr1 d2 (by decide)
        have m2 : mis n S1 (k2 :: r2) = mis n S2 r2 := mis_yes e2 (by rw [row1 h1, if_pos rfl])
        rw [show (k1 :: k2 :: r2).drop 2 = r2 from rfl, isNum (n := n) hr2]
        by_cases d3 : kindS n (next r2) = "number"
        · rw [decide_eq_true d3, if_neg Bool.false_ne_true.symm]
          obtain ⟨k3, r3, rfl, hr3, w3, e3⟩ := cp_next hr2 d3 (by decide)
          have m3 : mis n S2 (k3 :: r3) = mis n S3 r3 := mis_yes e3 (by rw [row1 h2, if_pos rfl])
          rw [show (k1 :: k2 :: k3 :: r3).drop 3 = r3 from rfl, isS (n := n) (c := 59) (x := ";") hr3 (by decide) rfl]
          by_cases d4 : kindS n (next r3) = ";"
          · rw [decide_eq_true d4, if_neg Bool.false_ne_true.symm]
            obtain ⟨k4, r4, rfl, hr4, w4, e4⟩ := cp_next hr3 d4 (by decide)
            have m4 : mis n S3 (k4 :: r4) = mis n Sb r4 := mis_yes e4 (by rw [row1 h3, if_pos rfl])
            have hl' : r4.length < m := by
              simp only [List.length_cons] at hl
              omega
            show (∃ e, (useds s m r4).map _ = _ ∧ _) ∨ ∃ us r, ∃ raw : List (Text × Text), (useds s m r4).map _ = _ ∧ _
            rcases useds_ok put hx hs h0 h1 h2 h3 hne hp0 hp hf m r4 hl' hr4 with ⟨e, he2, hm2⟩ | ⟨us, r', raw, he2, hu2, ha2, hm2, hr2, hl2, hn2, hb2⟩
            · refine Or.inl ⟨e, ?_, by rw [m1, m2, m3, m4, hm2]⟩
              rw [he2]
              rfl
            · refine Or.inr ⟨mkU valueOf (k2.text, k3.text) :: us, r', (k2.text, k3.text) :: raw, ?_, ?_, ?_, by rw [m1, m2, m3, m4, hm2], hr2, ?_, hn2, fun v rs rc td => ?_⟩
              · rw [he2]
                rfl
              · rw [hu2]
                rfl
              · intro p hp
                rcases List.mem_cons.mp hp with rfl | hp
                · exact ⟨name_of w2 e2, num_of w3 e3⟩
                · exact ha2 p hp
              · simp only [List.length_cons]
                omega
              · show bld n v (bstep v (rs ++ [rc], td) (kindS n k1) (k2 :: k3 :: k4 :: r4)) (k2 :: k3 :: k4 :: r4) = _
                rw [e1, bstep_last hne, bld_plain (by rw [e2]; decide), bld_plain (by rw [e3]; decide), bld_plain (by rw [e4]; decide), hf, hb2, hp]
                rfl
          · rw [decide_eq_false d4, if_pos rfl]
            exact Or.inl ⟨_, rfl, by rw [m1, m2, m3]; exact mis_bad hr3 (by rw [row1 h3, if_neg d4])⟩
        · rw [decide_eq_false d3, if_pos rfl]
          exact Or.inl ⟨_, rfl, by rw [m1, m2]; exact mis_bad hr2 (by rw [row1 h2, if_neg d3])⟩
      · rw [decide_eq_false d2, if_pos rfl]
        exact Or.inl ⟨_, rfl, by rw [m1]; exact mis_bad hr1 (by rw [row1 h1, if_neg d2])⟩
    · rw [decide_eq_false hk, if_pos rfl]
      refine Or.inr ⟨[], ts, [], rfl, rfl, by simp, rfl, hc, Nat.le_refl _, hk, fun v rs rc td => ?_⟩
      show _ = bld n v (rs ++ [put rc []], td) ts
      rw [hp0]
structure RR where
  run : Bool
  name : Text
  tool : Text
  args : List Text
  ins : List (Text × Text)
  outs : List (Text × Text)
  exit : Text
def recOf (v : Text → Nat) (q : RR) : Record := { run := q.run, name := q.name, tool := q.tool, args := q.args, ins := q.ins.map (mkU v), outs := q.outs.map (mkU v), exit := v q.exit }
structure RR.Ok (q : RR) : Prop where
  nm : Vabldo.isName q.name = true
  tl : Vabldo.isName q.tool = true
  ar : ∀ a ∈ q.args, Vabldo.isName a = true
  i : ∀ p ∈ q.ins, Vabldo.isName p.1 = true ∧ NumT p.2
  o : ∀ p ∈ q.outs, Vabldo.isName p.1 = true ∧ NumT p.2
  x : NumT q.exit
def putI (rc : Record) (us : List Used) : Record := { rc with ins := rc.ins ++ us }
def putO (rc : Record) (us : List Used) : Record := { rc with outs := rc.outs ++ us }
theorem st_in : stepOf "inputs" "in" = some "in" := row_hit (by rw [rw_inputs]; rfl)
theorem st_out : stepOf "outputs" "out" = some "out" := row_hit (by rw [rw_outputs]; rfl)
theorem st_exit : stepOf "outputs" "exit" = some "exit" := row_hit (by rw [rw_outputs]; rfl)
theorem mis_same {S S' : Str} (h : Cp ts) (hs : stepOf S (kindS n (next ts)) = stepOf S' (kindS n (next ts))) : mis n S ts = mis n S' ts := by
  cases h with
  | @last k h0 =>
    show (match stepOf S (kindS n k) with | none => some k.place | some st' => mis n st' []) = (match stepOf S' (kindS n k) with | none => some k.place | some st' => mis n st' [])
    rw [show stepOf S (kindS n k) = stepOf S' (kindS n k) from hs]
  | @cons k r h0 w hc =>
    show (match stepOf S (kindS n k) with | none => some k.place | some st' => mis n st' r) = (match stepOf S' (kindS n k) with | none => some k.place | some st' => mis n st' r)
    rw [show stepOf S (kindS n k) = stepOf S' (kindS n k) from hs]
theorem arg_inp {x : Str} (h : x ≠ "arg") : stepOf "arguments" x = stepOf "inputs" x := by
  rw [step_rows, step_rows, rw_arguments, rw_inputs, List.find?_cons]
  rw [show decide ((pr "arg" "arg").1 = x) = false from decide_eq_false (Ne.symm h)]
theorem inp_out {x : Str} (h : x ≠ "in") : stepOf "inputs" x = stepOf "outputs" x := by
  rw [step_rows, step_rows, rw_inputs, rw_outputs, List.find?_cons]
  rw [show decide ((pr "in" "in").1 = x) = false from decide_eq_false (Ne.symm h)]
theorem out_none {x : Str} (h : x ≠ "out") (h2 : x ≠ "exit") : stepOf "outputs" x = none := by
  refine row_miss ?_
  rw [rw_outputs]
  intro p hp
  simp only [List.mem_cons, List.not_mem_nil, or_false] at hp
  rcases hp with rfl | rfl
  · exact Ne.symm h
  · exact Ne.symm h2
theorem rest_ok {run : Bool} {name tool : Text} (hnm : Vabldo.isName name = true) (htl : Vabldo.isName tool = true) (hc : Cp ts) :
    (∃ e, rest run name tool ts = .error e ∧ mis n "arguments" ts = some e) ∨ ∃ q r, rest run name tool ts = .ok (recOf valueOf q, r) ∧ q.Ok ∧ mis n "arguments" ts = mis n "log" r ∧ Cp r ∧ r.length < ts.length ∧
      ∀ v rs td, bld n v (rs ++ [{ run := run, name := name, tool := tool, args := [], ins := [], outs := [], exit := 0 }], td) ts = bld n v (rs ++ [recOf v q], td) r := by
  unfold rest
  rcases args_ok (n := n) (ts.length + 1) ts (by omega) hc with ⟨e, he, hm⟩ | ⟨as, r1, he1, hm1, hc1, hl1, hn1, ha1, hb1⟩
  · rw [he]
    exact Or.inl ⟨e, rfl, hm⟩
  rw [he1]
  have m1 : mis n "arguments" ts = mis n "inputs" r1 := by rw [hm1]; exact mis_same hc1 (arg_inp hn1)
  dsimp only
  rcases useds_ok (n := n) (s := "in") (x := "in") putI (by decide) rfl st_in rw_in rw_inN rw_inX (by decide) (fun rc => by unfold putI; rw [List.append_nil]) (fun rc a b => by unfold putI; rw [List.append_assoc]) (fun _ _ _ _ _ => rfl) (ts.length + 1) r1 (by omega) hc1 with ⟨e, he, hm⟩ | ⟨us, r2, rawI, he2, hu2, ha2, hm2, hc2, hl2, hn2, hb2⟩
  · rw [he]
    exact Or.inl ⟨e, rfl, by rw [m1, hm]⟩
  rw [he2]
  have m2 : mis n "arguments" ts = mis n "outputs" r2 := by rw [m1, hm2]; exact mis_same hc2 (inp_out hn2)
  dsimp only
  rcases useds_ok (n := n) (s := "out") (x := "out") putO (by decide) rfl st_out rw_out rw_outN rw_outX (by decide) (fun rc => by unfold putO; rw [List.append_nil]) (fun rc a b => by unfold putO; rw [List.append_assoc]) (fun _ _ _ _ _ => rfl) (ts.length + 1) r2 (by omega) hc2 with ⟨e, he, hm⟩ | ⟨vs, r3, rawO, he3, hu3, ha3, hm3, hc3, hl3, hn3, hb3⟩
  · rw [he]
    exact Or.inl ⟨e, rfl, by rw [m2, hm]⟩
  rw [he3]
  dsimp only
  by_cases hk : kindS n (next r3) = "exit"
  · rcases wordNumber_ok (n := n) (s := "exit") (x := "exit") (by decide) rfl st_exit rw_exit rw_exitX hc3 hk with ⟨e, he, hm⟩ | ⟨k1, k2, k3, r4, rfl, he4, hm4, hc4, e1, e2, e3, hnum⟩
    · rw [he]
      exact Or.inl ⟨e, rfl, by rw [m2, hm3, hm]⟩
    rw [he4]
    dsimp only
    rw [isS (n := n) (c := 125) (x := "}") hc4 (by decide) rfl]
    by_cases h5 : kindS n (next r4) = "}"
    · rw [decide_eq_true h5, if_pos rfl]
      obtain ⟨k5, r5, rfl, hc5, w5, e5⟩ := cp_next hc4 h5 (by decide)
      refine Or.inr ⟨{ run := run, name := name, tool := tool, args := as, ins := rawI, outs := rawO, exit := k2.text }, r5, ?_, ⟨hnm, htl, ha1, ha2, ha3, hnum⟩, ?_, hc5, ?_, fun v rs td => ?_⟩
      · rw [hu2, hu3]
        rfl
      · rw [m2, hm3, hm4]
        exact mis_yes e5 (by rw [row1 rw_exitS, if_pos rfl])
      · simp only [List.length_cons] at hl3
        omega
      · rw [hb1, hb2, hb3]
        show bld n v (bstep v _ (kindS n k1) (k2 :: k3 :: k5 :: r5)) (k2 :: k3 :: k5 :: r5) = _
        rw [e1, bstep_last (by decide), bld_plain (by rw [e2]; decide), bld_plain (by rw [e3]; decide), bld_plain (by rw [e5]; decide)]
        rfl
    · rw [decide_eq_false h5, if_neg Bool.false_ne_true]
      exact Or.inl ⟨_, rfl, by rw [m2, hm3, hm4]; exact mis_bad hc4 (by rw [row1 rw_exitS, if_neg h5])⟩
  · unfold wordNumber
    rw [isW (n := n) (x := "exit") hc3 (by decide) rfl, decide_eq_false hk, if_pos rfl]
    exact Or.inl ⟨_, rfl, by rw [m2, hm3]; exact mis_bad hc3 (out_none hn3 hk)⟩
theorem log_none {x : Str} (h1 : x ≠ "run") (h2 : x ≠ "kept") (h3 : x ≠ "end") : stepOf "log" x = none := by
  refine row_miss ?_
  rw [rw_log]
  intro p hp
  simp only [List.mem_cons, List.not_mem_nil, or_false] at hp
  rcases hp with rfl | rfl | rfl
  · exact Ne.symm h1
  · exact Ne.symm h2
  · exact Ne.symm h3
theorem st_run : stepOf "log" "run" = some "record" := row_hit (by rw [rw_log]; rfl)
theorem st_kept : stepOf "log" "kept" = some "record" := row_hit (by rw [rw_log]; rfl)
theorem st_end : stepOf "log" "end" = some "end" := row_hit (by rw [rw_log]; rfl)
theorem record_ok (hc : Cp ts) (hne : kindS n (next ts) ≠ "end") :
    (∃ e, record ts = .error e ∧ mis n "log" ts = some e) ∨ ∃ q r, record ts = .ok (recOf valueOf q, r) ∧ q.Ok ∧ mis n "log" ts = mis n "log" r ∧ Cp r ∧ r.length < ts.length ∧
      ∀ v rs td, bld n v (rs, td) ts = bld n v (rs ++ [recOf v q], td) r := by
  unfold record
  rw [isW (n := n) (x := "run") hc (by decide) rfl, isW (n := n) (x := "kept") hc (by decide) rfl]
  by_cases hr : kindS n (next ts) = "run" ∨ kindS n (next ts) = "kept"
  · rw [if_neg (by rw [Bool.or_eq_false_iff, decide_eq_false_iff_not, decide_eq_false_iff_not]; exact fun z => hr.elim z.1 z.2)]
    obtain ⟨x, s, hxk, hxs, hxm, hst, es, eb, hx2⟩ : ∃ (x : Str) (s : String), x ∈ KW ∧ ct x = str s ∧ kindS n (next ts) = x ∧ stepOf "log" x = some "record" ∧ (if decide (kindS n (next ts) = "run") = true then "run" else "kept") = s ∧ decide (kindS n (next ts) = "run") = decide (x = "run") ∧ (x = "run" ∨ x = "kept") := by
      by_cases h1 : kindS n (next ts) = "run"
      · exact ⟨"run", "run", by decide, rfl, h1, st_run, by rw [decide_eq_true h1]; rfl, by rw [h1], Or.inl rfl⟩
      · have h2 : kindS n (next ts) = "kept" := hr.resolve_left h1
        exact ⟨"kept", "kept", by decide, rfl, h2, st_kept, by rw [decide_eq_false h1]; rfl, by rw [h2], Or.inr rfl⟩
    rw [es, eb]
    rcases wordName_ok (n := n) (c := 123) hxk hxs hst rw_record rw_recordN (by decide) rfl hc hxm with ⟨e, he, hm⟩ | ⟨k1, k2, k3, r1, rfl, he1, hm1, hc1, e1, e2, e3, hn1⟩
    · rw [he]
      exact Or.inl ⟨e, rfl, hm⟩
    rw [he1]
    dsimp only
    by_cases hk : kindS n (next r1) = "tool"
    · rcases wordName_ok (n := n) (s := "tool") (c := 59) (x := "tool") (by decide) rfl (S0 := "record {") (by rw [row1 rw_recordO, if_pos rfl]) rw_tool rw_toolN (by decide) rfl hc1 hk with ⟨e, he, hm⟩ | ⟨j1, j2, j3, r2, rfl, he2, hm2, hc2, f1, f2, f3, hn2⟩
      · rw [he]
        exact Or.inl ⟨e, rfl, by rw [hm1, hm]⟩
      rw [he2]
      dsimp only
      rcases rest_ok (n := n) (run := decide (x = "run")) hn1 hn2 hc2 with ⟨e, he, hm⟩ | ⟨q, r, he3, hq, hm3, hc3, hl3, hb3⟩
      · exact Or.inl ⟨e, he, by rw [hm1, hm2, hm]⟩
      · refine Or.inr ⟨q, r, he3, hq, by rw [hm1, hm2, hm3], hc3, ?_, fun v rs td => ?_⟩
        · simp only [List.length_cons]
          omega
        · have eq1 : bstep v (rs, td) x (k2 :: k3 :: j1 :: j2 :: j3 :: r2) = (rs ++ [{ run := decide (x = "run"), name := k2.text, tool := [], args := [], ins := [], outs := [], exit := 0 }], td) := by
            unfold bstep
            rw [if_pos hx2]
            rfl
          show bld n v (bstep v (rs, td) (kindS n k1) (k2 :: k3 :: j1 :: j2 :: j3 :: r2)) (k2 :: k3 :: j1 :: j2 :: j3 :: r2) = _
          rw [e1, eq1, bld_plain (by rw [e2]; decide), bld_plain (by rw [e3]; decide)]
          show bld n v (bstep v _ (kindS n j1) (j2 :: j3 :: r2)) (j2 :: j3 :: r2) = _
          rw [f1, bstep_last (by decide), bld_plain (by rw [f2]; decide), bld_plain (by rw [f3]; decide)]
          exact hb3 v rs td
    · unfold wordName
      rw [isW (n := n) (x := "tool") hc1 (by decide) rfl, decide_eq_false hk, if_pos rfl]
      exact Or.inl ⟨_, rfl, by rw [hm1]; exact mis_bad hc1 (by rw [row1 rw_recordO, if_neg hk])⟩
  · rw [if_pos (by rw [Bool.or_eq_false_iff, decide_eq_false_iff_not, decide_eq_false_iff_not]; exact ⟨fun z => hr (Or.inl z), fun z => hr (Or.inr z)⟩)]
    exact Or.inl ⟨_, rfl, mis_bad hc (log_none (fun z => hr (Or.inl z)) (fun z => hr (Or.inr z)) hne)⟩
theorem log_ok (t : Text) : ∀ (m : Nat) (ts : List Tok), ts.length ≤ m → Cp ts →
    (∃ e, log t m ts = .error e ∧ mis t.length "log" ts = some e) ∨ ∃ (qs : List RR) (tt : Text), log t m ts = .ok { records := qs.map (recOf valueOf), told := valueOf tt } ∧ (∀ q ∈ qs, q.Ok) ∧ NumT tt ∧ mis t.length "log" ts = none ∧
      ∀ v rs td, bld t.length v (rs, td) ts = (rs ++ qs.map (recOf v), v tt)
  | 0, ts, h, hc => absurd (cp_ne hc) (by simp; exact List.length_eq_zero_iff.mp (by omega))
  | m + 1, ts, hl, hc => by
    unfold log
    rw [isW (n := t.length) (x := "end") hc (by decide) rfl]
    by_cases hk : kindS t.length (next ts) = "end"
    · rw [decide_eq_true hk, if_pos rfl]
      rcases wordNumber_ok (n := t.length) (s := "end") (x := "end") (by decide) rfl st_end rw_end rw_endX hc hk with ⟨e, he, hm⟩ | ⟨k1, k2, k3, r, rfl, he, hm, hr, e1, e2, e3, hnum⟩
      · rw [he]
        exact Or.inl ⟨e, rfl, hm⟩
      rw [he]
      dsimp only
      have hov : ((next r).kind = 0 ∧ (next r).place = t.length) ↔ kindS t.length (next r) = "over" := by
        constructor
        · rintro ⟨a, b⟩
          rw [kind0 a, if_pos b]
        · intro z
          rcases kinds (n := t.length) (cp_wf hr) with ⟨h, e⟩ | ⟨h, e⟩ | ⟨h, e, hmm⟩ | ⟨h, e⟩ | ⟨h, e, hmm⟩ | ⟨h, e⟩
          · refine ⟨h, ?_⟩
            rw [kind0 h] at z
            split at z
            · assumption
            · exact absurd z (by decide)
          · rw [e] at z; exact absurd z (by decide)
          · exact absurd z (kw_ne _ hmm).1
          · rw [e] at z; exact absurd z (by decide)
          · exact absurd z (sg_ne _ hmm).1
          · rw [e] at z; exact absurd z (by decide)
      by_cases ho : kindS t.length (next r) = "over"
      · rw [if_pos (hov.mpr ho)]
        cases hr with
        | @last k h0 =>
          have ho' : kindS t.length k = "over" := ho
          refine Or.inr ⟨[], k2.text, rfl, by simp, hnum, ?_, fun v rs td => ?_⟩
          · rw [hm]
            exact mis_yes ho' (by rw [row1 rw_endS, if_pos rfl])
          · show bld t.length v (bstep v (rs, td) (kindS t.length k1) [k2, k3, k]) [k2, k3, k] = _
            rw [e1, bld_plain (by rw [e2]; decide), bld_plain (by rw [e3]; decide), bld_plain (by rw [ho']; decide)]
            show (rs, v k2.text) = _
            rw [List.map_nil, List.append_nil]
        | @cons k r' h0 w hc' => exact absurd (hov.mpr ho).1 h0
      · rw [if_neg (fun z => ho (hov.mp z))]
        exact Or.inl ⟨_, rfl, by rw [hm]; exact mis_bad hr (by rw [row1 rw_endS, if_neg ho])⟩
    · rw [decide_eq_false hk, if_neg Bool.false_ne_true]
      rcases record_ok (n := t.length) hc hk with ⟨e, he, hm⟩ | ⟨q, r, he, hq, hm, hr, hlr, hb⟩
      · rw [he]
        exact Or.inl ⟨e, rfl, hm⟩
      rw [he]
      show (∃ e, (log t m r).map _ = _ ∧ _) ∨ ∃ qs tt, (log t m r).map _ = _ ∧ _
      rcases log_ok t m r (by omega) hr with ⟨e, he2, hm2⟩ | ⟨qs, tt, he2, hq2, ht2, hm2, hb2⟩
      · refine Or.inl ⟨e, ?_, by rw [hm, hm2]⟩
        rw [he2]
        rfl
      · refine Or.inr ⟨q :: qs, tt, ?_, ?_, ht2, by rw [hm, hm2], fun v rs td => ?_⟩
        · rw [he2]
          rfl
        · intro a ha
          rcases List.mem_cons.mp ha with rfl | ha
          · exact hq
          · exact hq2 a ha
        · rw [hb, hb2, List.append_assoc]
          rfl
end
end Bl

-- part W10
set_option Elab.async false
set_option linter.all false
set_option maxRecDepth 100000
set_option maxHeartbeats 4000000
namespace Bl
open PySem PySem.Spec PyProof.Rows L2 Evl
open Vabldo (valueOf)
/-! ### the walks of reading.py: tokens read -/
def capV (t : List Nat) : Nat := if 10 < t.length then 1000000001 else valueOf t
abbrev sp_number_of (K : PySem.W.Frag) : Sp := spR fun vs H Post => ∃ (v : V) (n : Nat) (k : Vabldo.Tok), vs = [v] ∧ TokAt K n k v H ∧ NumT k.text ∧ Post = fun x _ => x = .int (capV k.text : Int)
abbrev sp_misplaced (K : PySem.W.Frag) : Sp := spR fun vs H Post => ∃ (a : Addr) (xs : List V) (n : Nat) (ks : List Vabldo.Tok), vs = [.ref a] ∧ H a = some (.lst xs) ∧ All2 (fun k v => TokAt K n k v H) ks xs ∧ Post = fun x _ => x = .int (match mis n "log" ks with | none => -1 | some p => (p : Int))
section
variable {w : World} {K : PySem.W.Frag} {mg : Str → Option Value} {base : Heap} {σ : L2.St} {H : Hp} {ta tb tc : TE} {v : V}
/-! the fields of a token -/
theorem ev_kind {n : Nat} {k : Vabldo.Tok} (T : Txt w K mg) (h : Ev ta σ H v) (hk : TokAt K n k v H) : Ev (tFld K ta "kind") σ H (.str (kindS n k)) := by
  obtain ⟨x, dx, s, rfl, hx, hs⟩ := hk
  exact ev_fld h hx T.c_Token T.n_Token_kind rfl
theorem ev_place {n : Nat} {k : Vabldo.Tok} (T : Txt w K mg) (h : Ev ta σ H v) (hk : TokAt K n k v H) : Ev (tFld K ta "place") σ H (.int (k.place : Int)) := by
  obtain ⟨x, dx, s, rfl, hx, hs⟩ := hk
  exact ev_fld h hx T.c_Token T.n_Token_place rfl
theorem ep_spelled {n : Nat} {k : Vabldo.Tok} (T : Txt w K mg) (h : Ev ta σ H v) (hk : TokAt K n k v H) : EvP (tFld K ta "spelled") σ H (IsTx k.text) := by
  obtain ⟨x, dx, s, rfl, hx, hs⟩ := hk
  exact ev_tx (ev_fld h hx T.c_Token T.n_Token_spelled rfl) hs
theorem tok_spelled {n : Nat} {k : Vabldo.Tok} (T : Txt w K mg) (hk : TokAt K n k v H) : ∃ s, Tx H s k.text ∧ ∀ {ta : TE} {σ : L2.St}, Ev ta σ H v → Ev (tFld K ta "spelled") σ H (.ref s) := by
  obtain ⟨x, dx, s, rfl, hx, hs⟩ := hk
  exact ⟨s, hs, fun h => ev_fld h hx T.c_Token T.n_Token_spelled rfl⟩
theorem ev_strI {i : Int} (h : Ev ta σ H (.int i)) (hz : i.natAbs.log2 < 1920) : Ev (tCB (fun xs H Q => ∃ i, xs = [V.int i] ∧ i.natAbs.log2 < 1920 ∧ Q (.str (toString i)) H) (tCons ta tNil)) σ H (.str (toString i)) := fun H1 e Q q => h H1 e _ fun H2 e2 => ⟨i, rfl, hz, q H2 e2⟩
theorem ev_lenS {z : Str} (h : Ev ta σ H (.str z)) (hz : z.length ≤ 100000) : Ev (tCB (fun xs H Q => ∃ z, xs = [V.str z] ∧ z.length ≤ sizeLine ∧ Q (.int z.length) H) (tCons ta tNil)) σ H (.int (z.length : Int)) := fun H1 e Q q => h H1 e _ fun H2 e2 => ⟨z, rfl, sz_of hz, q H2 e2⟩
theorem value_snoc (t : List Nat) (c : Nat) : valueOf (t ++ [c]) = 10 * valueOf t + (c - 48) := by unfold Vabldo.valueOf; rw [List.foldl_append]; rfl
theorem value_bounds : ∀ (t : List Nat) (a : Nat), (∀ c ∈ t, Vabldo.digit c = true) → a * 10 ^ t.length ≤ t.foldl (fun n c => 10 * n + (c - 48)) a ∧ t.foldl (fun n c => 10 * n + (c - 48)) a < (a + 1) * 10 ^ t.length
  | [], a, _ => by simp
  | c :: t, a, h => by
    have h2 := h c (by simp)
    unfold Vabldo.digit at h2
    rw [Bool.and_eq_true, decide_eq_true_eq, decide_eq_true_eq] at h2
    obtain ⟨h3, h4⟩ := value_bounds t (10 * a + (c - 48)) fun d hd => h d (by simp [hd])
    rw [List.foldl_cons, List.length_cons, Nat.pow_succ]
    have e1 : a * (10 ^ t.length * 10) = (10 * a) * 10 ^ t.length := by rw [Nat.mul_comm (10 ^ t.length) 10, ← Nat.mul_assoc, Nat.mul_comm a 10]
    have e2 : (a + 1) * (10 ^ t.length * 10) = (10 * a + 10) * 10 ^ t.length := by rw [Nat.mul_comm (10 ^ t.length) 10, ← Nat.mul_assoc, Nat.mul_comm (a + 1) 10]; rfl
    rw [e1, e2]
    exact ⟨Nat.le_trans (Nat.mul_le_mul_right _ (by omega)) h3, Nat.lt_of_lt_of_le h4 (Nat.mul_le_mul_right _ (by omega))⟩
/-- a number that is cut is above the limit anyway -/
theorem cap_of {t : List Nat} (h : NumT t) : (capV t ≤ 1000000000 ↔ valueOf t ≤ 1000000000) ∧ (valueOf t ≤ 1000000000 → capV t = valueOf t) := by
  unfold capV
  by_cases hl : 10 < t.length
  · rw [if_pos hl]
    obtain ⟨h1, h2, h3⟩ := h
    cases t with
    | nil => exact absurd rfl h1
    | cons c r =>
      have hc := h2 c (by simp)
      unfold Vabldo.digit at hc
      rw [Bool.and_eq_true, decide_eq_true_eq, decide_eq_true_eq] at hc
      have h48 : c ≠ 48 := fun z => by
        have := h3 z
        omega
      have hb := (value_bounds r (c - 48) fun d hd => h2 d (by simp [hd])).1
      have hv : valueOf (c :: r) = r.foldl (fun n c => 10 * n + (c - 48)) (c - 48) := by
        unfold Vabldo.valueOf
        rw [List.foldl_cons, Nat.mul_zero, Nat.zero_add]
      have hp : 10 ^ 10 ≤ 10 ^ r.length := Nat.pow_le_pow_right (by decide) (by rw [List.length_cons] at hl; omega)
      have hm : 1 * 10 ^ r.length ≤ (c - 48) * 10 ^ r.length := Nat.mul_le_mul_right _ (by omega)
      have e10 : 10 ^ 10 = 10000000000 := by decide
      have : 1000000000 < valueOf (c :: r) := by
        rw [hv]
        omega
      exact ⟨⟨fun z => by omega, fun z => by omega⟩, fun z => by omega⟩
  · rw [if_neg hl]
    exact ⟨Iff.rfl, fun _ => rfl⟩
theorem mono_int : Mono (fun (n : Nat) (x : V) (_ : Hp) => x = V.int (n : Int)) := fun _ _ _ _ _ h => h
theorem sc_number_of : FnScope ["token", "value", "byte"] ["token"] (defScope s_number_of) := ⟨rfl, rfl, rfl, by decide +kernel, rfl, by decide +kernel, by decide +kernel⟩
theorem ok_number_of (T : Txt w K mg)  : Has P0 w K mg base "number_of" 1 ["token"] (sp_number_of K) := by
  refine has_of T.f_number_of T.g_number_of sc_number_of (fun _ _ _ _ _ _ us hl => match us, hl with | [_], _ => rfl) (fun vs H Q E h => by obtain ⟨_, ⟨v, n, kk, rfl, hk, hn, rfl⟩, _⟩ := h; rfl) (fun cdv A outer s H vs Q E hr h => ⟨_, PSs.nox (pss_cons (ps_if (pt_cmpR op_gt (pe_callB call_len_seq (by rfl) T.b_len PySem.boot_len (pa_cons (pe_fld (pv 0) rfl) pa_nil)) (pe_callB call_len_str (by rfl) T.b_len PySem.boot_len (pa_cons (pe_callTy call_str_int (by rfl) T.b_str (by decide +kernel) (pa_cons (pe_gi (by rfl) T.i_LARGEST_NUMBER) pa_nil)) pa_nil)) (nomark _)) (pss_one (ps_ret (pe_op op_add (pe_gi (by rfl) T.i_LARGEST_NUMBER) pe_int))) pss_nil) (pss_cons (ps_set (i := 1) sc_number_of.nd rfl (Or.inl rfl) pe_int) (pss_cons (ps_for PassesOwn.never rfl (pi_tup (pe_fld (pv 0) rfl)) (pg_name (i := 2) sc_number_of.nd rfl (Or.inl rfl)) (pss_one (ps_set (i := 1) sc_number_of.nd rfl (Or.inl rfl) (pe_op op_sub (pe_op op_add (pe_op op_mul (pv 1) pe_int) (pv 2)) (pe_callB call_ord (by rfl) T.b_ord (by decide +kernel) (pa_cons pe_str pa_nil)))))) (pss_one (ps_ret (pv 1)))))), ?_⟩)
  obtain ⟨_, ⟨v, n, kk, rfl, hk, hn, rfl⟩, k⟩ := h
  obtain ⟨s, hs, hsp⟩ := tok_spelled T hk
  refine q_when (b := decide (10 < kk.text.length)) (et_eq (et_test (ev_gt (ev_lenTx (hsp (ev_var rfl)) hs) (ev_lenS (ev_strI ev_c (by decide)) (by decide +kernel)))) ?_) (fun hb H1 e1 => ?_) (fun hb H1 e1 => ?_)
  · have e : ((toString (1000000000 : Int) : Str)).length = 10 := by decide +kernel
    rw [e]
    exact dec_lt 10 _
  · refine s_ret (ev_op ev_c ev_c rv_I0) fun H2 e2 => k _ H2 (e1.trans e2) ?_
    unfold capV
    rw [if_pos (of_decide_eq_true hb)]
    rfl
  · have hle := of_decide_eq_false hb
    refine q_asg ev_c fun H2 e2 => ?_
    have hk2 := mono_tok _ _ _ _ (e1.trans e2) hk
    obtain ⟨s2, hs2, hsp2⟩ := tok_spelled T hk2
    refine q_forE (l := kk.text) (it_tx (hsp2 (ev_var rfl)) hs2 (by simp)) (fun pre σ' _ => ∃ y, σ' = [some v, some (.int (valueOf pre : Int)), y]) (fun H3 e3 => ⟨_, rfl⟩) (fun H3 e3 pre b post x σ' H' hl e4 hp hb => ?_) (fun σ' H' e3 hp => ?_)
    · obtain ⟨y, rfl⟩ := hp
      subst hb
      refine s_asg (ev_op (ev_op (ev_op (ev_var rfl) ev_c (rv_I (Or.inr (by decide)))) (ev_var rfl) rv_I0) (ev_ordc (n := 48)) rv_I0) fun H4 e5 => ⟨e4.trans e5, some (V.int (b : Int)), ?_⟩
      have hd := hn.2.1 b (by rw [hl]; simp)
      unfold Vabldo.digit at hd
      rw [Bool.and_eq_true, decide_eq_true_eq, decide_eq_true_eq] at hd
      rw [value_snoc]
      show [some v, some (V.int ((valueOf pre : Int) * 10 + (b : Int) - ((48 : Nat) : Int))), _] = _
      have e : (valueOf pre : Int) * 10 + (b : Int) - ((48 : Nat) : Int) = ((10 * valueOf pre + (b - 48) : Nat) : Int) := by omega
      rw [e]
    · obtain ⟨y, rfl⟩ := hp
      refine s_ret (ev_var rfl) fun H4 e4 => k _ H4 (((e1.trans e2).trans e3).trans e4) ?_
      unfold capV
      rw [if_neg hle]
theorem ev_call_number {n : Nat} {k : Vabldo.Tok} {E : XK} (h : Ev ta σ H v) (hk : TokAt K n k v H) (hn : NumT k.text) : Ev (tCall (sp_number_of K) [] E (tCons ta tNil)) σ H (.int (capV k.text : Int)) :=
  ev_callR (ea_cons h ea_nil) fun H1 e1 => ⟨v, n, k, rfl, mono_tok _ _ _ _ e1 hk, hn, rfl⟩
/-! the steps -/
theorem et_stepsNo {p : Addr} {a b : Str} (h : Ev ta σ H (.ref p)) (hp : H p = some (.tup [.str a, .str b])) : EvT (tTest (tOp (rStepsNo K) ta (tC (.ref (He.ga K "STEPS"))))) σ H (!(stepOf a b).isSome) :=
  et_test (ev_op h ev_c (rv_val fun H1 e Q q => ⟨p, a, b, rfl, e _ _ hp, rfl, q⟩))
theorem ev_stepsGet {p : Addr} {a b c : Str} (h : Ev ta σ H (.ref p)) (hp : H p = some (.tup [.str a, .str b])) (hs : stepOf a b = some c) : Ev (tOp (rStepsGet K) (tC (.ref (He.ga K "STEPS"))) ta) σ H (.str c) :=
  ev_op ev_c h (rv_val fun H1 e Q q => ⟨p, a, b, c, rfl, rfl, e _ _ hp, hs, q⟩)
theorem sc_misplaced : FnScope ["tokens", "state", "token", "step"] ["tokens"] (defScope s_misplaced) := ⟨rfl, rfl, rfl, by decide +kernel, rfl, by decide +kernel, by decide +kernel⟩
theorem ok_misplaced (T : Txt w K mg)  : Has P0 w K mg base "misplaced" 1 ["tokens"] (sp_misplaced K) := by
  refine has_of T.f_misplaced T.g_misplaced sc_misplaced (fun _ _ _ _ _ _ us hl => match us, hl with | [_], _ => rfl) (fun vs H Q E h => by obtain ⟨_, ⟨a, xs, n, ks, rfl, hx, hA, rfl⟩, _⟩ := h; rfl) (fun cdv A outer s H vs Q E hr h => ⟨_, PSs.nox (pss_cons (ps_set (i := 1) sc_misplaced.nd rfl (Or.inl rfl) pe_str) (pss_cons (ps_for PassesOwn.never rfl (pi_list (pv 0)) (pg_name (i := 2) sc_misplaced.nd rfl (Or.inl rfl)) (pss_cons (ps_set (i := 3) sc_misplaced.nd rfl (Or.inl rfl) (pe_tup (pa_cons (pv 1) (pa_cons (pe_fld (pv 2) rfl) pa_nil)))) (pss_cons (ps_if (pt_cmpR (op_stepsNotIn rfl T (by exact hu_of hr)) (pv 3) (pe_gr (by rfl) T.g_STEPS) (by rfl)) (pss_one (ps_ret (pe_fld (pv 2) rfl))) pss_nil) (pss_one (ps_set (i := 1) sc_misplaced.nd rfl (Or.inl rfl) (pe_stepsGet rfl T (by exact hu_of hr) (pe_gr (by rfl) T.g_STEPS) (pv 3) (fun _ _ => rfl))))))) (pss_one (ps_ret (pe_un un_neg pe_int))))), ?_⟩)
  obtain ⟨_, ⟨a, xs, n, ks, rfl, hx, hA, rfl⟩, k⟩ := h
  refine q_asg ev_c fun H1 e1 => ?_
  refine q_forE (l := ks) (A := TokAt K n) (it_list (M := []) (ev_var rfl) (e1 _ _ hx) (by rw [minus_nil]; exact hA.mono mono_tok e1) mono_tok (by simp)) (fun pre σ' _ => ∃ (st : Str) (y z : Option V), σ' = [some (.ref a), some (.str st), y, z] ∧ ∀ post, ks = pre ++ post → mis n "log" ks = mis n st post) (fun H2 e2 => ⟨"log", _, _, rfl, fun post h => by rw [h]; rfl⟩) (fun H2 e2 pre b post x σ' H' hl e3 hp hb => ?_) (fun σ' H' e2 hp => ?_)
  · obtain ⟨st, y, z, rfl, hm⟩ := hp
    have hm := hm _ hl
    refine q_asgU (eu_tup (ea_cons (ev_var rfl) (ea_cons (ev_kind T (ev_var rfl) hb) ea_nil)) (show (2 : Nat) ≤ 100000 by decide)) fun p H3 hp3 e4 h3 => ?_
    refine q_when (et_stepsNo (ev_var rfl) h3) (fun hs H4 e5 => ?_) (fun hs H4 e5 => ?_)
    · have hs' : stepOf st (kindS n b) = none := by
        cases h : stepOf st (kindS n b) with
        | none => rfl
        | some c => rw [h] at hs; cases hs
      refine s_ret (ev_place T (ev_var rfl) (mono_tok _ _ _ _ (e4.trans e5) hb)) fun H5 e6 => k _ H5 (((((e1.trans e2).trans e3).trans e4).trans e5).trans e6) ?_
      rw [hm, mis_no hs']
    · obtain ⟨c, hc⟩ : ∃ c, stepOf st (kindS n b) = some c := by
        cases h : stepOf st (kindS n b) with
        | none => rw [h] at hs; cases hs
        | some c => exact ⟨c, rfl⟩
      refine s_asg (ev_stepsGet (ev_var rfl) (e5 _ _ h3) hc) fun H5 e6 => ⟨((e3.trans e4).trans e5).trans e6, c, _, _, rfl, fun post' h' => ?_⟩
      have e : post = post' := by
        rw [hl, List.append_assoc] at h'
        have := List.append_cancel_left h'
        simpa using this
      rw [hm, ← e]
      exact mis_yes rfl hc
  · obtain ⟨st, y, z, rfl, hm⟩ := hp
    have hm := hm [] (by simp)
    refine s_ret (ev_un ev_c ru_neg) fun H3 e3 => k _ H3 ((e1.trans e2).trans e3) ?_
    rw [hm]
    rfl
end
end Bl

-- part W11
set_option Elab.async false
set_option linter.all false
set_option maxRecDepth 100000
set_option maxHeartbeats 4000000
namespace Bl
open PySem PySem.Spec PyProof.Rows L2 Evl
open Vabldo (valueOf)
/-! ### files, records, logs, as they lie in the heap -/
def FileAt (K : PySem.W.Frag) (u : Vabldo.Used) (v : V) (H : Hp) : Prop := ∃ (x dx s : Addr), v = .ref x ∧ H x = some (.ins (He.ga K "File") dx [("name", .ref s), ("number", .int (u.number : Int))]) ∧ Tx H s u.file
theorem mono_file {K : PySem.W.Frag} : Mono (FileAt K) := fun k v H H' e h => by
  obtain ⟨x, dx, s, h1, h2, h3⟩ := h
  exact ⟨x, dx, s, h1, e _ _ h2, h3.mono e⟩
def recO (K : PySem.W.Frag) (run : Bool) (dx nm tl a1 a2 a3 : Addr) (x : Nat) : HO := .ins (He.ga K "Record") dx [("way", .str (if run = true then ("run" : Str) else ("kept" : Str))), ("name", .ref nm), ("tool", .ref tl), ("arguments", .ref a1), ("inputs", .ref a2), ("outputs", .ref a3), ("status", .int (x : Int))]
/-- what a record holds lies in G, its own parts in H -/
structure RecX (K : PySem.W.Frag) (r : Vabldo.Record) (p dx nm tl a1 a2 a3 : Addr) (xs1 xs2 xs3 : List V) (H G : Hp) : Prop where
  o : H p = some (recO K r.run dx nm tl a1 a2 a3 r.exit)
  l1 : H a1 = some (.lst xs1)
  l2 : H a2 = some (.lst xs2)
  l3 : H a3 = some (.lst xs3)
  nm : Tx G nm r.name
  tl : Tx G tl r.tool
  ar : All2 (fun t v => IsTx t v G) r.args xs1
  i : All2 (fun u v => FileAt K u v G) r.ins xs2
  ou : All2 (fun u v => FileAt K u v G) r.outs xs3
def RecAt (K : PySem.W.Frag) (r : Vabldo.Record) (v : V) (H : Hp) : Prop := ∃ (p dx nm tl a1 a2 a3 : Addr) (xs1 xs2 xs3 : List V), v = .ref p ∧ RecX K r p dx nm tl a1 a2 a3 xs1 xs2 xs3 H H
theorem RecX.mono {K : PySem.W.Frag} {r : Vabldo.Record} {p dx nm tl a1 a2 a3 : Addr} {xs1 xs2 xs3 : List V} {H G H' G' : Hp} (h : RecX K r p dx nm tl a1 a2 a3 xs1 xs2 xs3 H G) (e : Ex H H') (e2 : Ex G G') : RecX K r p dx nm tl a1 a2 a3 xs1 xs2 xs3 H' G' :=
  ⟨e _ _ h.o, e _ _ h.l1, e _ _ h.l2, e _ _ h.l3, h.nm.mono e2, h.tl.mono e2, h.ar.mono mono_tx e2, h.i.mono mono_file e2, h.ou.mono mono_file e2⟩
theorem mono_rec {K : PySem.W.Frag} : Mono (RecAt K) := fun k v H H' e h => by
  obtain ⟨p, dx, nm, tl, a1, a2, a3, xs1, xs2, xs3, h1, h2⟩ := h
  exact ⟨p, dx, nm, tl, a1, a2, a3, xs1, xs2, xs3, h1, h2.mono e e⟩
def LogAt (K : PySem.W.Frag) (l : Vabldo.Log) (v : V) (H : Hp) : Prop := ∃ (x dx rl : Addr) (rs : List V), v = .ref x ∧ H x = some (.ins (He.ga K "Log") dx [("records", .ref rl), ("total", .int (l.told : Int))]) ∧ H rl = some (.lst rs) ∧ All2 (fun r v => RecAt K r v H) l.records rs
theorem mono_log {K : PySem.W.Frag} : Mono (LogAt K) := fun k v H H' e h => by
  obtain ⟨x, dx, rl, rs, h1, h2, h3, h4⟩ := h
  exact ⟨x, dx, rl, rs, h1, e _ _ h2, e _ _ h3, h4.mono mono_rec e⟩
abbrev sp_File (K : PySem.W.Frag) : Sp := spI (He.ga K "File") ["name", "number"]
abbrev sp_Log (K : PySem.W.Frag) : Sp := spI (He.ga K "Log") ["records", "total"]
abbrev sp_Reading (K : PySem.W.Frag) : Sp := spI (He.ga K "Reading") ["refusal", "place", "log"]
/-- a new record: its parts are new, too -/
def sp_Record (K : PySem.W.Frag) : Sp := fun vs H Q _ => ∃ (x dx nm : Addr) (run : Bool), vs = [.ref x, .str (if run = true then ("run" : Str) else ("kept" : Str)), .ref nm] ∧ H x = some (.ins (He.ga K "Record") dx []) ∧
  ∀ (H' : Hp) (tl a1 a2 a3 : Addr), Ex (minus H [x]) H' → H tl = none → H a1 = none → H a2 = none → H a3 = none → a1 ≠ a2 → a1 ≠ a3 → a2 ≠ a3 → H' x = some (recO K run dx nm tl a1 a2 a3 0) → H' tl = some (.tup []) → H' a1 = some (.lst []) → H' a2 = some (.lst []) → H' a3 = some (.lst []) → Q .non H'
section
variable {w : World} {K : PySem.W.Frag} {mg : Str → Option Value} {base : Heap} {σ : L2.St} {H : Hp} {ta tb tc : TE} {v : V}
theorem sc_File_init : FnScope ["self", "name", "number"] ["self", "name", "number"] (defScope s_File_init) := ⟨rfl, rfl, rfl, by decide +kernel, rfl, by decide +kernel, by decide +kernel⟩
theorem ok_File (T : Txt w K mg) : HasC P0 w K mg base "File" 1 ["self", "name", "number"] (sp_File K) ["name", "number"] := by
  refine hasC_of T.f_File_init T.m_File T.c_File T.g_File (List.forall_mem_cons.mpr ⟨T.n_File_name, (List.forall_mem_cons.mpr ⟨T.n_File_number, (fun _ h => absurd h List.not_mem_nil)⟩)⟩) sc_File_init (fun _ _ _ _ _ _ us hl => match us, hl with | [_, _, _], _ => rfl) (fun vs H Q E h => spI_len h) (fun cdv A outer s H vs Q E hr h => ⟨_, PSs.nox (pss_cons (ps_fld (pv 0) (pv 1) rfl) (pss_one (ps_fld (pv 0) (pv 2) rfl))), ?_⟩)
  obtain ⟨x, dx, as, rfl, hl, hH, k⟩ := h
  obtain ⟨a, b, rfl⟩ := len2 hl
  refine st_seq (st_fld (val_var rfl) (val_var rfl) hH T.c_File T.n_File_name (by decide) ?_)
  refine st_fld (val_var rfl) (val_var rfl) upd_same T.c_File T.n_File_number (show (1 : Nat) < 1000 by decide) ?_
  rw [upd_upd]
  exact k
theorem sc_Log_init : FnScope ["self", "records", "total"] ["self", "records", "total"] (defScope s_Log_init) := ⟨rfl, rfl, rfl, by decide +kernel, rfl, by decide +kernel, by decide +kernel⟩
theorem ok_Log (T : Txt w K mg) : HasC P0 w K mg base "Log" 1 ["self", "records", "total"] (sp_Log K) ["records", "total"] := by
  refine hasC_of T.f_Log_init T.m_Log T.c_Log T.g_Log (List.forall_mem_cons.mpr ⟨T.n_Log_records, (List.forall_mem_cons.mpr ⟨T.n_Log_total, (fun _ h => absurd h List.not_mem_nil)⟩)⟩) sc_Log_init (fun _ _ _ _ _ _ us hl => match us, hl with | [_, _, _], _ => rfl) (fun vs H Q E h => spI_len h) (fun cdv A outer s H vs Q E hr h => ⟨_, PSs.nox (pss_cons (ps_fld (pv 0) (pv 1) rfl) (pss_one (ps_fld (pv 0) (pv 2) rfl))), ?_⟩)
  obtain ⟨x, dx, as, rfl, hl, hH, k⟩ := h
  obtain ⟨a, b, rfl⟩ := len2 hl
  refine st_seq (st_fld (val_var rfl) (val_var rfl) hH T.c_Log T.n_Log_records (by decide) ?_)
  refine st_fld (val_var rfl) (val_var rfl) upd_same T.c_Log T.n_Log_total (show (1 : Nat) < 1000 by decide) ?_
  rw [upd_upd]
  exact k
theorem sc_Reading_init : FnScope ["self", "refusal", "place", "log"] ["self", "refusal", "place", "log"] (defScope s_Reading_init) := ⟨rfl, rfl, rfl, by decide +kernel, rfl, by decide +kernel, by decide +kernel⟩
theorem ok_Reading (T : Txt w K mg) : HasC P0 w K mg base "Reading" 1 ["self", "refusal", "place", "log"] (sp_Reading K) ["refusal", "place", "log"] := by
  refine hasC_of T.f_Reading_init T.m_Reading T.c_Reading T.g_Reading (List.forall_mem_cons.mpr ⟨T.n_Reading_refusal, (List.forall_mem_cons.mpr ⟨T.n_Reading_place, (List.forall_mem_cons.mpr ⟨T.n_Reading_log, (fun _ h => absurd h List.not_mem_nil)⟩)⟩)⟩) sc_Reading_init (fun _ _ _ _ _ _ us hl => match us, hl with | [_, _, _, _], _ => rfl) (fun vs H Q E h => spI_len h) (fun cdv A outer s H vs Q E hr h => ⟨_, PSs.nox (pss_cons (ps_fld (pv 0) (pv 1) rfl) (pss_cons (ps_fld (pv 0) (pv 2) rfl) (pss_one (ps_fld (pv 0) (pv 3) rfl)))), ?_⟩)
  obtain ⟨x, dx, as, rfl, hl, hH, k⟩ := h
  obtain ⟨a, b, c, rfl⟩ := len3 hl
  refine st_seq (st_fld (val_var rfl) (val_var rfl) hH T.c_Reading T.n_Reading_refusal (by decide) ?_)
  refine st_seq (st_fld (val_var rfl) (val_var rfl) upd_same T.c_Reading T.n_Reading_place (show (1 : Nat) < 1000 by decide) ?_)
  refine st_fld (val_var rfl) (val_var rfl) upd_same T.c_Reading T.n_Reading_log (show (2 : Nat) < 1000 by decide) ?_
  rw [upd_upd, upd_upd]
  exact k
theorem new_ne {H : Hp} {x p : Addr} {o : HO} (hx : H x = some o) (hp : H p = none) : p ≠ x := fun e => by
  rw [e, hx] at hp
  cases hp
theorem putF_new {f : Str} {y : V} : ∀ {fs : List (Str × V)}, f ∉ fs.map (·.1) → putF f y fs = fs ++ [(f, y)]
  | [], _ => rfl
  | (g, x) :: r, h => by
    have h1 : g ≠ f := fun e => h (by rw [List.map_cons, e]; exact List.mem_cons_self ..)
    have h2 : f ∉ r.map (·.1) := fun e => h (List.mem_cons_of_mem _ e)
    show (if g = f then _ else _) = _
    rw [if_neg h1, putF_new h2]
    rfl
theorem fld_new {D : Ends} {C x dx : Addr} {fs : List (Str × V)} {f : Str} {y : V} {H : Hp} (ns : List Str) (ho : H x = some (.ins C dx fs)) (hc : Cls K C) (hn : NoAttr K C f) (hl : ns.length < 1000) (hN : fs.map (·.1) = ns) (hf : f ∉ ns) (k : D.nx σ (upd H x (.ins C dx (fs ++ [(f, y)])))) :
    ∃ a C dx fs, V.ref x = .ref a ∧ H a = some (.ins C dx fs) ∧ Cls K C ∧ NoAttr K C f ∧ fs.length < 1000 ∧ D.nx σ (upd H a (.ins C dx (putF f y fs))) := by
  refine ⟨x, C, dx, fs, rfl, ho, hc, hn, ?_, ?_⟩
  · rw [← hN, List.length_map] at hl
    exact hl
  · rw [putF_new (by rw [hN]; exact hf)]
    exact k
theorem sc_Record_init : FnScope ["self", "way", "name"] ["self", "way", "name"] (defScope s_Record_init) := ⟨rfl, rfl, rfl, by decide +kernel, rfl, by decide +kernel, by decide +kernel⟩
theorem ok_Record (T : Txt w K mg) : HasC P0 w K mg base "Record" 1 ["self", "way", "name"] (sp_Record K) ["way", "name", "tool", "arguments", "inputs", "outputs", "status"] := by
  refine hasC_of T.f_Record_init T.m_Record T.c_Record T.g_Record (List.forall_mem_cons.mpr ⟨T.n_Record_way, (List.forall_mem_cons.mpr ⟨T.n_Record_name, (List.forall_mem_cons.mpr ⟨T.n_Record_tool, (List.forall_mem_cons.mpr ⟨T.n_Record_arguments, (List.forall_mem_cons.mpr ⟨T.n_Record_inputs, (List.forall_mem_cons.mpr ⟨T.n_Record_outputs, (List.forall_mem_cons.mpr ⟨T.n_Record_status, (fun _ h => absurd h List.not_mem_nil)⟩)⟩)⟩)⟩)⟩)⟩)⟩) sc_Record_init (fun _ _ _ _ _ _ us hl => match us, hl with | [_, _, _], _ => rfl) (fun vs H Q E h => (by obtain ⟨x, dx, nm, run, rfl, _⟩ := h; rfl)) (fun cdv A outer s H vs Q E hr h => ⟨_, PSs.nox (pss_cons (ps_fld (pv 0) (pv 1) rfl) (pss_cons (ps_fld (pv 0) (pv 2) rfl) (pss_cons (ps_fld (pv 0) (pe_tup pa_nil) rfl) (pss_cons (ps_fld (pv 0) (pe_lst pa_nil) rfl) (pss_cons (ps_fld (pv 0) (pe_lst pa_nil) rfl) (pss_cons (ps_fld (pv 0) (pe_lst pa_nil) rfl) (pss_one (ps_fld (pv 0) pe_int rfl)))))))), ?_⟩)
  obtain ⟨x, dx, nm, run, rfl, hH, k⟩ := h
  refine st_seq ⟨_, rfl, _, rfl, fld_new [] hH T.c_Record T.n_Record_way (by decide) rfl (by decide) ?_⟩
  dsimp only
  refine st_seq ⟨_, rfl, _, rfl, fld_new ["way"] upd_same T.c_Record T.n_Record_name (by decide) rfl (by decide) ?_⟩
  dsimp only
  rw [upd_upd]
  -- tool
  refine st_seq ⟨by decide, fun tl htl => ⟨_, rfl, ?_⟩⟩
  have t1 : tl ≠ x := new_ne upd_same htl
  have htl0 : H tl = none := by rw [upd_ne t1] at htl; exact htl
  refine fld_new ["way", "name"] ((upd_ne t1.symm).trans upd_same) T.c_Record T.n_Record_tool (by decide) rfl (by decide) ?_
  dsimp only
  -- arguments
  refine st_seq ⟨by decide, fun a1 ha1 => ⟨_, rfl, ?_⟩⟩
  have f1 : a1 ≠ x := new_ne upd_same ha1
  have f2 : a1 ≠ tl := new_ne (by rw [upd_ne t1]; exact upd_same) ha1
  have ha10 : H a1 = none := by rw [upd_ne f1, upd_ne f2, upd_ne f1] at ha1; exact ha1
  refine fld_new ["way", "name", "tool"] ((upd_ne f1.symm).trans upd_same) T.c_Record T.n_Record_arguments (by decide) rfl (by decide) ?_
  dsimp only
  -- inputs
  refine st_seq ⟨by decide, fun a2 ha2 => ⟨_, rfl, ?_⟩⟩
  have g1 : a2 ≠ x := new_ne upd_same ha2
  have g3 : a2 ≠ a1 := new_ne (by rw [upd_ne f1]; exact upd_same) ha2
  have g2 : a2 ≠ tl := new_ne (by rw [upd_ne t1, upd_ne f2.symm, upd_ne t1]; exact upd_same) ha2
  have ha20 : H a2 = none := by rw [upd_ne g1, upd_ne g3, upd_ne g1, upd_ne g2, upd_ne g1] at ha2; exact ha2
  refine fld_new ["way", "name", "tool", "arguments"] ((upd_ne g1.symm).trans upd_same) T.c_Record T.n_Record_inputs (by decide) rfl (by decide) ?_
  dsimp only
  -- outputs
  refine st_seq ⟨by decide, fun a3 ha3 => ⟨_, rfl, ?_⟩⟩
  have k1 : a3 ≠ x := new_ne upd_same ha3
  have k4 : a3 ≠ a2 := new_ne (by rw [upd_ne g1]; exact upd_same) ha3
  have k3 : a3 ≠ a1 := new_ne (by rw [upd_ne f1, upd_ne g3.symm, upd_ne f1]; exact upd_same) ha3
  have k2 : a3 ≠ tl := new_ne (by rw [upd_ne t1, upd_ne g2.symm, upd_ne t1, upd_ne f2.symm, upd_ne t1]; exact upd_same) ha3
  have ha30 : H a3 = none := by rw [upd_ne k1, upd_ne k4, upd_ne k1, upd_ne k3, upd_ne k1, upd_ne k2, upd_ne k1] at ha3; exact ha3
  refine fld_new ["way", "name", "tool", "arguments", "inputs"] ((upd_ne k1.symm).trans upd_same) T.c_Record T.n_Record_outputs (by decide) rfl (by decide) ?_
  dsimp only
  -- status
  refine ⟨_, rfl, fld_new ["way", "name", "tool", "arguments", "inputs", "outputs"] upd_same T.c_Record T.n_Record_status (by decide) rfl (by decide) ?_⟩
  refine k _ tl a1 a2 a3 ?_ htl0 ha10 ha20 ha30 g3.symm k3.symm k4.symm ?_ ?_ ?_ ?_ ?_
  · intro b o hb
    obtain ⟨nb, hb⟩ := minus_some hb
    have nx : b ≠ x := by simpa using nb
    have n1 : b ≠ tl := ne_of_none hb htl0
    have n2 : b ≠ a1 := ne_of_none hb ha10
    have n3 : b ≠ a2 := ne_of_none hb ha20
    have n4 : b ≠ a3 := ne_of_none hb ha30
    rw [upd_upd, upd_ne nx, upd_ne n4, upd_ne nx, upd_ne n3, upd_ne nx, upd_ne n2, upd_ne nx, upd_ne n1, upd_ne nx]
    exact hb
  · exact upd_same
  · rw [upd_upd, upd_ne t1, upd_ne k2.symm, upd_ne t1, upd_ne g2.symm, upd_ne t1, upd_ne f2.symm, upd_ne t1]
    exact upd_same
  · rw [upd_upd, upd_ne f1, upd_ne k3.symm, upd_ne f1, upd_ne g3.symm, upd_ne f1]
    exact upd_same
  · rw [upd_upd, upd_ne g1, upd_ne k4.symm, upd_ne g1]
    exact upd_same
  · rw [upd_upd, upd_ne k1]
    exact upd_same
end
end Bl

-- part W12
set_option Elab.async false
set_option linter.all false
set_option maxRecDepth 100000
set_option maxHeartbeats 4000000
namespace Bl
open PySem PySem.Spec PyProof.Rows L2 Evl
open Vabldo (valueOf)
/-! ### build -/
def FillOk (n : Nat) (k : Vabldo.Tok) (rest : List Vabldo.Tok) : Prop :=
  (kindS n k = "tool" ∨ kindS n k = "arg" → ∃ k2 r, rest = k2 :: r) ∧ (kindS n k = "in" ∨ kindS n k = "out" → ∃ k2 k3 r, rest = k2 :: k3 :: r ∧ NumT k3.text) ∧ (kindS n k = "exit" → ∃ k2 r, rest = k2 :: r ∧ NumT k2.text)
structure Apart (L a1 a2 a3 : Addr) : Prop where
  x1 : L ≠ a1
  x2 : L ≠ a2
  x3 : L ≠ a3
  y1 : a1 ≠ a2
  y2 : a1 ≠ a3
  y3 : a2 ≠ a3
def sp_fill (K : PySem.W.Frag) : Sp := fun vs H Q _ => ∃ (L p dx nm tl a1 a2 a3 b : Addr) (Ls xs1 xs2 xs3 bs : List V) (rc : Vabldo.Record) (n i : Nat) (ks : List Vabldo.Tok) (k : Vabldo.Tok) (rest : List Vabldo.Tok), vs = [.ref p, .ref b, .int (i : Int)] ∧ H L = some (.lst Ls) ∧
  RecX K rc p dx nm tl a1 a2 a3 xs1 xs2 xs3 H (minus H [L, p, a1, a2, a3]) ∧ Apart L a1 a2 a3 ∧ minus H [L, p, a1, a2, a3] b = some (.lst bs) ∧ All2 (fun k v => TokAt K n k v (minus H [L, p, a1, a2, a3])) ks bs ∧ ks.drop i = k :: rest ∧ FillOk n k rest ∧ xs1.length + xs2.length + xs3.length < 1000000 ∧
  ∀ (H' : Hp) (tl' : Addr) (ys1 ys2 ys3 : List V), Ex (minus H [L, p, a1, a2, a3]) (minus H' [L, p, a1, a2, a3]) → H' L = some (.lst Ls) → RecX K (fillR capV rc (kindS n k) rest) p dx nm tl' a1 a2 a3 ys1 ys2 ys3 H' (minus H' [L, p, a1, a2, a3]) → Q .non H'
section
variable {w : World} {K : PySem.W.Frag} {mg : Str → Option Value} {base : Heap} {σ : L2.St} {H : Hp} {ta tb tc tv' : TE} {v y : V} {D : Ends}
theorem s_fld {a C dx : Addr} {fs : List (Str × V)} {f : Str} (hv : Ev tv' σ H y) (ha : Ev ta σ H (.ref a)) (ho : H a = some (.ins C dx fs)) (hc : Cls K C) (hn : NoAttr K C f) (hl : fs.length < 1000) (k : ∀ H1, Ex H H1 → D.nx σ (upd H1 a (.ins C dx (putF f y fs)))) : sFld K ta tv' f D σ H :=
  hv H (Ex.refl H) _ fun H1 e1 => ha H1 e1 _ fun H2 e2 => ⟨a, C, dx, fs, rfl, (e1.trans e2) _ _ ho, hc, hn, hl, k H2 (e1.trans e2)⟩
theorem ep_file {u : Vabldo.Used} {E : XK} {s : Addr} (h1 : Ev ta σ H (.ref s)) (hs : Tx H s u.file) (h2 : Ev tb σ H (.int (u.number : Int))) : EvP (tMake (He.ga K "File") (sp_File K) [] E (tCons ta (tCons tb tNil))) σ H (FileAt K u) := by
  refine EvP.imp (ep_make (PA := fun as H1 => as = [.ref s, .int (u.number : Int)] ∧ Tx H1 s u.file) (fun H1 e Q q => h1 H1 e _ fun H2 e2 => h2 H2 (e.trans e2) _ fun H3 e3 => q _ H3 (e2.trans e3) ⟨rfl, hs.mono ((e.trans e2).trans e3)⟩) ?_ ?_) ?_
  · rintro as H1 ⟨rfl, _⟩
    rfl
  · rintro as H1 H2 e ⟨rfl, h⟩
    exact ⟨rfl, h.mono e⟩
  · rintro v H1 e ⟨x, dx, as, rfl, hx, rfl, hs⟩
    exact ⟨x, dx, s, rfl, hx, hs⟩
theorem rec_ne {K : PySem.W.Frag} {run : Bool} {dx nm tl a1 a2 a3 : Addr} {x : Nat} {C d : Addr} {a b : Str × V} : recO K run dx nm tl a1 a2 a3 x ≠ .ins C d [a, b] := by
  intro z
  unfold recO at z
  injection z with _ _ z
  injection z with _ z
  injection z with _ z
  cases z
/-- a file is none of what is being written -/
theorem file_minus {u : Vabldo.Used} {L p a1 a2 a3 dx nm tl : Addr} {Ls xs1 xs2 xs3 : List V} {run : Bool} {x : Nat} (h : FileAt K u v H) (hL : H L = some (.lst Ls)) (hp : H p = some (recO K run dx nm tl a1 a2 a3 x)) (h1 : H a1 = some (.lst xs1)) (h2 : H a2 = some (.lst xs2)) (h3 : H a3 = some (.lst xs3)) : FileAt K u v (minus H [L, p, a1, a2, a3]) := by
  obtain ⟨y, dy, s, e, hy, hs⟩ := h
  have q1 : ∀ {m : Addr} {xs : List V}, H m = some (.lst xs) → y ≠ m := fun hm => ne_of hy hm (by intro z; cases z)
  have q2 : ∀ {m : Addr} {xs : List V}, H m = some (.lst xs) → s ≠ m := fun hm => ne_of hs hm (by intro z; cases z)
  have q3 : y ≠ p := ne_of hy hp (fun z => rec_ne z.symm)
  have q4 : s ≠ p := ne_of hs hp (by intro z; cases z)
  refine ⟨y, dy, s, e, minus_get hy ?_, minus_get hs ?_⟩
  · simp only [List.mem_cons, List.not_mem_nil, or_false]
    exact fun z => z.elim (q1 hL) fun z => z.elim q3 fun z => z.elim (q1 h1) fun z => z.elim (q1 h2) (q1 h3)
  · simp only [List.mem_cons, List.not_mem_nil, or_false]
    exact fun z => z.elim (q2 hL) fun z => z.elim q4 fun z => z.elim (q2 h1) fun z => z.elim (q2 h2) (q2 h3)
theorem minus_upd {M : List Addr} {a : Addr} {o : HO} (h : a ∈ M) : minus (upd H a o) M = minus H M := by
  funext b
  unfold minus
  by_cases hb : b ∈ M
  · rw [if_pos hb, if_pos hb]
  · rw [if_neg hb, if_neg hb, upd_ne fun e => hb (by rw [e]; exact h)]
theorem drop_at {α : Type} {l : List α} {i : Nat} {k : α} {r : List α} (h : l.drop i = k :: r) : l[i]? = some k ∧ l.drop (i + 1) = r := by
  constructor
  · have := congrArg List.head? h
    rw [List.head?_drop] at this
    exact this
  · rw [← List.drop_drop, h]
    rfl
theorem sc_fill : FnScope ["record", "tokens", "i", "kind"] ["record", "tokens", "i"] (defScope s_fill) := ⟨rfl, rfl, rfl, by decide +kernel, rfl, by decide +kernel, by decide +kernel⟩
theorem ok_fill (T : Txt w K mg) (H_number_of : Has P0 w K mg base "number_of" 1 ["token"] (sp_number_of K)) (H_File : HasC P0 w K mg base "File" 1 ["self", "name", "number"] (sp_File K) ["name", "number"]) : Has P0 w K mg base "fill" 3 ["record", "tokens", "i"] (sp_fill K) := by
  refine has_of T.f_fill T.g_fill sc_fill (fun _ _ _ _ _ _ us hl => match us, hl with | [_, _, _], _ => rfl) (fun vs H Q E h => by obtain ⟨L, p, dx, nm, tl, a1, a2, a3, b, Ls, xs1, xs2, xs3, bs, rc, n, i, ks, kk, rest, rfl, hL, hR, hap, hb, hA, hd, hok, hz, k⟩ := h; rfl) (fun cdv A outer s H vs Q E hr h => ⟨_, PSs.nox (pss_cons (ps_set (i := 3) sc_fill.nd rfl (Or.inl rfl) (pe_fld (pe_ix ix_list (pv 1) (pv 2) (fun _ _ => rfl)) rfl)) (pss_one (ps_if (pt_cmpR op_eq (pv 3) pe_str (nomark _)) (pss_one (ps_fld (pv 0) (pe_fld (pe_ix ix_list (pv 1) (pe_op op_add (pv 2) pe_int) (fun _ _ => rfl)) rfl) rfl)) (pss_one (ps_if (pt_cmpR op_eq (pv 3) pe_str (nomark _)) (pss_one (ps_expr (pe_bm PySem.F.plainAttrs_list PySem.F.slot_list_append PySem.F.type_list_append mt_append (pe_fld (pv 0) rfl) (pa_cons (pe_fld (pe_ix ix_list (pv 1) (pe_op op_add (pv 2) pe_int) (fun _ _ => rfl)) rfl) pa_nil)))) (pss_one (ps_if (pt_cmpR op_eq (pv 3) pe_str (nomark _)) (pss_one (ps_expr (pe_bm PySem.F.plainAttrs_list PySem.F.slot_list_append PySem.F.type_list_append mt_append (pe_fld (pv 0) rfl) (pa_cons (pe_hc H_File (by exact hr.mono (by decide)) (by rfl) (pa_cons (pe_fld (pe_ix ix_list (pv 1) (pe_op op_add (pv 2) pe_int) (fun _ _ => rfl)) rfl) (pa_cons (pe_h H_number_of (by exact hr.mono (by decide)) (by rfl) (pa_cons (pe_ix ix_list (pv 1) (pe_op op_add (pv 2) pe_int) (fun _ _ => rfl)) pa_nil)) pa_nil))) pa_nil)))) (pss_one (ps_if (pt_cmpR op_eq (pv 3) pe_str (nomark _)) (pss_one (ps_expr (pe_bm PySem.F.plainAttrs_list PySem.F.slot_list_append PySem.F.type_list_append mt_append (pe_fld (pv 0) rfl) (pa_cons (pe_hc H_File (by exact hr.mono (by decide)) (by rfl) (pa_cons (pe_fld (pe_ix ix_list (pv 1) (pe_op op_add (pv 2) pe_int) (fun _ _ => rfl)) rfl) (pa_cons (pe_h H_number_of (by exact hr.mono (by decide)) (by rfl) (pa_cons (pe_ix ix_list (pv 1) (pe_op op_add (pv 2) pe_int) (fun _ _ => rfl)) pa_nil)) pa_nil))) pa_nil)))) (pss_one (ps_if (pt_cmpR op_eq (pv 3) pe_str (nomark _)) (pss_one (ps_fld (pv 0) (pe_h H_number_of (by exact hr.mono (by decide)) (by rfl) (pa_cons (pe_ix ix_list (pv 1) (pe_op op_add (pv 2) pe_int) (fun _ _ => rfl)) pa_nil)) rfl)) pss_nil))))))))))), ?_⟩)
  obtain ⟨L, p, dx, nm, tl, a1, a2, a3, b, Ls, xs1, xs2, xs3, bs, rc, n, i, ks, kk, rest, rfl, hL, hR, hap, hb, hA, hd, hok, hz, k⟩ := h
  obtain ⟨hi0, hd1⟩ := drop_at hd
  have hbH : H b = some (.lst bs) := minus_ex _ _ hb
  obtain ⟨v0, hv0, ht0⟩ := hA.getL hi0
  have ep1 : a1 ≠ p := ne_of hR.l1 hR.o (by intro z; cases z)
  have ep2 : a2 ≠ p := ne_of hR.l2 hR.o (by intro z; cases z)
  have ep3 : a3 ≠ p := ne_of hR.l3 hR.o (by intro z; cases z)
  have eLp : L ≠ p := ne_of hL hR.o (by intro z; cases z)
  have tokH : ∀ {H1 : Hp} {q : Vabldo.Tok} {v : V}, Ex H H1 → TokAt K n q v (minus H [L, p, a1, a2, a3]) → TokAt K n q v H1 := fun e h => mono_tok _ _ _ _ (minus_ex.trans e) h
  refine q_asg (ev_kind T (ev_lstAt (ev_var rfl) (ev_var rfl) hbH hv0) (tokH (Ex.refl H) ht0)) fun H1 e1 => ?_
  refine s_if (et_test (ev_eqS (ev_var rfl) ev_c)) (fun h1 H2 e2 => ?_) (fun h1 H2 e2 => ?_)
  · have h1 : kindS n kk = "tool" := of_decide_eq_true h1
    obtain ⟨k2, r, rfl⟩ := hok.1 (Or.inl h1)
    obtain ⟨v1, hv1, ht1⟩ := hA.getL (drop_at hd1).1
    have e12 := e1.trans e2
    obtain ⟨s, hs, hsp⟩ := tok_spelled T ht1
    refine s_fld (y := .ref s) (Ev.mono (H := H) e12 (Ev.mono minus_ex (hsp (ev_lstAt (i := i + 1) (ev_var rfl) (ev_op (ev_var rfl) ev_c rv_I0) hb hv1)))) (ev_var rfl) (e12 _ _ hR.o) T.c_Record T.n_Record_tool (show (7 : Nat) < 1000 by decide) fun H3 e3 => ?_
    have e13 := e12.trans e3
    have em : minus (upd H3 p (recO K rc.run dx nm s a1 a2 a3 rc.exit)) [L, p, a1, a2, a3] = minus H3 [L, p, a1, a2, a3] := minus_upd (by simp)
    show Q .non (upd H3 p (recO K rc.run dx nm s a1 a2 a3 rc.exit))
    refine k _ s xs1 xs2 xs3 (by rw [em]; exact Ex.minus e13) (by rw [upd_ne eLp]; exact e13 _ _ hL) ?_
    rw [em, show fillR capV rc (kindS n kk) (k2 :: r) = { rc with tool := k2.text } by rw [h1]; rfl]
    have eg := Ex.minus (M := [L, p, a1, a2, a3]) e13
    exact ⟨upd_same, by rw [upd_ne ep1]; exact e13 _ _ hR.l1, by rw [upd_ne ep2]; exact e13 _ _ hR.l2, by rw [upd_ne ep3]; exact e13 _ _ hR.l3, hR.nm.mono eg, hs.mono eg, hR.ar.mono mono_tx eg, hR.i.mono mono_file eg, hR.ou.mono mono_file eg⟩
  have n1 : kindS n kk ≠ "tool" := of_decide_eq_false h1
  refine s_if (et_test (ev_eqS (ev_var rfl) ev_c)) (fun h2 H3 e3 => ?_) (fun h2 H3 e3 => ?_)
  · have h2 : kindS n kk = "arg" := of_decide_eq_true h2
    obtain ⟨k2, r, rfl⟩ := hok.1 (Or.inr h2)
    obtain ⟨v1, hv1, ht1⟩ := hA.getL (drop_at hd1).1
    have e12 := (e1.trans e2).trans e3
    obtain ⟨s, hs, hsp⟩ := tok_spelled T ht1
    refine s_app' (l := a1) (xs := xs1) (v := .ref s) (e12 _ _ hR.l1) (ev_fld (ev_var rfl) (e12 _ _ hR.o) T.c_Record T.n_Record_arguments rfl) (Ev.mono (H := H) e12 (Ev.mono minus_ex (hsp (ev_lstAt (i := i + 1) (ev_var rfl) (ev_op (ev_var rfl) ev_c rv_I0) hb hv1)))) (by omega) fun H4 e4 => ?_
    have e13 := e12.trans e4
    have em : minus (upd H4 a1 (.lst (xs1 ++ [.ref s]))) [L, p, a1, a2, a3] = minus H4 [L, p, a1, a2, a3] := minus_upd (by simp)
    refine k _ tl (xs1 ++ [.ref s]) xs2 xs3 (by rw [em]; exact Ex.minus e13) (by rw [upd_ne hap.x1]; exact e13 _ _ hL) ?_
    rw [em, show fillR capV rc (kindS n kk) (k2 :: r) = { rc with args := rc.args ++ [k2.text] } by rw [h2]; rfl]
    have eg := Ex.minus (M := [L, p, a1, a2, a3]) e13
    exact ⟨by rw [upd_ne ep1.symm]; exact e13 _ _ hR.o, upd_same, by rw [upd_ne hap.y1.symm]; exact e13 _ _ hR.l2, by rw [upd_ne hap.y2.symm]; exact e13 _ _ hR.l3, hR.nm.mono eg, hR.tl.mono eg, (hR.ar.mono mono_tx eg).app (.one ⟨s, rfl, hs.mono eg⟩), hR.i.mono mono_file eg, hR.ou.mono mono_file eg⟩
  have n2 : kindS n kk ≠ "arg" := of_decide_eq_false h2
  refine s_if (et_test (ev_eqS (ev_var rfl) ev_c)) (fun h3 H4 e4 => ?_) (fun h3 H4 e4 => ?_)
  · have h3 : kindS n kk = "in" := of_decide_eq_true h3
    obtain ⟨k2, k3, r, rfl, hnum⟩ := hok.2.1 (Or.inl h3)
    obtain ⟨g1, hd2⟩ := drop_at hd1
    obtain ⟨v1, hv1, ht1⟩ := hA.getL g1
    obtain ⟨v2, hv2, ht2⟩ := hA.getL (drop_at hd2).1
    have e12 := ((e1.trans e2).trans e3).trans e4
    obtain ⟨s, hs, hsp⟩ := tok_spelled T ht1
    refine s_appP (l := a2) (xs := xs2) (Post := FileAt K (mkU capV (k2.text, k3.text))) (e12 _ _ hR.l2) (ev_fld (ev_var rfl) (e12 _ _ hR.o) T.c_Record T.n_Record_inputs rfl) (ep_file (Ev.mono (H := H) e12 (Ev.mono minus_ex (hsp (ev_lstAt (i := i + 1) (ev_var rfl) (ev_op (ev_var rfl) ev_c rv_I0) hb hv1)))) (hs.mono (minus_ex.trans e12)) (ev_call_number (ev_lstAt (i := i + 2) (ev_var rfl) (ev_op (ev_var rfl) ev_c rv_I0) (e12 _ _ hbH) hv2) (tokH e12 ht2) hnum)) (by omega) fun x H5 e5 px => ?_
    have e13 := e12.trans e5
    have em : minus (upd H5 a2 (.lst (xs2 ++ [x]))) [L, p, a1, a2, a3] = minus H5 [L, p, a1, a2, a3] := minus_upd (by simp)
    refine k _ tl xs1 (xs2 ++ [x]) xs3 (by rw [em]; exact Ex.minus e13) (by rw [upd_ne hap.x2]; exact e13 _ _ hL) ?_
    rw [em, show fillR capV rc (kindS n kk) (k2 :: k3 :: r) = { rc with ins := rc.ins ++ [mkU capV (k2.text, k3.text)] } by rw [h3]; rfl]
    have eg := Ex.minus (M := [L, p, a1, a2, a3]) e13
    exact ⟨by rw [upd_ne ep2.symm]; exact e13 _ _ hR.o, by rw [upd_ne hap.y1]; exact e13 _ _ hR.l1, upd_same, by rw [upd_ne hap.y3.symm]; exact e13 _ _ hR.l3, hR.nm.mono eg, hR.tl.mono eg, hR.ar.mono mono_tx eg, (hR.i.mono mono_file eg).app (.one (file_minus px (e13 _ _ hL) (e13 _ _ hR.o) (e13 _ _ hR.l1) (e13 _ _ hR.l2) (e13 _ _ hR.l3))), hR.ou.mono mono_file eg⟩
  have n3 : kindS n kk ≠ "in" := of_decide_eq_false h3
  refine s_if (et_test (ev_eqS (ev_var rfl) ev_c)) (fun h4 H5 e5 => ?_) (fun h4 H5 e5 => ?_)
  · have h4 : kindS n kk = "out" := of_decide_eq_true h4
    obtain ⟨k2, k3, r, rfl, hnum⟩ := hok.2.1 (Or.inr h4)
    obtain ⟨g1, hd2⟩ := drop_at hd1
    obtain ⟨v1, hv1, ht1⟩ := hA.getL g1
    obtain ⟨v2, hv2, ht2⟩ := hA.getL (drop_at hd2).1
    have e12 := (((e1.trans e2).trans e3).trans e4).trans e5
    obtain ⟨s, hs, hsp⟩ := tok_spelled T ht1
    refine s_appP (l := a3) (xs := xs3) (Post := FileAt K (mkU capV (k2.text, k3.text))) (e12 _ _ hR.l3) (ev_fld (ev_var rfl) (e12 _ _ hR.o) T.c_Record T.n_Record_outputs rfl) (ep_file (Ev.mono (H := H) e12 (Ev.mono minus_ex (hsp (ev_lstAt (i := i + 1) (ev_var rfl) (ev_op (ev_var rfl) ev_c rv_I0) hb hv1)))) (hs.mono (minus_ex.trans e12)) (ev_call_number (ev_lstAt (i := i + 2) (ev_var rfl) (ev_op (ev_var rfl) ev_c rv_I0) (e12 _ _ hbH) hv2) (tokH e12 ht2) hnum)) (by omega) fun x H6 e6 px => ?_
    have e13 := e12.trans e6
    have em : minus (upd H6 a3 (.lst (xs3 ++ [x]))) [L, p, a1, a2, a3] = minus H6 [L, p, a1, a2, a3] := minus_upd (by simp)
    refine k _ tl xs1 xs2 (xs3 ++ [x]) (by rw [em]; exact Ex.minus e13) (by rw [upd_ne hap.x3]; exact e13 _ _ hL) ?_
    rw [em, show fillR capV rc (kindS n kk) (k2 :: k3 :: r) = { rc with outs := rc.outs ++ [mkU capV (k2.text, k3.text)] } by rw [h4]; rfl]
    have eg := Ex.minus (M := [L, p, a1, a2, a3]) e13
    exact ⟨by rw [upd_ne ep3.symm]; exact e13 _ _ hR.o, by rw [upd_ne hap.y2]; exact e13 _ _ hR.l1, by rw [upd_ne hap.y3]; exact e13 _ _ hR.l2, upd_same, hR.nm.mono eg, hR.tl.mono eg, hR.ar.mono mono_tx eg, hR.i.mono mono_file eg, (hR.ou.mono mono_file eg).app (.one (file_minus px (e13 _ _ hL) (e13 _ _ hR.o) (e13 _ _ hR.l1) (e13 _ _ hR.l2) (e13 _ _ hR.l3)))⟩
  have n4 : kindS n kk ≠ "out" := of_decide_eq_false h4
  refine s_when (et_test (ev_eqS (ev_var rfl) ev_c)) (fun h5 H6 e6 => ?_) (fun h5 H6 e6 => ?_)
  · have h5 : kindS n kk = "exit" := of_decide_eq_true h5
    obtain ⟨k2, r, rfl, hnum⟩ := hok.2.2 h5
    obtain ⟨v1, hv1, ht1⟩ := hA.getL (drop_at hd1).1
    have e12 := ((((e1.trans e2).trans e3).trans e4).trans e5).trans e6
    refine s_fld (y := .int (capV k2.text : Int)) (ev_call_number (ev_lstAt (i := i + 1) (ev_var rfl) (ev_op (ev_var rfl) ev_c rv_I0) (e12 _ _ hbH) hv1) (tokH e12 ht1) hnum) (ev_var rfl) (e12 _ _ hR.o) T.c_Record T.n_Record_status (show (7 : Nat) < 1000 by decide) fun H7 e7 => ?_
    have e13 := e12.trans e7
    have em : minus (upd H7 p (recO K rc.run dx nm tl a1 a2 a3 (capV k2.text))) [L, p, a1, a2, a3] = minus H7 [L, p, a1, a2, a3] := minus_upd (by simp)
    show Q .non (upd H7 p (recO K rc.run dx nm tl a1 a2 a3 (capV k2.text)))
    refine k _ tl xs1 xs2 xs3 (by rw [em]; exact Ex.minus e13) (by rw [upd_ne eLp]; exact e13 _ _ hL) ?_
    rw [em, show fillR capV rc (kindS n kk) (k2 :: r) = { rc with exit := capV k2.text } by rw [h5]; rfl]
    have eg := Ex.minus (M := [L, p, a1, a2, a3]) e13
    exact ⟨upd_same, by rw [upd_ne ep1]; exact e13 _ _ hR.l1, by rw [upd_ne ep2]; exact e13 _ _ hR.l2, by rw [upd_ne ep3]; exact e13 _ _ hR.l3, hR.nm.mono eg, hR.tl.mono eg, hR.ar.mono mono_tx eg, hR.i.mono mono_file eg, hR.ou.mono mono_file eg⟩
  · have n5 : kindS n kk ≠ "exit" := of_decide_eq_false h5
    have e13 := ((((e1.trans e2).trans e3).trans e4).trans e5).trans e6
    refine k _ tl xs1 xs2 xs3 (Ex.minus e13) (e13 _ _ hL) ?_
    rw [show fillR capV rc (kindS n kk) rest = rc by unfold fillR; rw [if_neg n1, if_neg n2, if_neg n3, if_neg n4, if_neg n5]]
    exact hR.mono e13 (Ex.minus e13)
end
end Bl

-- part W13
set_option Elab.async false
set_option linter.all false
set_option maxRecDepth 100000
set_option maxHeartbeats 4000000
namespace Bl
open PySem PySem.Spec PyProof.Rows L2 Evl
open Vabldo (valueOf)
/-! ### what stands behind a token, where the tokens are a log -/
theorem step_mem {S x c : Str} (h : stepOf S x = some c) : ∃ e ∈ ents, e.b = x ∧ e.v = c := by
  unfold stepOf at h
  cases hf : ents.find? (fun e => decide (e.key = [Sum.inr S, Sum.inr x])) with
  | none => rw [hf] at h; cases h
  | some e =>
    rw [hf] at h
    have hk0 := List.find?_some hf
    have hk : e.key = [Sum.inr S, Sum.inr x] := of_decide_eq_true hk0
    unfold Hd.Ent.key at hk
    simp only [List.cons.injEq, Sum.inr.injEq, and_true] at hk
    exact ⟨e, List.mem_of_find?_eq_some hf, hk.2, Option.some.inj h⟩
theorem mis_tail {n : Nat} {S : Str} {k : Vabldo.Tok} {r : List Vabldo.Tok} (h : mis n S (k :: r) = none) : ∃ S', stepOf S (kindS n k) = some S' ∧ mis n S' r = none := by
  cases hs : stepOf S (kindS n k) with
  | none =>
    rw [mis_no hs] at h
    cases h
  | some S' =>
    rw [mis_yes rfl hs] at h
    exact ⟨S', rfl, h⟩
theorem look {n : Nat} {S x S' b S'' : Str} {k : Vabldo.Tok} {r : List Vabldo.Tok} (hv : ∀ e ∈ ents, e.b = x → e.v = S') (h1 : rowsOf S' = [pr b S'']) (hb : b ≠ "over" ∧ b ≠ "none") (hc : Cp r) (hk : kindS n k = x) (hm : mis n S (k :: r) = none) : ∃ k2 r2, r = k2 :: r2 ∧ kindS n k2 = b ∧ Wf k2 ∧ Cp r2 ∧ mis n S'' r2 = none := by
  obtain ⟨S1, hs, hm1⟩ := mis_tail hm
  rw [hk] at hs
  obtain ⟨e, he, e1, e2⟩ := step_mem hs
  have := hv e he e1
  rw [e2] at this
  subst this
  by_cases h2 : kindS n (Vabldo.next r) = b
  · obtain ⟨k2, r2, rfl, hc2, w2, e2⟩ := cp_next hc h2 hb
    rw [mis_yes e2 (by rw [row1 h1, if_pos rfl])] at hm1
    exact ⟨k2, r2, rfl, e2, w2, hc2, hm1⟩
  · rw [mis_bad hc (by rw [row1 h1, if_neg h2])] at hm1
    cases hm1
theorem v_run : ∀ e ∈ ents, e.b = "run" → e.v = "record" := by decide +kernel
theorem v_kept : ∀ e ∈ ents, e.b = "kept" → e.v = "record" := by decide +kernel
theorem v_end : ∀ e ∈ ents, e.b = "end" → e.v = "end" := by decide +kernel
theorem v_tool : ∀ e ∈ ents, e.b = "tool" → e.v = "tool" := by decide +kernel
theorem v_arg : ∀ e ∈ ents, e.b = "arg" → e.v = "arg" := by decide +kernel
theorem v_in : ∀ e ∈ ents, e.b = "in" → e.v = "in" := by decide +kernel
theorem v_out : ∀ e ∈ ents, e.b = "out" → e.v = "out" := by decide +kernel
theorem v_exit : ∀ e ∈ ents, e.b = "exit" → e.v = "exit" := by decide +kernel
theorem cp_tail {n : Nat} {k : Vabldo.Tok} {r : List Vabldo.Tok} (h : Cp (k :: r)) (hk : kindS n k ≠ "over" ∧ kindS n k ≠ "none") : Cp r := by
  cases h with
  | last h0 =>
    rw [kind0 h0] at hk
    split at hk
    · exact absurd rfl hk.1
    · exact absurd rfl hk.2
  | cons _ _ hc => exact hc
theorem cp_tail' {k : Vabldo.Tok} {r : List Vabldo.Tok} (h : Cp (k :: r)) : r = [] ∨ Cp r := by
  cases h with
  | last h0 => exact Or.inl rfl
  | cons _ _ hc => exact Or.inr hc
theorem fill_ok {n : Nat} {S : Str} {k : Vabldo.Tok} {r : List Vabldo.Tok} (hc : Cp (k :: r)) (hm : mis n S (k :: r) = none) : FillOk n k r := by
  refine ⟨fun h => ?_, fun h => ?_, fun h => ?_⟩
  · rcases h with h | h
    · obtain ⟨k2, r2, e, _⟩ := look v_tool rw_tool (by decide) (cp_tail hc (by rw [h]; decide)) h hm
      exact ⟨k2, r2, e⟩
    · obtain ⟨k2, r2, e, _⟩ := look v_arg rw_arg (by decide) (cp_tail hc (by rw [h]; decide)) h hm
      exact ⟨k2, r2, e⟩
  · rcases h with h | h
    · obtain ⟨k2, r2, rfl, e2, w2, c2, m2⟩ := look v_in rw_in (by decide) (cp_tail hc (by rw [h]; decide)) h hm
      by_cases h3 : kindS n (Vabldo.next r2) = "number"
      · obtain ⟨k3, r3, rfl, c3, w3, e3⟩ := cp_next c2 h3 (by decide)
        exact ⟨k2, k3, r3, rfl, num_of w3 e3⟩
      · rw [mis_bad c2 (by rw [row1 rw_inN, if_neg h3])] at m2
        cases m2
    · obtain ⟨k2, r2, rfl, e2, w2, c2, m2⟩ := look v_out rw_out (by decide) (cp_tail hc (by rw [h]; decide)) h hm
      by_cases h3 : kindS n (Vabldo.next r2) = "number"
      · obtain ⟨k3, r3, rfl, c3, w3, e3⟩ := cp_next c2 h3 (by decide)
        exact ⟨k2, k3, r3, rfl, num_of w3 e3⟩
      · rw [mis_bad c2 (by rw [row1 rw_outN, if_neg h3])] at m2
        cases m2
  · obtain ⟨k2, r2, rfl, e2, w2, _⟩ := look v_exit rw_exit (by decide) (cp_tail hc (by rw [h]; decide)) h hm
    exact ⟨k2, r2, rfl, num_of w2 e2⟩
def rcN (r : Vabldo.Record) : Nat := r.args.length + r.ins.length + r.outs.length
theorem fill_len (v : List Nat → Nat) (rc : Vabldo.Record) (k : Str) (r : List Vabldo.Tok) : rcN (fillR v rc k r) ≤ rcN rc + 1 := by
  unfold fillR rcN
  split
  · simp
  · split
    · simp; omega
    · split
      · simp; omega
      · split
        · simp; omega
        · split <;> simp
abbrev sp_build (K : PySem.W.Frag) : Sp := spR fun vs H Post => ∃ (b : Addr) (bs : List V) (n : Nat) (ks : List Vabldo.Tok), vs = [.ref b] ∧ H b = some (.lst bs) ∧ All2 (fun k v => TokAt K n k v H) ks bs ∧ Cp ks ∧ mis n "log" ks = none ∧ ks.length ≤ 20000 ∧ Post = LogAt K { records := (bld n capV ([], 0) ks).1, told := (bld n capV ([], 0) ks).2 }
section
variable {w : World} {K : PySem.W.Frag} {mg : Str → Option Value} {base : Heap} {σ : L2.St} {H : Hp} {ta tb tc tv' : TE} {v y : V} {D : Ends}
/-- what is appended is made by te -/
theorem tDrop_app {l : Addr} {xs : List V} {te : TE} (hl : H l = some (.lst xs)) (ha : Ev ta σ H (.ref l)) (hz : xs.length < 16000000) (h : ∀ H1, Ex H H1 → ∀ Q : VK, (∀ v H2, H2 l = some (.lst xs) → D.nx σ (upd H2 l (.lst (xs ++ [v]))) → Q v H2) → te σ H1 Q) : tDrop (tBM K "list" rAppend ta (tCons te tNil)) D σ H :=
  ha H (Ex.refl H) _ fun H1 e1 => ⟨Or.inl ⟨rfl, xs, sq_of (e1 l _ hl)⟩, h H1 e1 _ fun v H2 h2 k => ⟨l, xs, v, rfl, rfl, h2, Nat.lt_trans hz (by decide), k⟩⟩
theorem s_dropCall {sp : Sp} {E : XK} {ta : TA} {vs : List V} (h : EvA ta σ H vs) (hs : ∀ H1, Ex H H1 → sp vs H1 (fun _ H2 => D.nx σ H2) E) : tDrop (tCall sp [] E ta) D σ H := h H (Ex.refl H) _ fun H1 e1 => by
  rw [List.append_nil]
  exact hs H1 e1
/-- a record begun -/
theorem em_record {E : XK} {run : Bool} {nm : Addr} (h1 : Ev ta σ H (.str (if run = true then ("run" : Str) else ("kept" : Str)))) (h2 : Ev tb σ H (.ref nm)) :
    ∀ H1, Ex H H1 → ∀ Q : VK, (∀ (x dx tl a1 a2 a3 : Addr) (H2 : Hp), H1 x = none → H1 a1 = none → H1 a2 = none → H1 a3 = none → a1 ≠ a2 → a1 ≠ a3 → a2 ≠ a3 → Ex H1 H2 → H2 x = some (recO K run dx nm tl a1 a2 a3 0) → H2 tl = some (.tup []) → H2 a1 = some (.lst []) → H2 a2 = some (.lst []) → H2 a3 = some (.lst []) → Q (.ref x) H2) →
      tMake (He.ga K "Record") (sp_Record K) [] E (tCons ta (tCons tb tNil)) σ H1 Q := fun H1 e Q q =>
  h1 H1 e _ fun H2 e2 => h2 H2 (e.trans e2) _ fun H3 e3 x dx hx hd hne => ⟨x, dx, nm, run, rfl, upd_same, fun H4 tl a1 a2 a3 em htl ha1 ha2 ha3 n12 n13 n23 o1 o2 o3 o4 o5 => ⟨rfl, by
    have back : ∀ {a : Addr}, upd (upd H3 dx (.own x)) x (.ins (He.ga K "Record") dx []) a = none → H3 a = none := fun {a} ha => by
      have nx : a ≠ x := fun z => by
        rw [z, upd_same] at ha
        cases ha
      rw [upd_ne nx] at ha
      have nd : a ≠ dx := fun z => by
        rw [z, upd_same] at ha
        cases ha
      rw [upd_ne nd] at ha
      exact ha
    refine q x dx tl a1 a2 a3 H4 (fresh_back (e2.trans e3) hx) (fresh_back (e2.trans e3) (back ha1)) (fresh_back (e2.trans e3) (back ha2)) (fresh_back (e2.trans e3) (back ha3)) n12 n13 n23 ?_ o1 o2 o3 o4 o5
    intro a o ha
    have ha3 := (e2.trans e3) _ _ ha
    have nx : a ≠ x := ne_of_none ha3 hx
    have nd : a ≠ dx := ne_of_none ha3 hd
    refine em a o (minus_get ?_ (by simpa using nx))
    rw [upd_ne nx, upd_ne nd]
    exact ha3⟩⟩
theorem ep_log {l : Vabldo.Log} {E : XK} {rl : Addr} {rs : List V} (h1 : Ev ta σ H (.ref rl)) (hr : H rl = some (.lst rs)) (hA : All2 (fun r v => RecAt K r v H) l.records rs) (h2 : Ev tb σ H (.int (l.told : Int))) : EvP (tMake (He.ga K "Log") (sp_Log K) [] E (tCons ta (tCons tb tNil))) σ H (LogAt K l) := by
  refine EvP.imp (ep_make (PA := fun as H1 => as = [.ref rl, .int (l.told : Int)] ∧ H1 rl = some (.lst rs) ∧ All2 (fun r v => RecAt K r v H1) l.records rs) (fun H1 e Q q => h1 H1 e _ fun H2 e2 => h2 H2 (e.trans e2) _ fun H3 e3 => q _ H3 (e2.trans e3) ⟨rfl, ((e.trans e2).trans e3) _ _ hr, hA.mono mono_rec ((e.trans e2).trans e3)⟩) ?_ ?_) ?_
  · rintro as H1 ⟨rfl, _⟩
    rfl
  · rintro as H1 H2 e ⟨rfl, h, hA⟩
    exact ⟨rfl, e _ _ h, hA.mono mono_rec e⟩
  · rintro v H1 e ⟨x, dx, as, rfl, hx, rfl, hs, hA⟩
    exact ⟨x, dx, rl, rs, rfl, hx, hs, hA⟩
theorem ex_minus {H0 H' : Hp} {M : List Addr} (e : Ex H0 H') (h : ∀ m ∈ M, H0 m = none) : Ex H0 (minus H' M) := fun a o ha => minus_get (e _ _ ha) fun hm => by
  rw [h a hm] at ha
  cases ha
/-- where the records stand -/
def Recs (K : PySem.W.Frag) (H0 : Hp) (L : Addr) (i : Nat) (recs : List Vabldo.Record) (vs : List V) (H : Hp) : Prop := (recs = [] ∧ vs = []) ∨ ∃ (rs : List Vabldo.Record) (rc : Vabldo.Record) (vs0 : List V) (p dx nm tl a1 a2 a3 : Addr) (xs1 xs2 xs3 : List V),
  recs = rs ++ [rc] ∧ vs = vs0 ++ [.ref p] ∧ All2 (fun r v => RecAt K r v (minus H [L, p, a1, a2, a3])) rs vs0 ∧ RecX K rc p dx nm tl a1 a2 a3 xs1 xs2 xs3 H (minus H [L, p, a1, a2, a3]) ∧ Apart L a1 a2 a3 ∧ H0 p = none ∧ H0 a1 = none ∧ H0 a2 = none ∧ H0 a3 = none ∧ rcN rc ≤ i
theorem Recs.step {H0 H H' : Hp} {L : Addr} {i : Nat} {recs : List Vabldo.Record} {vs : List V} (h : Recs K H0 L i recs vs H) (e : Ex H H') : Recs K H0 L (i + 1) recs vs H' := by
  rcases h with h | ⟨rs, rc, vs0, p, dx, nm, tl, a1, a2, a3, xs1, xs2, xs3, h1, h2, h3, h4, h5, h6, h7, h8, h9, h10⟩
  · exact Or.inl h
  · exact Or.inr ⟨rs, rc, vs0, p, dx, nm, tl, a1, a2, a3, xs1, xs2, xs3, h1, h2, h3.mono mono_rec (Ex.minus e), h4.mono e (Ex.minus e), h5, h6, h7, h8, h9, by omega⟩
theorem Recs.keep {H0 H H' : Hp} {L : Addr} {i : Nat} {recs : List Vabldo.Record} {vs : List V} (h : Recs K H0 L i recs vs H) (e : Ex H H') : Recs K H0 L i recs vs H' := by
  rcases h with h | ⟨rs, rc, vs0, p, dx, nm, tl, a1, a2, a3, xs1, xs2, xs3, h1, h2, h3, h4, h5, h6, h7, h8, h9, h10⟩
  · exact Or.inl h
  · exact Or.inr ⟨rs, rc, vs0, p, dx, nm, tl, a1, a2, a3, xs1, xs2, xs3, h1, h2, h3.mono mono_rec (Ex.minus e), h4.mono e (Ex.minus e), h5, h6, h7, h8, h9, h10⟩
/-- all of them, the list left out -/
theorem Recs.all {H0 H : Hp} {L : Addr} {i : Nat} {recs : List Vabldo.Record} {vs Ls : List V} (h : Recs K H0 L i recs vs H) (hL : H L = some (.lst Ls)) : All2 (fun r v => RecAt K r v (minus H [L])) recs vs := by
  rcases h with ⟨rfl, rfl⟩ | ⟨rs, rc, vs0, p, dx, nm, tl, a1, a2, a3, xs1, xs2, xs3, rfl, rfl, h3, h4, h5, _⟩
  · exact .nil
  · have e : Ex (minus H [L, p, a1, a2, a3]) (minus H [L]) := fun a o ha => by
      obtain ⟨n, ha⟩ := minus_some ha
      exact minus_get ha fun z => n (by simp at z; simp [z])
    refine (h3.mono mono_rec e).app (.one ⟨p, dx, nm, tl, a1, a2, a3, xs1, xs2, xs3, rfl, ?_⟩)
    exact ⟨minus_get h4.o (by rw [List.mem_singleton]; exact ne_of h4.o hL (by intro z; cases z)), minus_get h4.l1 (by rw [List.mem_singleton]; exact h5.x1.symm), minus_get h4.l2 (by rw [List.mem_singleton]; exact h5.x2.symm), minus_get h4.l3 (by rw [List.mem_singleton]; exact h5.x3.symm), h4.nm.mono e, h4.tl.mono e, h4.ar.mono mono_tx e, h4.i.mono mono_file e, h4.ou.mono mono_file e⟩
theorem sc_build : FnScope ["tokens", "records", "total", "i", "kind"] ["tokens"] (defScope s_build) := ⟨rfl, rfl, rfl, by decide +kernel, rfl, by decide +kernel, by decide +kernel⟩
theorem ok_build (T : Txt w K mg) (H_Record : HasC P0 w K mg base "Record" 1 ["self", "way", "name"] (sp_Record K) ["way", "name", "tool", "arguments", "inputs", "outputs", "status"]) (H_number_of : Has P0 w K mg base "number_of" 1 ["token"] (sp_number_of K)) (H_fill : Has P0 w K mg base "fill" 3 ["record", "tokens", "i"] (sp_fill K)) (H_Log : HasC P0 w K mg base "Log" 1 ["self", "records", "total"] (sp_Log K) ["records", "total"]) : Has P0 w K mg base "build" 4 ["tokens"] (sp_build K) := by
  refine has_of T.f_build T.g_build sc_build (fun _ _ _ _ _ _ us hl => match us, hl with | [_], _ => rfl) (fun vs H Q E h => by obtain ⟨_, ⟨b, bs, n, ks, rfl, hb, hA, hcp, hmis, hz, rfl⟩, _⟩ := h; rfl) (fun cdv A outer s H vs Q E hr h => ⟨_, PSs.nox (pss_cons (ps_set (i := 1) sc_build.nd rfl (Or.inl rfl) (pe_lst pa_nil)) (pss_cons (ps_set (i := 2) sc_build.nd rfl (Or.inl rfl) pe_int) (pss_cons (ps_for PassesOwn.never rfl (pi_range1 rfl T.b_range (pa_cons (pe_callB call_len_seq (by rfl) T.b_len PySem.boot_len (pa_cons (pv 0) pa_nil)) pa_nil)) (pg_name (i := 3) sc_build.nd rfl (Or.inl rfl)) (pss_cons (ps_set (i := 4) sc_build.nd rfl (Or.inl rfl) (pe_fld (pe_ix ix_list (pv 0) (pv 3) (fun _ _ => rfl)) rfl)) (pss_one (ps_if (PW.pt (pw_or (pt_cmpR op_eq (pv 4) pe_str (nomark _)) (pw_or1 (pt_cmpR op_eq (pv 4) pe_str (nomark _))))) (pss_one (ps_expr (pe_bm PySem.F.plainAttrs_list PySem.F.slot_list_append PySem.F.type_list_append mt_append (pv 1) (pa_cons (pe_hc H_Record (by exact hr.mono (by decide)) (by rfl) (pa_cons (pv 4) (pa_cons (pe_fld (pe_ix ix_list (pv 0) (pe_op op_add (pv 3) pe_int) (fun _ _ => rfl)) rfl) pa_nil))) pa_nil)))) (pss_one (ps_if (pt_cmpR op_eq (pv 4) pe_str (nomark _)) (pss_one (ps_set (i := 2) sc_build.nd rfl (Or.inl rfl) (pe_h H_number_of (by exact hr.mono (by decide)) (by rfl) (pa_cons (pe_ix ix_list (pv 0) (pe_op op_add (pv 3) pe_int) (fun _ _ => rfl)) pa_nil)))) (pss_one (ps_if (pt_cmpR op_gt (pe_callB call_len_seq (by rfl) T.b_len PySem.boot_len (pa_cons (pv 1) pa_nil)) pe_int (nomark _)) (pss_one (ps_expr (pe_h H_fill (by exact hr.mono (by decide)) (by rfl) (pa_cons (pe_ix ix_list (pv 1) (pe_un un_neg pe_int) (fun _ _ => rfl)) (pa_cons (pv 0) (pa_cons (pv 3) pa_nil)))))) pss_nil)))))))) (pss_one (ps_ret (pe_hc H_Log (by exact hr.mono (by decide)) (by rfl) (pa_cons (pv 1) (pa_cons (pv 2) pa_nil)))))))), ?_⟩)
  obtain ⟨_, ⟨b, bs, n, ks, rfl, hb, hA, hcp, hmis, hz, rfl⟩, k⟩ := h
  refine q_asgL (el_lst ea_nil (by decide)) fun L H1 hL e1 h1 => ?_
  refine q_asg ev_c fun H2 e2 => ?_
  have hlen : bs.length = ks.length := hA.len.symm
  refine q_forR1 (n := ((bs.length : Nat) : Int)) (ea_cons (ev_lenLs (ev_var rfl) ((e1.trans e2) _ _ hb)) ea_nil) (by omega) (fun i σ' H' => ∃ (recs : List Vabldo.Record) (td : Nat) (vs : List V) (y z : Option V), σ' = [some (.ref b), some (.ref L), some (.int (td : Int)), y, z] ∧ bld n capV (recs, td) (ks.drop i) = bld n capV ([], 0) ks ∧ (∃ S, mis n S (ks.drop i) = none) ∧ (ks.drop i = [] ∨ Cp (ks.drop i)) ∧ Ex H H' ∧ H' L = some (.lst vs) ∧ vs.length ≤ i ∧ Recs K H L i recs vs H')
    (fun H3 e3 => ⟨[], 0, [], _, _, rfl, rfl, ⟨"log", hmis⟩, Or.inr hcp, (e1.trans e2).trans e3, (e2.trans e3) _ _ h1, Nat.le_refl _, Or.inl ⟨rfl, rfl⟩⟩) (fun i σ' H' hi hP => ?_) (fun σ' H' hP => ?_)
  · obtain ⟨recs, td, vs, y, z, rfl, hbld, ⟨S, hm⟩, hc, e3, hL3, hvl, hR⟩ := hP
    have hik : i < ks.length := by omega
    obtain ⟨kk, hkk, hd⟩ := at_of hik
    have hc : Cp (ks.drop i) := hc.resolve_left (by rw [hd]; simp)
    rw [hd] at hc hm hbld
    have hbH : H' b = some (.lst bs) := e3 _ _ hb
    obtain ⟨v0, hv0, ht0⟩ := hA.getL hkk
    obtain ⟨S1, hs1, hm1⟩ := mis_tail hm
    have hbld1 : bld n capV (bstep capV (recs, td) (kindS n kk) (ks.drop (i + 1))) (ks.drop (i + 1)) = bld n capV ([], 0) ks := hbld
    refine q_asg (ev_kind T (ev_lstAt (ev_var rfl) (ev_var rfl) hbH hv0) (mono_tok _ _ _ _ e3 ht0)) fun H4 e4 => ?_
    refine s_if (et_or (et_test (ev_eqS (ev_var rfl) ev_c)) fun _ => et_test (ev_eqS (ev_var rfl) ev_c)) (fun hk H5 e5 => ?_) (fun hk H5 e5 => ?_)
    · have hk : kindS n kk = "run" ∨ kindS n kk = "kept" := by
        rw [Bool.or_eq_true, decide_eq_true_eq, decide_eq_true_eq] at hk
        exact hk
      have hcr : Cp (ks.drop (i + 1)) := cp_tail hc (by rcases hk with hk | hk <;> rw [hk] <;> decide)
      obtain ⟨k2, r2, er, e2k, w2, c2, m2⟩ : ∃ k2 r2, ks.drop (i + 1) = k2 :: r2 ∧ kindS n k2 = "name" ∧ Wf k2 ∧ Cp r2 ∧ mis n "record name" r2 = none := by
        rcases hk with hk | hk
        · exact look v_run rw_record (by decide) hcr hk hm
        · exact look v_kept rw_record (by decide) hcr hk hm
      obtain ⟨v1, hv1, ht1⟩ := hA.getL (drop_at er).1
      obtain ⟨s1, hs1', hsp⟩ := tok_spelled T ht1
      have e35 := (e3.trans e4).trans e5
      have hkk' : kindS n kk = if decide (kindS n kk = "run") = true then ("run" : Str) else ("kept" : Str) := by
        rcases hk with hk | hk
        · rw [hk]; rfl
        · rw [hk]; rfl
      have hbs : bstep capV (recs, td) (kindS n kk) (ks.drop (i + 1)) = (recs ++ [{ run := decide (kindS n kk = "run"), name := k2.text, tool := [], args := [], ins := [], outs := [], exit := 0 }], td) := by
        unfold bstep
        rw [if_pos hk, er]
        rfl
      have hL5 := (e4.trans e5) _ _ hL3
      have eL : Ex H H5 := e35
      refine (tDrop_app hL5 (ev_var rfl) (by omega) fun H6 e6 Q6 q6 => ?_)
      refine em_record (H := H5) (run := decide (kindS n kk = "run")) (nm := s1) (ev_is (ev_var rfl) (congrArg V.str hkk')) (Ev.mono e35 (hsp (ev_lstAt (i := i + 1) (ev_var rfl) (ev_op (ev_var rfl) ev_c rv_I0) hb hv1))) H6 e6 _ fun x dx tl a1 a2 a3 H7 hx ha1 ha2 ha3 n12 n13 n23 e7 o1 o2 o3 o4 o5 => ?_
      have hL7 := (e6.trans e7) _ _ hL5
      have nL : ∀ {a : Addr}, H6 a = none → L ≠ a := fun ha => ne_of_none (e6 _ _ hL5) ha
      refine q6 _ _ hL7 ?_
      have e37 := (e35.trans e6).trans e7
      have hrs := bld n capV
      refine ⟨recs ++ [{ run := decide (kindS n kk = "run"), name := k2.text, tool := [], args := [], ins := [], outs := [], exit := 0 }], td, vs ++ [.ref x], _, _, rfl, by rw [← hbs]; exact hbld1, ⟨S1, hm1⟩, Or.inr hcr, Ex.mut e37 hL, upd_same, by rw [List.length_append, List.length_singleton]; omega, ?_⟩
      have f0 : ∀ {a : Addr}, H6 a = none → H a = none := fun ha => fresh_back (e35.trans e6) ha
      have eM : Ex (minus H5 [L]) (minus (upd H7 L (.lst (vs ++ [.ref x]))) [L, x, a1, a2, a3]) := by
        rw [minus_upd (by simp)]
        intro a o ha
        obtain ⟨na, ha⟩ := minus_some ha
        have ha6 := e6 _ _ ha
        refine minus_get (e7 _ _ ha6) ?_
        simp only [List.mem_cons, List.not_mem_nil, or_false] at na ⊢
        exact fun z => z.elim na fun z => z.elim (ne_of_none ha6 hx) fun z => z.elim (ne_of_none ha6 ha1) fun z => z.elim (ne_of_none ha6 ha2) (ne_of_none ha6 ha3)
      have hpL : x ≠ L := (nL hx).symm
      have eT : Ex H (minus (upd H7 L (.lst (vs ++ [.ref x]))) [L, x, a1, a2, a3]) := ex_minus (Ex.mut e37 hL) (by
        intro m hm
        simp only [List.mem_cons, List.not_mem_nil, or_false] at hm
        rcases hm with rfl | rfl | rfl | rfl | rfl
        · exact hL
        · exact f0 hx
        · exact f0 ha1
        · exact f0 ha2
        · exact f0 ha3)
      refine Or.inr ⟨recs, _, vs, x, dx, s1, tl, a1, a2, a3, [], [], [], rfl, rfl, ((hR.all hL3).mono mono_rec (Ex.minus (e4.trans e5))).mono mono_rec eM, ⟨?_, ?_, ?_, ?_, hs1'.mono eT, ?_, .nil, .nil, .nil⟩, ⟨nL ha1, nL ha2, nL ha3, n12, n13, n23⟩, f0 hx, f0 ha1, f0 ha2, f0 ha3, Nat.zero_le _⟩
      · rw [upd_ne hpL]; exact o1
      · rw [upd_ne (nL ha1).symm]; exact o3
      · rw [upd_ne (nL ha2).symm]; exact o4
      · rw [upd_ne (nL ha3).symm]; exact o5
      · have q : ∀ {m : Addr} {o : HO}, H7 m = some o → o ≠ .tup [] → tl ≠ m := fun hm ho => (ne_of hm o2 ho).symm
        rw [minus_upd (by simp)]
        refine minus_get o2 ?_
        simp only [List.mem_cons, List.not_mem_nil, or_false]
        exact fun z => z.elim (q hL7 (by intro z; cases z)) fun z => z.elim (q o1 (by intro z; cases z)) fun z => z.elim (q o3 (by intro z; cases z)) fun z => z.elim (q o4 (by intro z; cases z)) (q o5 (by intro z; cases z))
    · have hk : kindS n kk ≠ "run" ∧ kindS n kk ≠ "kept" := by
        rw [Bool.or_eq_false_iff, decide_eq_false_iff_not, decide_eq_false_iff_not] at hk
        exact hk
      refine s_if (et_test (ev_eqS (ev_var rfl) ev_c)) (fun hk2 H6 e6 => ?_) (fun hk2 H6 e6 => ?_)
      · have hk2 : kindS n kk = "end" := of_decide_eq_true hk2
        have hcr : Cp (ks.drop (i + 1)) := cp_tail hc (by rw [hk2]; decide)
        obtain ⟨k2, r2, er, e2k, w2, c2, m2⟩ := look v_end rw_end (by decide) hcr hk2 hm
        obtain ⟨v1, hv1, ht1⟩ := hA.getL (drop_at er).1
        have e36 := ((e3.trans e4).trans e5).trans e6
        have hbs : bstep capV (recs, td) (kindS n kk) (ks.drop (i + 1)) = (recs, capV k2.text) := by
          unfold bstep
          rw [if_neg (fun z => z.elim hk.1 hk.2), if_pos hk2, er]
          rfl
        refine s_asg (ev_call_number (ev_lstAt (i := i + 1) (ev_var rfl) (ev_op (ev_var rfl) ev_c rv_I0) (e36 _ _ hb) hv1) (mono_tok _ _ _ _ e36 ht1) (num_of w2 e2k)) fun H7 e7 => ?_
        exact ⟨recs, capV k2.text, vs, _, _, rfl, by rw [← hbs]; exact hbld1, ⟨S1, hm1⟩, Or.inr hcr, e36.trans e7, (((e4.trans e5).trans e6).trans e7) _ _ hL3, by omega, hR.step (((e4.trans e5).trans e6).trans e7)⟩
      · have hk3 : kindS n kk ≠ "end" := of_decide_eq_false hk2
        have e36 := ((e3.trans e4).trans e5).trans e6
        have hc' := cp_tail' hc
        refine s_when (et_test (ev_gt (ev_lenLs (ev_var rfl) (((e4.trans e5).trans e6) _ _ hL3)) ev_c)) (fun hg H7 e7 => ?_) (fun hg H7 e7 => ?_)
        · have e37 := e36.trans e7
          have e47 := ((e4.trans e5).trans e6).trans e7
          have hg' : 0 < vs.length := by
            have := of_decide_eq_true hg
            omega
          rcases hR.keep e47 with ⟨hr1, hr2⟩ | ⟨rs, rc, vs0, p, dx, nm, tl, a1, a2, a3, xs1, xs2, xs3, rfl, rfl, q3, q4, q5, q6, q7, q8, q9, q10⟩
          · rw [hr2] at hg'
            exact absurd hg' (by decide)
          have hlast : (vs0 ++ [V.ref p])[vs0.length]? = some (.ref p) := by simp
          have hneg : atI (vs0 ++ [V.ref p]) (-1) = some (.ref p) := by
            unfold atI ixN
            have hl : (vs0 ++ [V.ref p]).length = vs0.length + 1 := by simp
            rw [hl, if_neg (by omega), if_pos (by omega)]
            show (vs0 ++ [V.ref p])[(((vs0.length + 1 : Nat) : Int) + -1).toNat]? = _
            rw [show (((vs0.length + 1 : Nat) : Int) + -1).toNat = vs0.length by omega]
            exact hlast
          have hfr : ∀ m ∈ [L, p, a1, a2, a3], H m = none := by
            intro m hm
            simp only [List.mem_cons, List.not_mem_nil, or_false] at hm
            rcases hm with rfl | rfl | rfl | rfl | rfl
            · exact hL
            · exact q6
            · exact q7
            · exact q8
            · exact q9
          refine s_dropCall (ea_cons (ev_op (ev_var rfl) (ev_un ev_c ru_neg) (rv_ixL (sq_of (e47 _ _ hL3)) hneg)) (ea_cons (ev_var rfl) (ea_cons (ev_var rfl) ea_nil))) fun H8 e8 => ?_
          have e38 := e37.trans e8
          have eT : Ex H (minus H8 [L, p, a1, a2, a3]) := ex_minus e38 hfr
          refine ⟨L, p, dx, nm, tl, a1, a2, a3, b, vs0 ++ [.ref p], xs1, xs2, xs3, bs, rc, n, i, ks, kk, ks.drop (i + 1), rfl, (e47.trans e8) _ _ hL3, q4.mono e8 (Ex.minus e8), q5, eT _ _ hb, hA.mono mono_tok eT, hd, fill_ok hc hm, ?_, fun H9 tl' ys1 ys2 ys3 e9 hL9 hR9 => ?_⟩
          · have l1 := q4.ar.len
            have l2 := q4.i.len
            have l3 := q4.ou.len
            unfold rcN at q10
            omega
          · refine ⟨rs ++ [fillR capV rc (kindS n kk) (ks.drop (i + 1))], td, vs0 ++ [.ref p], _, _, rfl, ?_, ⟨S1, hm1⟩, hc', ?_, hL9, by omega, Or.inr ⟨rs, _, vs0, p, dx, nm, tl', a1, a2, a3, ys1, ys2, ys3, rfl, rfl, (q3.mono mono_rec (Ex.minus e8)).mono mono_rec e9, hR9, q5, q6, q7, q8, q9, ?_⟩⟩
            · rw [bstep_last ⟨hk.1, hk.2, hk3⟩] at hbld1
              exact hbld1
            · exact eT.trans (e9.trans minus_ex)
            · have := fill_len capV rc (kindS n kk) (ks.drop (i + 1))
              omega
        · have hvs : vs = [] := by
            have := of_decide_eq_false hg
            exact List.length_eq_zero_iff.mp (by omega)
          have hrec : recs = [] := by
            rcases hR with ⟨h, _⟩ | ⟨rs, rc, vs0, p, dx, nm, tl, a1, a2, a3, xs1, xs2, xs3, _, h, _⟩
            · exact h
            · rw [hvs] at h
              exact absurd h.symm (by simp)
          have hbs : bstep capV (recs, td) (kindS n kk) (ks.drop (i + 1)) = (recs, td) := by
            unfold bstep
            rw [if_neg (fun z => z.elim hk.1 hk.2), if_neg hk3, hrec]
            rfl
          exact ⟨recs, td, vs, _, _, rfl, by rw [← hbs]; exact hbld1, ⟨S1, hm1⟩, hc', e36.trans e7, (((e4.trans e5).trans e6).trans e7) _ _ hL3, by omega, hR.step (((e4.trans e5).trans e6).trans e7)⟩
  · obtain ⟨recs, td, vs, y, z, rfl, hbld, _, _, e3, hL3, _, hR⟩ := hP
    rw [Int.toNat_natCast, hlen, List.drop_length] at hbld
    have hbld : (recs, td) = bld n capV ([], 0) ks := hbld
    rw [← hbld] at k
    exact s_retP (ep_log (l := { records := recs, told := td }) (ev_var rfl) hL3 ((hR.all hL3).mono mono_rec minus_ex) (ev_var rfl)) fun v H4 e4 p => k v H4 (e3.trans e4) p
end
end Bl

-- part W14
set_option Elab.async false
set_option linter.all false
set_option maxRecDepth 100000
set_option maxHeartbeats 4000000
namespace Bl
open PySem PySem.Spec PyProof.Rows L2 Evl
open Vabldo (valueOf)
/-! ### limits; a log read -/
section
variable {α : Type} {w : World} {K : PySem.W.Frag} {mg : Str → Option Value} {base : Heap} {σ : L2.St} {H : Hp} {ta tb tc tl : TE} {v y : V} {D : Ends} {xs zs : List V} {M : List Addr} {l : List α} {A : α → V → Hp → Prop}
theorem el_cat {a b : Addr} (h1 : Ev ta σ H (.ref a)) (h2 : Ev tb σ H (.ref b)) (ha : H a = some (.lst xs)) (hb : H b = some (.lst zs)) (hz : xs.length + zs.length ≤ 16000000) : EvL (tOp rCat ta tb) σ H (xs ++ zs) := fun H1 e Q q =>
  h1 H1 e _ fun H2 e2 => h2 H2 (e.trans e2) _ fun H3 e3 => ⟨a, b, xs, zs, rfl, rfl, ((e.trans e2).trans e3) _ _ ha, ((e.trans e2).trans e3) _ _ hb, Nat.le_trans hz (by decide), fun p hp => q p _ (fresh_back (e2.trans e3) hp) ((e2.trans e3).trans (Ex.new hp)) upd_same⟩
theorem el_catL {a : Addr} (h1 : Ev ta σ H (.ref a)) (h2 : EvL tb σ H zs) (ha : H a = some (.lst xs)) (hz : xs.length + zs.length ≤ 16000000) : EvL (tOp rCat ta tb) σ H (xs ++ zs) := fun H1 e Q q =>
  h1 H1 e _ fun H2 e2 => h2 H2 (e.trans e2) _ fun b H3 _ e3 hb => ⟨a, b, xs, zs, rfl, rfl, ((e.trans e2).trans e3) _ _ ha, hb, Nat.le_trans hz (by decide), fun p hp => q p _ (fresh_back (e2.trans e3) hp) ((e2.trans e3).trans (Ex.new hp)) upd_same⟩
theorem el_catLL (h1 : EvL ta σ H xs) (h2 : EvL tb σ H zs) (hz : xs.length + zs.length ≤ 16000000) : EvL (tOp rCat ta tb) σ H (xs ++ zs) := fun H1 e Q q =>
  h1 H1 e _ fun a H2 _ e2 ha => h2 H2 (e.trans e2) _ fun b H3 _ e3 hb => ⟨a, b, xs, zs, rfl, rfl, e3 _ _ ha, hb, Nat.le_trans hz (by decide), fun p hp => q p _ (fresh_back (e2.trans e3) hp) ((e2.trans e3).trans (Ex.new hp)) upd_same⟩
theorem it_newL (h : EvL tl σ H zs) (hA : All2 (fun b x => A b x (minus H M)) l zs) (m : Mono A) (hM : ∀ b ∈ M, ∃ o, H b = some o) : ItA M (iList K tl) σ H l A :=
  it_new (fun H1 e Q q => h H1 e Q fun p H2 hp e2 h2 => q p zs H2 hp e2 h2 (hA.mono m (Ex.minus (e.trans e2)))) m hM
theorem ev_max {ns : List Int} {p : V → Prop} (h : EvL ta σ H (ns.map V.int)) (hl : 0 < ns.length) (hm : ∀ m ∈ ns, (∀ y ∈ ns, y ≤ m) → p (.int m)) : EvP (tCB (rMax K) (tCons ta tNil)) σ H (fun v _ => p v) := fun H1 e Q q =>
  h H1 e _ fun a H2 _ e2 ha => ⟨a, ns, rfl, sq_of ha, hl, fun m h1 h2 => q _ H2 e2 (hm m h1 h2)⟩
theorem ep_opl {r : R2} {p : V → Prop} {z : V} (h1 : EvP ta σ H (fun v _ => p v)) (h2 : Ev tb σ H y) (hr : ∀ x H1, p x → RV r x y H1 z) : Ev (tOp r ta tb) σ H z := fun H1 e Q q =>
  h1 H1 e _ fun x H2 e2 px => h2 H2 (e.trans e2) _ fun H3 e3 => hr x H3 px H3 (Ex.refl H3) Q fun H4 e4 => q H4 ((e2.trans e3).trans e4)
/-! the fields of files, records and logs -/
theorem ev_fnum {u : Vabldo.Used} (T : Txt w K mg) (h : Ev ta σ H v) (hf : FileAt K u v H) : Ev (tFld K ta "number") σ H (.int (u.number : Int)) := by
  obtain ⟨x, dx, s, rfl, hx, hs⟩ := hf
  exact ev_fld h hx T.c_File T.n_File_number rfl
theorem file_name {u : Vabldo.Used} (T : Txt w K mg) (hf : FileAt K u v H) : ∃ s, Tx H s u.file ∧ ∀ {ta : TE} {σ : L2.St}, Ev ta σ H v → Ev (tFld K ta "name") σ H (.ref s) := by
  obtain ⟨x, dx, s, rfl, hx, hs⟩ := hf
  exact ⟨s, hs, fun h => ev_fld h hx T.c_File T.n_File_name rfl⟩
theorem ep_fname {u : Vabldo.Used} (T : Txt w K mg) (h : Ev ta σ H v) (hf : FileAt K u v H) : EvP (tFld K ta "name") σ H (IsTx u.file) := by
  obtain ⟨s, hs, k⟩ := file_name T hf
  exact ev_tx (k h) hs
end
def recOk (r : Vabldo.Record) : Bool := decide (r.args.length ≤ 8) && (Vabldo.usedOk r.ins && (Vabldo.usedOk r.outs && decide (r.exit ≤ Vabldo.MOST)))
abbrev sp_record_above_limits (K : PySem.W.Frag) : Sp := spR fun vs H Post => ∃ (v : V) (r : Vabldo.Record), vs = [v] ∧ RecAt K r v H ∧ rcN r ≤ 20000 ∧ Post = fun x _ => x = .bl (!recOk r)
abbrev sp_above_limits (K : PySem.W.Frag) : Sp := spR fun vs H Post => ∃ (v : V) (l : Vabldo.Log), vs = [v] ∧ LogAt K l v H ∧ l.records.length ≤ 20000 ∧ (∀ r ∈ l.records, rcN r ≤ 20000) ∧ Post = fun x _ => x = .bl (!Vabldo.limits l)
section
variable {w : World} {K : PySem.W.Frag} {mg : Str → Option Value} {base : Heap} {σ : L2.St} {H : Hp} {ta tb tc tl : TE} {v y : V} {D : Ends}
theorem sc_record_above_limits : FnScope ["record", "numbers", "file"] ["record"] (defScope s_record_above_limits) := ⟨rfl, rfl, rfl, by decide +kernel, rfl, by decide +kernel, by decide +kernel⟩
theorem ok_record_above_limits (T : Txt w K mg)  : Has P0 w K mg base "record_above_limits" 1 ["record"] (sp_record_above_limits K) := by
  refine has_of T.f_record_above_limits T.g_record_above_limits sc_record_above_limits (fun _ _ _ _ _ _ us hl => match us, hl with | [_], _ => rfl) (fun vs H Q E h => by obtain ⟨_, ⟨v, r, rfl, hR, hz, rfl⟩, _⟩ := h; rfl) (fun cdv A outer s H vs Q E hr h => ⟨_, PSs.nox (pss_cons (ps_if (PW.pt (pw_or (pt_cmpR op_gt (pe_callB call_len_seq (by rfl) T.b_len PySem.boot_len (pa_cons (pe_fld (pv 0) rfl) pa_nil)) (pe_gi (by rfl) T.i_MOST_ROWS) (nomark _)) (pw_or (pt_cmpR op_gt (pe_callB call_len_seq (by rfl) T.b_len PySem.boot_len (pa_cons (pe_fld (pv 0) rfl) pa_nil)) (pe_gi (by rfl) T.i_MOST_ROWS) (nomark _)) (pw_or1 (pt_cmpR op_gt (pe_callB call_len_seq (by rfl) T.b_len PySem.boot_len (pa_cons (pe_fld (pv 0) rfl) pa_nil)) (pe_gi (by rfl) T.i_MOST_ROWS) (nomark _)))))) (pss_one (ps_ret pe_bl)) pss_nil) (pss_cons (ps_setLc (i := 1) (own := [("file", 2)]) (g := gName 2) (te := (tFld K (tVar 2) "number")) rfl sc_record_above_limits.nd rfl rfl (sw_true rfl rfl rfl (by decide +kernel)) (pi_list (pe_op op_cat (pe_fld (pv 0) rfl) (pe_fld (pv 0) rfl))) (blkOk_by (own := [("file", 2)]) (N := ["record", "numbers", "file"]) (sc := defScope s_record_above_limits) (by decide +kernel)) (fun _ _ _ _ _ => pg_name (i := 2) sc_record_above_limits.nd rfl (Or.inl rfl)) (fun _ _ _ _ _ => pts_nil) (fun _ _ _ _ _ => (pe_fld (pv 2) rfl))) (pss_one (ps_ret (pe_cmpR op_gt (pe_callB (cr_max rfl) (by rfl) T.b_max (by decide +kernel) (pa_cons (pe_op op_cat (pv 1) (pe_lst (pa_cons (pe_fld (pv 0) rfl) pa_nil))) pa_nil)) (pe_gi (by rfl) T.i_LARGEST_NUMBER) (nomark _)))))), ?_⟩)
  obtain ⟨_, ⟨v, r, rfl, hR, hz, rfl⟩, k⟩ := h
  obtain ⟨p, dx, nm, tl, a1, a2, a3, xs1, xs2, xs3, rfl, hX⟩ := hR
  have l1 := hX.ar.len
  have l2 := hX.i.len
  have l3 := hX.ou.len
  unfold rcN at hz
  refine q_when (b := decide (8 < r.args.length) || (decide (8 < r.ins.length) || decide (8 < r.outs.length))) (et_or (et_eq (et_test (ev_gt (ev_lenLs (ev_fld (ev_var rfl) hX.o T.c_Record T.n_Record_arguments rfl) hX.l1) ev_c)) (by rw [l1]; exact dec_lt 8 _)) fun _ => et_or (et_eq (et_test (ev_gt (ev_lenLs (ev_fld (ev_var rfl) hX.o T.c_Record T.n_Record_inputs rfl) hX.l2) ev_c)) (by rw [l2]; exact dec_lt 8 _)) fun _ => et_eq (et_test (ev_gt (ev_lenLs (ev_fld (ev_var rfl) hX.o T.c_Record T.n_Record_outputs rfl) hX.l3) ev_c)) (by rw [l3]; exact dec_lt 8 _)) (fun hb H1 e1 => ?_) (fun hb H1 e1 => ?_)
  · refine s_ret ev_c fun H2 e2 => k _ H2 (e1.trans e2) ?_
    simp only [Bool.or_eq_true, decide_eq_true_eq] at hb
    unfold recOk Vabldo.usedOk
    refine congrArg V.bl ?_
    symm
    rw [Bool.not_eq_true']
    rcases hb with hb | hb | hb
    · rw [decide_eq_false (by omega), Bool.false_and]
    · rw [decide_eq_false (p := r.ins.length ≤ 8) (by omega), Bool.false_and, Bool.false_and, Bool.and_false]
    · rw [decide_eq_false (p := r.outs.length ≤ 8) (by omega), Bool.false_and, Bool.false_and, Bool.and_false, Bool.and_false]
  · simp only [Bool.or_eq_false_iff, decide_eq_false_iff_not] at hb
    have hXm := hX.mono e1 e1
    refine q_asgL (el_map (l := r.ins ++ r.outs) (A := FileAt K) (fun u => V.int (u.number : Int)) (it_newL (el_cat (ev_fld (ev_var rfl) hXm.o T.c_Record T.n_Record_inputs rfl) (ev_fld (ev_var rfl) hXm.o T.c_Record T.n_Record_outputs rfl) hXm.l2 hXm.l3 (by omega)) (by rw [minus_nil]; exact hXm.i.app hXm.ou) mono_file (by simp)) (by rw [List.length_append]; omega) (fun _ => rfl) fun u x H2 _ _ hu => ev_fnum T (ev_var rfl) hu) fun q H2 hq e2 h2 => ?_
    have hXm := hXm.mono e2 e2
    have hfin : ∀ m : Int, m ∈ ((r.ins ++ r.outs).map fun u => (u.number : Int)) ++ [(r.exit : Int)] → (∀ y ∈ ((r.ins ++ r.outs).map fun u => (u.number : Int)) ++ [(r.exit : Int)], y ≤ m) → decide ((1000000000 : Int) < m) = !recOk r := by
      intro m hm hmax
      have ha1 : decide (r.args.length ≤ 8) = true := decide_eq_true (by omega)
      have ha2 : decide (r.ins.length ≤ 8) = true := decide_eq_true (by omega)
      have ha3 : decide (r.outs.length ≤ 8) = true := decide_eq_true (by omega)
      unfold recOk Vabldo.usedOk
      rw [ha1, ha2, ha3, Bool.true_and, Bool.true_and, Bool.true_and]
      by_cases hgt : (1000000000 : Int) < m
      · rw [decide_eq_true hgt]
        symm
        rw [Bool.not_eq_true']
        rcases List.mem_append.mp hm with hm | hm
        · obtain ⟨u, hu, rfl⟩ := List.mem_map.mp hm
          have hun : ¬ u.number ≤ Vabldo.MOST := by unfold Vabldo.MOST; omega
          rcases List.mem_append.mp hu with hu | hu
          · have hf : (r.ins.all fun u => decide (u.number ≤ Vabldo.MOST)) = false := List.all_eq_false.mpr ⟨u, hu, by simpa using hun⟩
            rw [hf, Bool.false_and]
          · have hf : (r.outs.all fun u => decide (u.number ≤ Vabldo.MOST)) = false := List.all_eq_false.mpr ⟨u, hu, by simpa using hun⟩
            rw [hf, Bool.false_and, Bool.and_false]
        · rw [List.mem_singleton] at hm
          have hun : ¬ r.exit ≤ Vabldo.MOST := by unfold Vabldo.MOST; omega
          rw [decide_eq_false hun, Bool.and_false, Bool.and_false]
      · rw [decide_eq_false hgt]
        symm
        rw [Bool.not_eq_false']
        have hall : ∀ u ∈ r.ins ++ r.outs, decide (u.number ≤ Vabldo.MOST) = true := fun u hu => by
          have := hmax (u.number : Int) (List.mem_append_left _ (List.mem_map.mpr ⟨u, hu, rfl⟩))
          exact decide_eq_true (by unfold Vabldo.MOST; omega)
        have hx := hmax (r.exit : Int) (by simp)
        rw [List.all_eq_true.mpr fun u hu => hall u (List.mem_append_left _ hu), List.all_eq_true.mpr fun u hu => hall u (List.mem_append_right _ hu), decide_eq_true (p := r.exit ≤ Vabldo.MOST) (by unfold Vabldo.MOST; omega)]
        rfl
    refine s_ret (v := .bl (!recOk r)) (ep_opl (p := fun x => ∃ m : Int, x = .int m ∧ decide ((1000000000 : Int) < m) = !recOk r) (ev_max (ns := ((r.ins ++ r.outs).map fun u => (u.number : Int)) ++ [(r.exit : Int)]) (by
      have h := el_catL (ta := tVar 1) (tb := tLst (tCons (tFld K (tVar 0) "status") tNil)) (σ := [some (.ref p), some (.ref q), none]) (H := H2) (ev_var rfl) (el_lst (ea_cons (ev_fld (ev_var rfl) hXm.o T.c_Record T.n_Record_status rfl) ea_nil) (show (1 : Nat) ≤ 100000 by decide)) h2 (by rw [List.length_map, List.length_append]; show _ + 1 ≤ _; omega)
      rw [List.map_append, List.map_map]
      exact h) (by simp; omega) fun m h1 h2 => ⟨m, rfl, hfin m h1 h2⟩) ev_c fun x H3 hx => by
        obtain ⟨m, rfl, hm⟩ := hx
        rw [← hm]
        exact rv_I0) fun H3 e3 => k _ H3 ((e1.trans e2).trans e3) rfl
theorem sc_above_limits : FnScope ["log", "record"] ["log"] (defScope s_above_limits) := ⟨rfl, rfl, rfl, by decide +kernel, rfl, by decide +kernel, by decide +kernel⟩
theorem ok_above_limits (T : Txt w K mg) (H_record_above_limits : Has P0 w K mg base "record_above_limits" 1 ["record"] (sp_record_above_limits K)) : Has P0 w K mg base "above_limits" 2 ["log"] (sp_above_limits K) := by
  refine has_of T.f_above_limits T.g_above_limits sc_above_limits (fun _ _ _ _ _ _ us hl => match us, hl with | [_], _ => rfl) (fun vs H Q E h => by obtain ⟨_, ⟨v, l, rfl, hLg, hz, hzr, rfl⟩, _⟩ := h; rfl) (fun cdv A outer s H vs Q E hr h => ⟨_, PSs.nox (pss_cons (ps_if (PW.pt (pw_or (pt_cmpR op_gt (pe_callB call_len_seq (by rfl) T.b_len PySem.boot_len (pa_cons (pe_fld (pv 0) rfl) pa_nil)) (pe_gi (by rfl) T.i_MOST_RECORDS) (nomark _)) (pw_or1 (pt_cmpR op_gt (pe_fld (pv 0) rfl) (pe_gi (by rfl) T.i_LARGEST_NUMBER) (nomark _))))) (pss_one (ps_ret pe_bl)) pss_nil) (pss_one (ps_ret (pe_callB (cr_any rfl) (by rfl) T.b_any (by decide +kernel) (pa_cons (pe_lc (own := [("record", 1)]) (g := gName 1) (te := (tCall _ [] E0 (tCons (tVar 1) tNil))) rfl sc_above_limits.nd (pi_list (pe_fld (pv 0) rfl)) (blkOk_by (own := [("record", 1)]) (N := ["log", "record"]) (sc := defScope s_above_limits) (by decide +kernel)) (fun _ _ _ _ _ => pg_name (i := 1) sc_above_limits.nd rfl (Or.inl rfl)) (fun _ _ _ _ _ => pts_nil) (fun _ _ _ _ _ => (pe_h H_record_above_limits (by exact hr.mono (by decide)) (by rfl) (pa_cons (pv 1) pa_nil)))) pa_nil))))), ?_⟩)
  obtain ⟨_, ⟨v, l, rfl, hLg, hz, hzr, rfl⟩, k⟩ := h
  obtain ⟨x, dx, rl, rs, rfl, hx, hrl, hA⟩ := hLg
  have hl := hA.len
  have elim : Vabldo.limits l = (decide (l.told ≤ Vabldo.MOST) && (decide (l.records.length ≤ 32) && l.records.all recOk)) := rfl
  refine q_when (b := decide (32 < l.records.length) || decide (Vabldo.MOST < l.told)) (et_or (et_eq (et_test (ev_gt (ev_lenLs (ev_fld (ev_var rfl) hx T.c_Log T.n_Log_records rfl) hrl) ev_c)) (by rw [hl]; exact dec_lt 32 _)) fun _ => et_eq (et_test (ev_gt (ev_fld (ev_var rfl) hx T.c_Log T.n_Log_total rfl) ev_c)) (dec_lt 1000000000 _)) (fun hb H1 e1 => ?_) (fun hb H1 e1 => ?_)
  · refine s_ret ev_c fun H2 e2 => k _ H2 (e1.trans e2) ?_
    simp only [Bool.or_eq_true, decide_eq_true_eq] at hb
    rw [elim]
    refine congrArg V.bl ?_
    symm
    rw [Bool.not_eq_true']
    rcases hb with hb | hb
    · rw [decide_eq_false (p := l.records.length ≤ 32) (by omega), Bool.false_and, Bool.and_false]
    · rw [decide_eq_false (p := l.told ≤ Vabldo.MOST) (by omega), Bool.false_and]
  · simp only [Bool.or_eq_false_iff, decide_eq_false_iff_not] at hb
    refine s_ret (ev_any (bs := l.records.map fun r => !recOk r) (by
      rw [List.map_map]
      exact el_map (l := l.records) (A := RecAt K) (V.bl ∘ fun r => !recOk r) (it_list (M := []) (ev_fld (ev_var rfl) (e1 _ _ hx) T.c_Log T.n_Log_records rfl) (e1 _ _ hrl) (by rw [minus_nil]; exact hA.mono mono_rec e1) mono_rec (by simp)) (by omega) (fun _ => rfl) fun r x H2 hr _ hx => ev_callR (ea_cons (ev_var rfl) ea_nil) fun H3 e3 => ⟨x, r, rfl, mono_rec _ _ _ _ e3 hx, hzr r hr, rfl⟩)) fun H2 e2 => k _ H2 (e1.trans e2) ?_
    rw [elim, any_id, decide_eq_true (p := l.told ≤ Vabldo.MOST) (by omega), decide_eq_true (p := l.records.length ≤ 32) (by omega), Bool.true_and, Bool.true_and]
    refine congrArg V.bl ?_
    rw [List.not_all_eq_any_not]
/-! a log read -/
theorem tk_len (n : Nat) : ∀ (m : Nat) (l : List Nat), l.length ≤ m → (TK n l).length ≤ l.length + 1 := by
  intro m
  induction m with
  | zero =>
    intro l h
    have : l = [] := List.length_eq_zero_iff.mp (by omega)
    subst this
    exact Nat.le_refl _
  | succ m ih =>
    intro l h
    rw [(TK_skip n l).1]
    cases hd : l.drop (sb false l) with
    | nil =>
      rw [TK_nil, List.length_singleton]
      omega
    | cons c r =>
      obtain ⟨h1, h2⟩ := sb_head l false c r hd
      have hl : (c :: r).length ≤ l.length := by rw [← hd, List.length_drop]; omega
      rw [TK_step n c r h1 h2]
      by_cases h0 : tokLen (c :: r) = 0
      · rw [if_pos h0, List.length_singleton]
        omega
      · rw [if_neg h0, List.length_cons]
        have hle := tokLen_le (c :: r)
        have := ih ((c :: r).drop (tokLen (c :: r))) (by rw [List.length_drop]; omega)
        rw [List.length_drop] at this
        omega
theorem mem_bld {qs : List RR} {r : Vabldo.Record} (h : r ∈ qs.map (recOf capV)) : ∃ q ∈ qs, r = recOf capV q := by
  obtain ⟨q, hq, e⟩ := List.mem_map.mp h
  exact ⟨q, hq, e.symm⟩
/-- cut numbers change neither the limits nor, within these, the log -/
theorem used_cap {l : List (Vabldo.Text × Vabldo.Text)} (h : ∀ p ∈ l, Vabldo.isName p.1 = true ∧ NumT p.2) : Vabldo.usedOk (l.map (mkU capV)) = Vabldo.usedOk (l.map (mkU valueOf)) ∧ (Vabldo.usedOk (l.map (mkU valueOf)) = true → l.map (mkU capV) = l.map (mkU valueOf)) := by
  unfold Vabldo.usedOk
  rw [List.length_map, List.length_map, List.all_map, List.all_map]
  have he : ∀ p ∈ l, decide ((mkU capV p).number ≤ Vabldo.MOST) = decide ((mkU valueOf p).number ≤ Vabldo.MOST) := fun p hp => by
    have := (cap_of (h p hp).2).1
    show decide (capV p.2 ≤ 1000000000) = decide (valueOf p.2 ≤ 1000000000)
    exact decide_eq_decide.mpr this
  have e2 : l.all ((fun u => decide (u.number ≤ Vabldo.MOST)) ∘ mkU capV) = l.all ((fun u => decide (u.number ≤ Vabldo.MOST)) ∘ mkU valueOf) := by
    rw [Bool.eq_iff_iff, List.all_eq_true, List.all_eq_true]
    exact ⟨fun q p hp => (he p hp).symm.trans (q p hp), fun q p hp => (he p hp).trans (q p hp)⟩
  refine ⟨by rw [e2], fun hk => ?_⟩
  rw [Bool.and_eq_true] at hk
  refine List.map_congr_left fun p hp => ?_
  have h1 := List.all_eq_true.mp hk.2 p hp
  unfold mkU
  rw [(cap_of (h p hp).2).2 (of_decide_eq_true h1)]
theorem rec_cap {q : RR} (h : q.Ok) : recOk (recOf capV q) = recOk (recOf valueOf q) ∧ (recOk (recOf valueOf q) = true → recOf capV q = recOf valueOf q) := by
  obtain ⟨i1, i2⟩ := used_cap h.i
  obtain ⟨o1, o2⟩ := used_cap h.o
  obtain ⟨x1, x2⟩ := cap_of h.x
  unfold recOk
  have ex : decide ((recOf capV q).exit ≤ Vabldo.MOST) = decide ((recOf valueOf q).exit ≤ Vabldo.MOST) := decide_eq_decide.mpr x1
  refine ⟨?_, fun hk => ?_⟩
  · rw [ex]
    show (_ && (Vabldo.usedOk (q.ins.map (mkU capV)) && (Vabldo.usedOk (q.outs.map (mkU capV)) && _))) = _
    rw [i1, o1]
    rfl
  · simp only [Bool.and_eq_true, decide_eq_true_eq] at hk
    obtain ⟨k1, k2, k3, k4⟩ := hk
    unfold recOf
    rw [i2 k2, o2 k3, x2 k4]
theorem log_cap {qs : List RR} {tt : Vabldo.Text} (h : ∀ q ∈ qs, q.Ok) (ht : NumT tt) : Vabldo.limits { records := qs.map (recOf capV), told := capV tt } = Vabldo.limits { records := qs.map (recOf valueOf), told := valueOf tt } ∧ (Vabldo.limits { records := qs.map (recOf valueOf), told := valueOf tt } = true → ({ records := qs.map (recOf capV), told := capV tt } : Vabldo.Log) = { records := qs.map (recOf valueOf), told := valueOf tt }) := by
  obtain ⟨t1, t2⟩ := cap_of ht
  have el : ∀ l : Vabldo.Log, Vabldo.limits l = (decide (l.told ≤ Vabldo.MOST) && (decide (l.records.length ≤ 32) && l.records.all recOk)) := fun _ => rfl
  rw [el, el]
  have e1 : decide (capV tt ≤ Vabldo.MOST) = decide (valueOf tt ≤ Vabldo.MOST) := decide_eq_decide.mpr t1
  have e2 : (qs.map (recOf capV)).all recOk = (qs.map (recOf valueOf)).all recOk := by
    rw [List.all_map, List.all_map, Bool.eq_iff_iff, List.all_eq_true, List.all_eq_true]
    exact ⟨fun z q hq => (rec_cap (h q hq)).1.symm.trans (z q hq), fun z q hq => (rec_cap (h q hq)).1.trans (z q hq)⟩
  refine ⟨?_, fun hk => ?_⟩
  · dsimp only
    rw [e1, e2, List.length_map, List.length_map]
  · simp only [Bool.and_eq_true, decide_eq_true_eq] at hk
    obtain ⟨k1, k2, k3⟩ := hk
    rw [t2 k1, List.map_congr_left fun q hq => (rec_cap (h q hq)).2 (List.all_eq_true.mp k3 _ (List.mem_map.mpr ⟨q, hq, rfl⟩))]
/-- how long what is built may be -/
theorem bld_len (n : Nat) (v : List Nat → Nat) : ∀ (ts : List Vabldo.Tok) (st : List Vabldo.Record × Nat) (m : Nat), st.1.length ≤ m → (∀ r ∈ st.1, rcN r ≤ m) → (bld n v st ts).1.length ≤ m + ts.length ∧ ∀ r ∈ (bld n v st ts).1, rcN r ≤ m + ts.length
  | [], st, m, h1, h2 => ⟨h1, h2⟩
  | k :: ts, st, m, h1, h2 => by
    have hs : (bstep v st (kindS n k) ts).1.length ≤ m + 1 ∧ ∀ r ∈ (bstep v st (kindS n k) ts).1, rcN r ≤ m + 1 := by
      unfold bstep
      split
      · refine ⟨by simp; omega, fun r hr => ?_⟩
        rcases List.mem_append.mp hr with hr | hr
        · have := h2 r hr
          omega
        · rw [List.mem_singleton.mp hr]
          exact Nat.zero_le _
      · split
        · exact ⟨by dsimp only; omega, fun r hr => by have := h2 r hr; omega⟩
        · split
          · exact ⟨by omega, fun r hr => by have := h2 r hr; omega⟩
          · rename_i rc hrc
            obtain ⟨l, hl⟩ := List.getLast?_eq_some_iff.mp hrc
            refine ⟨?_, fun r hr => ?_⟩
            · rw [hl] at h1 ⊢
              simp at h1 ⊢
              omega
            · rcases List.mem_append.mp hr with hr | hr
              · have := h2 r ((List.dropLast_sublist _).subset hr)
                omega
              · rw [List.mem_singleton.mp hr]
                have h3 := fill_len v rc (kindS n k) ts
                have h4 := h2 rc (by rw [hl]; simp)
                omega
    have := bld_len n v ts (bstep v st (kindS n k) ts) (m + 1) hs.1 hs.2
    rw [List.length_cons]
    refine ⟨by have := this.1; show (bld n v (bstep v st (kindS n k) ts) ts).1.length ≤ _; omega, fun r hr => by have := this.2 r hr; omega⟩
def ReadAt (K : PySem.W.Frag) (t : List Nat) (v : V) (H : Hp) : Prop := ∃ (x dx : Addr), v = .ref x ∧ match Vabldo.readLog t with
  | .error e => H x = some (.ins (He.ga K "Reading") dx [("refusal", .int (-(e.1 : Int))), ("place", .int (e.2 : Int)), ("log", .non)])
  | .ok l => ∃ lv, H x = some (.ins (He.ga K "Reading") dx [("refusal", .int 0), ("place", .int 0), ("log", lv)]) ∧ LogAt K l lv H
abbrev sp_read_log (K : PySem.W.Frag) : Sp := spR fun vs H Post => ∃ (a : Addr) (t : List Nat), vs = [.ref a] ∧ Tx H a t ∧ t.length ≤ 10000 ∧ Post = ReadAt K t
theorem ep_reading {E : XK} {a b c : V} (h1 : Ev ta σ H a) (h2 : Ev tb σ H b) (h3 : Ev tc σ H c) : EvP (tMake (He.ga K "Reading") (sp_Reading K) [] E (tCons ta (tCons tb (tCons tc tNil)))) σ H (fun v H1 => ∃ x dx, v = .ref x ∧ H1 x = some (.ins (He.ga K "Reading") dx [("refusal", a), ("place", b), ("log", c)])) := by
  refine EvP.imp (ep_make (PA := fun as _ => as = [a, b, c]) (EvA.p (ea_cons h1 (ea_cons h2 (ea_cons h3 ea_nil)))) ?_ ?_) ?_
  · rintro as H1 rfl
    rfl
  · rintro as H1 H2 e rfl
    rfl
  · rintro v H1 e ⟨x, dx, as, rfl, hx, rfl⟩
    exact ⟨x, dx, rfl, hx⟩
theorem wrong_at {t : List Nat} {p : Nat} (hlen : ¬ 4096 < t.length) (h : Vabldo.log t (t.length + 2) (Vabldo.tokens t) = .error p) : Vabldo.readLog t = .error (4, p) := by
  unfold Vabldo.readLog
  rw [if_neg hlen, h]
theorem sc_read_log : FnScope ["text", "tokens", "place", "log"] ["text"] (defScope s_read_log) := ⟨rfl, rfl, rfl, by decide +kernel, rfl, by decide +kernel, by decide +kernel⟩
theorem ok_read_log (T : Txt w K mg) (H_Reading : HasC P0 w K mg base "Reading" 1 ["self", "refusal", "place", "log"] (sp_Reading K) ["refusal", "place", "log"]) (H_scan : Has P0 w K mg base "scan" 6 ["text"] (sp_scan K)) (H_misplaced : Has P0 w K mg base "misplaced" 1 ["tokens"] (sp_misplaced K)) (H_build : Has P0 w K mg base "build" 4 ["tokens"] (sp_build K)) (H_above_limits : Has P0 w K mg base "above_limits" 2 ["log"] (sp_above_limits K)) : Has P0 w K mg base "read_log" 7 ["text"] (sp_read_log K) := by
  refine has_of T.f_read_log T.g_read_log sc_read_log (fun _ _ _ _ _ _ us hl => match us, hl with | [_], _ => rfl) (fun vs H Q E h => by obtain ⟨_, ⟨a, t, rfl, hx, hz, rfl⟩, _⟩ := h; rfl) (fun cdv A outer s H vs Q E hr h => ⟨_, PSs.nox (pss_cons (ps_if (pt_cmpR op_gt (pe_callB call_len_seq (by rfl) T.b_len PySem.boot_len (pa_cons (pv 0) pa_nil)) (pe_gi (by rfl) T.i_LONGEST_TEXT) (nomark _)) (pss_one (ps_ret (pe_hc H_Reading (by exact hr.mono (by decide)) (by rfl) (pa_cons (pe_gi (by rfl) T.i_LONG) (pa_cons pe_int (pa_cons pe_non pa_nil)))))) pss_nil) (pss_cons (ps_set (i := 1) sc_read_log.nd rfl (Or.inl rfl) (pe_h H_scan (by exact hr.mono (by decide)) (by rfl) (pa_cons (pv 0) pa_nil))) (pss_cons (ps_set (i := 2) sc_read_log.nd rfl (Or.inl rfl) (pe_h H_misplaced (by exact hr.mono (by decide)) (by rfl) (pa_cons (pv 1) pa_nil))) (pss_cons (ps_if (pt_cmpR op_ge (pv 2) pe_int (nomark _)) (pss_one (ps_ret (pe_hc H_Reading (by exact hr.mono (by decide)) (by rfl) (pa_cons (pe_gi (by rfl) T.i_FORM) (pa_cons (pv 2) (pa_cons pe_non pa_nil)))))) pss_nil) (pss_cons (ps_set (i := 3) sc_read_log.nd rfl (Or.inl rfl) (pe_h H_build (by exact hr.mono (by decide)) (by rfl) (pa_cons (pv 1) pa_nil))) (pss_cons (ps_if (pt_val (pe_h H_above_limits (by exact hr.mono (by decide)) (by rfl) (pa_cons (pv 3) pa_nil))) (pss_one (ps_ret (pe_hc H_Reading (by exact hr.mono (by decide)) (by rfl) (pa_cons (pe_gi (by rfl) T.i_LIMIT) (pa_cons pe_int (pa_cons pe_non pa_nil)))))) pss_nil) (pss_one (ps_ret (pe_hc H_Reading (by exact hr.mono (by decide)) (by rfl) (pa_cons pe_int (pa_cons pe_int (pa_cons (pv 3) pa_nil)))))))))))), ?_⟩)
  obtain ⟨_, ⟨a, t, rfl, hx, hz, rfl⟩, k⟩ := h
  refine q_when (b := decide (4096 < t.length)) (et_eq (et_test (ev_gt (ev_lenTx (ev_var rfl) hx) ev_c)) (dec_lt 4096 _)) (fun hb H1 e1 => ?_) (fun hb H1 e1 => ?_)
  · refine s_retP (ep_reading ev_c ev_c ev_c) fun v H2 e2 p => k v H2 (e1.trans e2) ?_
    obtain ⟨x, dx, rfl, hx⟩ := p
    refine ⟨x, dx, rfl, ?_⟩
    have e : Vabldo.readLog t = .error (3, 0) := by
      unfold Vabldo.readLog
      rw [if_pos (of_decide_eq_true hb)]
    rw [e]
    exact hx
  · have hlen := of_decide_eq_false hb
    refine q_asgP (ep_call (Post := fun v H' => ∃ p xs, v = .ref p ∧ H' p = some (.lst xs) ∧ All2 (fun k v => TokAt K t.length k v H') (Vabldo.tokens t) xs) (ea_cons (ev_var rfl) ea_nil) fun H2 e2 => ⟨a, t, rfl, hx.mono (e1.trans e2), hz, rfl⟩) fun v H2 e2 hv => ?_
    obtain ⟨b, bs, rfl, hb2, hA⟩ := hv
    refine q_asg (ev_callR (ea_cons (ev_var rfl) ea_nil) fun H3 e3 => ⟨b, bs, t.length, _, rfl, e3 _ _ hb2, hA.mono mono_tok e3, rfl⟩) fun H3 e3 => ?_
    have htl := tk_len t.length t.length t (Nat.le_refl _)
    have htl : (Vabldo.tokens t).length ≤ t.length + 1 := htl
    rcases log_ok t (t.length + 2) (Vabldo.tokens t) (by omega) (cp_tokens t) with ⟨e, he, hm⟩ | ⟨qs, tt, he, hq, ht, hm, hbld⟩
    · rw [hm]
      refine q_when (b := true) (et_eq (et_test (ev_op (ev_var rfl) ev_c rv_I0)) (decide_eq_true (Int.natCast_nonneg _))) (fun _ H4 e4 => ?_) (fun h => by cases h)
      refine s_retP (ep_reading ev_c (ev_var rfl) ev_c) fun v H5 e5 p => k v H5 (((e1.trans e2).trans e3).trans (e4.trans e5)) ?_
      obtain ⟨x, dx, rfl, hx⟩ := p
      refine ⟨x, dx, rfl, ?_⟩
      rw [wrong_at hlen he]
      exact hx
    · rw [hm]
      refine q_when (b := false) (et_eq (et_test (ev_op (ev_var rfl) ev_c rv_I0)) (by decide)) (fun h => by cases h) (fun _ H4 e4 => ?_)
      have e34 := e3.trans e4
      refine q_asgP (ep_call (Post := LogAt K { records := (bld t.length capV ([], 0) (Vabldo.tokens t)).1, told := (bld t.length capV ([], 0) (Vabldo.tokens t)).2 }) (ea_cons (ev_var rfl) ea_nil) fun H5 e5 => ⟨b, bs, t.length, _, rfl, (e34.trans e5) _ _ hb2, hA.mono mono_tok (e34.trans e5), cp_tokens t, hm, by omega, rfl⟩) fun lv H5 e5 hlv => ?_
      have hbl := bld_len t.length capV (Vabldo.tokens t) ([], 0) 0 (Nat.le_refl _) (by simp)
      have hbq : bld t.length capV ([], 0) (Vabldo.tokens t) = (qs.map (recOf capV), capV tt) := by rw [hbld, List.nil_append]
      rw [hbq] at hlv hbl
      obtain ⟨c1, c2⟩ := log_cap hq ht
      refine q_when (b := !Vabldo.limits { records := qs.map (recOf valueOf), told := valueOf tt }) (et_B (ev_callR (ea_cons (ev_var rfl) ea_nil) fun H6 e6 => ⟨lv, { records := qs.map (recOf capV), told := capV tt }, rfl, mono_log _ _ _ _ e6 hlv, by have := hbl.1; dsimp only at this ⊢; omega, fun r hr => by have := hbl.2 r hr; omega, by rw [c1]⟩)) (fun hb H6 e6 => ?_) (fun hb H6 e6 => ?_)
      · have hf : Vabldo.limits { records := qs.map (recOf valueOf), told := valueOf tt } = false := by simpa using hb
        refine s_retP (ep_reading ev_c ev_c ev_c) fun v H7 e7 p => k v H7 ((((e1.trans e2).trans e34).trans e5).trans (e6.trans e7)) ?_
        obtain ⟨x, dx, rfl, hx⟩ := p
        refine ⟨x, dx, rfl, ?_⟩
        have e : Vabldo.readLog t = .error (5, 0) := by
          unfold Vabldo.readLog
          rw [if_neg hlen, he]
          dsimp only
          rw [hf]
          rfl
        rw [e]
        exact hx
      · have hf : Vabldo.limits { records := qs.map (recOf valueOf), told := valueOf tt } = true := by simpa using hb
        refine s_retP (ep_reading ev_c ev_c (ev_var rfl)) fun v H7 e7 p => k v H7 ((((e1.trans e2).trans e34).trans e5).trans (e6.trans e7)) ?_
        obtain ⟨x, dx, rfl, hx⟩ := p
        refine ⟨x, dx, rfl, ?_⟩
        have e : Vabldo.readLog t = .ok { records := qs.map (recOf valueOf), told := valueOf tt } := by
          unfold Vabldo.readLog
          rw [if_neg hlen, he]
          dsimp only
          rw [hf]
          rfl
        rw [e]
        refine ⟨lv, hx, ?_⟩
        rw [← c2 hf]
        exact mono_log _ _ _ _ (e6.trans e7) hlv
end
end Bl

-- part W15
set_option Elab.async false
set_option linter.all false
set_option maxRecDepth 100000
set_option maxHeartbeats 4000000
namespace Bl
open PySem PySem.Spec PyProof.Rows L2 Evl
open Vabldo (valueOf)
/-! ### texts told: decimals, joined strings -/
theorem ct_of (s : String) : ct (Str.ofString s) = Vabldo.str s := by
  unfold ct Vabldo.str
  rw [Str.ofString_eq_toList]
theorem ct_app (a b : Str) : ct (a ++ b) = ct a ++ ct b := by
  show (a.cps ++ b.cps).toList = _
  rw [Array.toList_append]
  rfl
theorem digitChar_val : ∀ n, n < 10 → (Nat.digitChar n).toNat = 48 + n := by decide
theorem decimal_in : ∀ (k n : Nat), n < 10 ^ k → 0 < k → Vabldo.decimalIn k n = (Nat.toDigits 10 n).map fun c => c.toNat
  | 0, _, _, h => absurd h (by decide)
  | k + 1, n, h, _ => by
    show (if n < 10 then [48 + n] else Vabldo.decimalIn k (n / 10) ++ [48 + n % 10]) = _
    by_cases hn : n < 10
    · rw [if_pos hn, Nat.toDigits_of_lt_base hn, List.map_cons, List.map_nil, digitChar_val n hn]
    · have hk : 0 < k := by
        rcases Nat.eq_zero_or_pos k with z | z
        · subst z
          simp at h
          omega
        · exact z
      rw [if_neg hn, Nat.toDigits_of_base_le (by decide) (by omega), List.map_append, List.map_cons, List.map_nil, digitChar_val _ (Nat.mod_lt _ (by decide)), decimal_in k (n / 10) (by rw [Nat.pow_succ] at h; omega) hk]
theorem ct_num (n : Nat) (h : n < 10 ^ 20) : ct (Str.ofString (toString ((n : Nat) : Int))) = Vabldo.decimal n := by
  rw [ct_of]
  unfold Vabldo.decimal
  rw [decimal_in 20 n h (by decide)]
  show ((String.ofList (Nat.toDigits 10 n)).toList).map _ = _
  rw [String.toList_ofList]
section
variable {α : Type} {w : World} {K : PySem.W.Frag} {mg : Str → Option Value} {base : Heap} {σ : L2.St} {H : Hp} {ta tb tc te tl : TE} {v y : V} {D : Ends} {tu tz : TS}
theorem ev_fmtS {s : Str} (h : Ev ta σ H (.str s)) (hz : s.length ≤ 100000) : Ev (tFmt ta) σ H (.str s) := fun H1 e Q q => h H1 e _ fun H2 e2 => Or.inl ⟨s, rfl, sz_of hz, q H2 e2⟩
theorem ev_fmtI {n : Nat} (h : Ev ta σ H (.int (n : Int))) (hz : n < 10 ^ 20) : Ev (tFmt ta) σ H (.str (Str.ofString (toString ((n : Nat) : Int)))) := fun H1 e Q q => h H1 e _ fun H2 e2 => Or.inr ⟨(n : Int), rfl, by
  rw [Int.natAbs_natCast]
  have h1 : n < 2 ^ 1920 := Nat.lt_of_lt_of_le hz (Nat.le_trans (show 10 ^ 20 ≤ 2 ^ 67 by decide) (Nat.pow_le_pow_right (by decide) (by decide)))
  rcases Nat.eq_zero_or_pos n with z | z
  · subst z
    decide
  · exact (Nat.log2_lt (by omega)).mpr h1, q H2 e2⟩
theorem ev_js3 {a b c : Str} (h1 : Ev ta σ H (.str a)) (h2 : Ev tb σ H (.str b)) (h3 : Ev tc σ H (.str c)) (hz : (ct a).length + (ct b).length + (ct c).length ≤ 100000) : Ev (fun σ H Q => tJs [ta, tb, tc] Str.empty σ H fun out H1 => Q (.str out) H1) σ H (.str (((Str.empty ++ a) ++ b) ++ c)) := fun H1 e Q q =>
  h1 H1 e _ fun H2 e2 => ⟨a, rfl, sz_of (by show (ct (Str.empty ++ a)).length ≤ _; rw [ct_app, List.length_append]; show 0 + _ ≤ _; omega), h2 H2 (e.trans e2) _ fun H3 e3 => ⟨b, rfl, sz_of (by show (ct ((Str.empty ++ a) ++ b)).length ≤ _; rw [ct_app, ct_app, List.length_append, List.length_append]; show 0 + _ + _ ≤ _; omega), h3 H3 ((e.trans e2).trans e3) _ fun H4 e4 => ⟨c, rfl, sz_of (by show (ct (((Str.empty ++ a) ++ b) ++ c)).length ≤ _; rw [ct_app, ct_app, ct_app, List.length_append, List.length_append, List.length_append]; show 0 + _ + _ + _ ≤ _; omega), q H4 ((e2.trans e3).trans e4)⟩⟩⟩
theorem ev_js2 {a b : Str} (h1 : Ev ta σ H (.str a)) (h2 : Ev tb σ H (.str b)) (hz : (ct a).length + (ct b).length ≤ 100000) : Ev (fun σ H Q => tJs [ta, tb] Str.empty σ H fun out H1 => Q (.str out) H1) σ H (.str ((Str.empty ++ a) ++ b)) := fun H1 e Q q =>
  h1 H1 e _ fun H2 e2 => ⟨a, rfl, sz_of (by show (ct (Str.empty ++ a)).length ≤ _; rw [ct_app, List.length_append]; show 0 + _ ≤ _; omega), h2 H2 (e.trans e2) _ fun H3 e3 => ⟨b, rfl, sz_of (by show (ct ((Str.empty ++ a) ++ b)).length ≤ _; rw [ct_app, ct_app, List.length_append, List.length_append]; show 0 + _ + _ ≤ _; omega), q H3 (e2.trans e3)⟩⟩
theorem ep_codes3 {a b c : Str} (h1 : Ev ta σ H (.str a)) (h2 : Ev tb σ H (.str b)) (h3 : Ev tc σ H (.str c)) (hz : (ct a).length + (ct b).length + (ct c).length ≤ 40000) : EvP (tCall (sp_codes K) [] E0 (tCons (fun σ H Q => tJs [ta, tb, tc] Str.empty σ H fun out H1 => Q (.str out) H1) tNil)) σ H (IsTx (ct a ++ (ct b ++ ct c))) := by
  have e : ct (((Str.empty ++ a) ++ b) ++ c) = ct a ++ (ct b ++ ct c) := by rw [ct_app, ct_app, ct_app, List.append_assoc]; rfl
  rw [← e]
  refine ep_codes (ev_js3 h1 h2 h3 (by omega)) ?_
  show (ct (((Str.empty ++ a) ++ b) ++ c)).length ≤ _
  rw [e, List.length_append, List.length_append]
  omega
theorem ep_codes2 {a b : Str} (h1 : Ev ta σ H (.str a)) (h2 : Ev tb σ H (.str b)) (hz : (ct a).length + (ct b).length ≤ 40000) : EvP (tCall (sp_codes K) [] E0 (tCons (fun σ H Q => tJs [ta, tb] Str.empty σ H fun out H1 => Q (.str out) H1) tNil)) σ H (IsTx (ct a ++ ct b)) := by
  have e : ct ((Str.empty ++ a) ++ b) = ct a ++ ct b := by rw [ct_app, ct_app]; rfl
  rw [← e]
  refine ep_codes (ev_js2 h1 h2 (by omega)) ?_
  show (ct ((Str.empty ++ a) ++ b)).length ≤ _
  rw [e, List.length_append]
  omega
theorem tv_nil {p : List Nat} (h : tv p = []) : p = [] := by
  cases p with
  | nil => rfl
  | cons => cases h
/-- one text behind another -/
theorem ep_catTx {p q : List Nat} (h1 : EvP ta σ H (IsTx p)) (h2 : EvP tb σ H (IsTx q)) (hz : p.length + q.length ≤ 16000000) : EvP (tOp (rCatA K) ta tb) σ H (IsTx (p ++ q)) := ep_op h1 (fun x H1 e1 _ => h2.mono e1) fun x H1 y H2 e1 px e2 py Q k => by
  obtain ⟨a, rfl, ha⟩ := px
  obtain ⟨b, rfl, hb⟩ := py
  refine ⟨a, b, tv p, tv q, rfl, rfl, (ha.mono e2).sq, hb.sq, by rw [tv_len, tv_len]; exact Nat.le_trans hz (by decide), fun z => ?_, fun _ z => ?_, fun _ _ r hr => ?_⟩
  · rw [tv_nil z] at k
    exact k _ H2 (Ex.refl H2) ⟨b, rfl, hb⟩
  · rw [tv_nil z, List.append_nil] at k
    exact k _ H2 (Ex.refl H2) ⟨a, rfl, ha.mono e2⟩
  · refine k _ _ (Ex.new hr) ⟨r, rfl, ?_⟩
    show upd H2 r (.tup (tv p ++ tv q)) r = some (.tup (tv (p ++ q)))
    rw [upd_same, tv_app]
theorem tx_minus {t : List Nat} {p : Addr} {xs : List V} (h : IsTx t v H) (hp : H p = some (.lst xs)) : IsTx t v (minus H [p]) := by
  obtain ⟨a, e, ha⟩ := h
  exact ⟨a, e, minus_get ha (by rw [List.mem_singleton]; exact ne_of ha hp (by intro z; cases z))⟩
theorem txs_minus {ts : List (List Nat)} {p : Addr} {xs ys : List V} (h : All2 (fun t v => IsTx t v H) ts ys) (hp : H p = some (.lst xs)) : All2 (fun t v => IsTx t v (minus H [p])) ts ys := h.imp fun _ _ h => tx_minus h hp
theorem q_extTP {l : Addr} {xs : List V} {t : List Nat} (hl : H l = some (.lst xs)) (ha : Ev ta σ H (.ref l)) (h : EvP te σ H (IsTx t)) (hz : xs.length + t.length ≤ 16000000) (k : ∀ H1, Ex H H1 → tz D σ (upd H1 l (.lst (xs ++ tv t)))) :
    tSeq (tDrop (tBM K "list" rExtendT ta (tCons te tNil))) tz D σ H := ha H (Ex.refl H) _ fun H1 e1 =>
  ⟨Or.inl ⟨rfl, xs, sq_of (e1 l _ hl)⟩, h H1 e1 _ fun v H2 e2 hv => by
    obtain ⟨b, rfl, hb⟩ := hv
    exact ⟨l, b, xs, tv t, rfl, rfl, (e1.trans e2) l _ hl, hb, by rw [tv_len]; exact Nat.le_trans hz (by decide), k H2 (e1.trans e2)⟩⟩
/-- for .. in ..: rows.append(f(..)) -/
theorem s_rows {j : Nat} {wi : TI} {l : List α} {A : α → V → Hp → Prop} {f : α → List Nat} {p : Addr} {rows0 : List (List Nat)} {xs0 : List V} (hi : ItA [p] wi σ H l A) (hj : ∃ y0, σ = σ.set j y0) (hp : H p = some (.lst xs0)) (hx : All2 (fun t v => IsTx t v H) rows0 xs0)
    (hv : ∀ y H1, Ev ta (σ.set j y) H1 (.ref p)) (he : ∀ b x H1, b ∈ l → Ex (minus H [p]) H1 → A b x H1 → EvP te (σ.set j (some x)) H1 (IsTx (f b))) (hz : rows0.length + l.length < 1000000)
    (hd : ∀ y H' xs, Ex (minus H [p]) H' → H' p = some (.lst xs) → All2 (fun t v => IsTx t v H') (rows0 ++ l.map f) xs → D.nx (σ.set j y) H') : tFor wi (gName j) (tDrop (tBM K "list" rAppend ta (tCons te tNil))) D σ H := by
  refine s_forA hi (fun pre σ' H' => (∃ y, σ' = σ.set j y) ∧ ∃ xs, H' p = some (.lst xs) ∧ All2 (fun t v => IsTx t v H') (rows0 ++ pre.map f) xs) (fun H1 e1 => ⟨hj, xs0, e1 _ _ hp, by rw [List.map_nil, List.append_nil]; exact hx.mono mono_tx e1⟩) (fun H2 e2 pre b post x σ' H' hl e3 hP hA => ?_) (fun σ' H' e1 hP => ?_)
  · obtain ⟨⟨y, rfl⟩, xs, hpx, hxs⟩ := hP
    rw [List.set_set]
    have hlen := hxs.len
    rw [List.length_append, List.length_map] at hlen
    have hb : b ∈ l := by rw [hl]; simp
    have hll : pre.length < l.length := by rw [hl, List.length_append, List.length_cons]; omega
    refine s_appP hpx (hv _ _) (he b x H' hb ((Ex.minus e2).trans e3) hA) (by omega) fun z H3 e4 pz => ⟨?_, ⟨_, rfl⟩, xs ++ [z], upd_same, ?_⟩
    · exact Ex.minusT e3 (Ex.minusT (Ex.m e4) (ex_mut (by simp)))
    · have hp3 := e4 _ _ hpx
      have em : Ex (minus H3 [p]) (upd H3 p (.lst (xs ++ [z]))) := ex_mut (by simp)
      rw [List.map_append, ← List.append_assoc]
      exact ((txs_minus (hxs.mono mono_tx e4) hp3).mono mono_tx em).app (.one (mono_tx _ _ _ _ em (tx_minus pz hp3)))
  · obtain ⟨⟨y, rfl⟩, xs, hpx, hxs⟩ := hP
    exact hd y H' xs e1 hpx hxs
theorem q_rows {j : Nat} {wi : TI} {l : List α} {A : α → V → Hp → Prop} {f : α → List Nat} {p : Addr} {rows0 : List (List Nat)} {xs0 : List V} (hi : ItA [p] wi σ H l A) (hj : ∃ y0, σ = σ.set j y0) (hp : H p = some (.lst xs0)) (hx : All2 (fun t v => IsTx t v H) rows0 xs0)
    (hv : ∀ y H1, Ev ta (σ.set j y) H1 (.ref p)) (he : ∀ b x H1, b ∈ l → Ex (minus H [p]) H1 → A b x H1 → EvP te (σ.set j (some x)) H1 (IsTx (f b))) (hz : rows0.length + l.length < 1000000)
    (hd : ∀ y H' xs, Ex (minus H [p]) H' → H' p = some (.lst xs) → All2 (fun t v => IsTx t v H') (rows0 ++ l.map f) xs → tz D (σ.set j y) H') : tSeq (tFor wi (gName j) (tDrop (tBM K "list" rAppend ta (tCons te tNil)))) tz D σ H := s_rows (D := { D with nx := tz D }) hi hj hp hx hv he hz hd
/-- a list of things told by what is true of them -/
theorem q_asgLst {ta : TA} {i : Nat} {PA : List V → Hp → Prop} (h : EvAP ta σ H PA) (hl : ∀ vs H1, PA vs H1 → vs.length ≤ 100000) (m : ∀ vs H1 H2, Ex H1 H2 → PA vs H1 → PA vs H2) (k : ∀ p vs H1, H p = none → Ex H H1 → H1 p = some (.lst vs) → PA vs H1 → tz D (σ.set i (some (.ref p))) H1) : tSeq (tAsg (tLst ta) (gName i)) tz D σ H :=
  h H (Ex.refl H) _ fun vs H1 e1 pa => ⟨sz_of (hl vs H1 pa), fun p hp => k p vs _ (fresh_back e1 hp) (e1.trans (Ex.new hp)) upd_same (m _ _ _ (Ex.new hp) pa)⟩
end
/-! ### the walks of plaintext.py -/
def rowW (s : Str) (t : List Nat) : List Nat := ct "  " ++ (ct s ++ ct " ") ++ t ++ ct ";\n"
def rowF (s : Str) (u : Vabldo.Used) : List Nat := ct "  " ++ (ct s ++ ct " ") ++ u.file ++ (ct " " ++ (Vabldo.decimal u.number ++ ct ";\n"))
def wayS (b : Bool) : Str := if b = true then ("run" : Str) else ("kept" : Str)
def rowsR (r : Vabldo.Record) : List (List Nat) := [ct (wayS r.run) ++ ct " " ++ r.name ++ ct " {\n", rowW "tool" r.tool] ++ r.args.map (rowW "arg") ++ r.ins.map (rowF "in") ++ r.outs.map (rowF "out") ++ [ct "  exit " ++ (Vabldo.decimal r.exit ++ ct ";\n")] ++ [ct "}\n"]
abbrev sp_word_row (K : PySem.W.Frag) : Sp := spR fun vs H Post => ∃ (s : Str) (a : Addr) (t : List Nat), vs = [.str s, .ref a] ∧ Tx H a t ∧ (ct s).length ≤ 1000 ∧ t.length ≤ 10000000 ∧ Post = IsTx (rowW s t)
abbrev sp_file_row (K : PySem.W.Frag) : Sp := spR fun vs H Post => ∃ (s : Str) (v : V) (u : Vabldo.Used), vs = [.str s, v] ∧ FileAt K u v H ∧ (ct s).length ≤ 1000 ∧ u.file.length ≤ 10000000 ∧ u.number < 10 ^ 19 ∧ Post = IsTx (rowF s u)
structure RecSm (r : Vabldo.Record) : Prop where
  nm : r.name.length ≤ 10000000
  tl : r.tool.length ≤ 10000000
  ar : ∀ t ∈ r.args, t.length ≤ 10000000
  i : ∀ u ∈ r.ins, u.file.length ≤ 10000000 ∧ u.number < 10 ^ 19
  o : ∀ u ∈ r.outs, u.file.length ≤ 10000000 ∧ u.number < 10 ^ 19
  x : r.exit < 10 ^ 19
  c : rcN r ≤ 20000
abbrev sp_record_rows (K : PySem.W.Frag) : Sp := spR fun vs H Post => ∃ (v : V) (r : Vabldo.Record), vs = [v] ∧ RecAt K r v H ∧ RecSm r ∧ Post = fun x H' => ∃ p xs, x = .ref p ∧ H p = none ∧ H' p = some (.lst xs) ∧ All2 (fun t v => IsTx t v H') (rowsR r) xs
abbrev sp_plain_text (K : PySem.W.Frag) : Sp := spR fun vs H Post => ∃ (v : V) (l : Vabldo.Log), vs = [v] ∧ LogAt K l v H ∧ (∀ r ∈ l.records, RecSm r) ∧ l.told < 10 ^ 19 ∧ (Vabldo.plain l).length ≤ 10000000 ∧ Post = fun x H' => ∃ p, x = .ref p ∧ H p = none ∧ H' p = some (.lst (tv (Vabldo.plain l)))
section
variable {w : World} {K : PySem.W.Frag} {mg : Str → Option Value} {base : Heap} {σ : L2.St} {H : Hp} {ta tb tc te tl : TE} {v y : V} {D : Ends} {tu tz : TS}
theorem sc_word_row : FnScope ["label", "word"] ["label", "word"] (defScope s_word_row) := ⟨rfl, rfl, rfl, by decide +kernel, rfl, by decide +kernel, by decide +kernel⟩
theorem ok_word_row (T : Txt w K mg) (H_codes : Has P0 w K mg base "codes" 1 ["written"] (sp_codes K)) : Has P0 w K mg base "word_row" 2 ["label", "word"] (sp_word_row K) := by
  refine has_of T.f_word_row T.g_word_row sc_word_row (fun _ _ _ _ _ _ us hl => match us, hl with | [_, _], _ => rfl) (fun vs H Q E h => by obtain ⟨_, ⟨s, a, t, rfl, hx, hs, hz, rfl⟩, _⟩ := h; rfl) (fun cdv A outer s H vs Q E hr h => ⟨_, PSs.nox (pss_one (ps_ret (pe_op op_catA (pe_op op_catA (pe_h H_codes (by exact hr.mono (by decide)) (by rfl) (pa_cons (pe_joined (PJ.cons pe_str (PJ.cons (pe_fmt (pv 0)) (PJ.cons pe_str PJ.nil)))) pa_nil)) (pv 1)) (pe_h H_codes (by exact hr.mono (by decide)) (by rfl) (pa_cons pe_str pa_nil))))), ?_⟩)
  obtain ⟨_, ⟨s, a, t, rfl, hx, hs, hz, rfl⟩, k⟩ := h
  have c1 : (ct ("  " : Str)).length = 2 := by decide
  have c2 : (ct (" " : Str)).length = 1 := by decide
  have c3 : (ct (";\n" : Str)).length = 2 := by decide
  refine s_retP (ep_catTx (ep_catTx (ep_codes3 ev_c (ev_fmtS (ev_var rfl) (by show (ct s).length ≤ _; omega)) ev_c (by omega)) (ev_tx (ev_var rfl) hx) (by rw [List.length_append, List.length_append]; omega)) (ep_codes ev_c (by decide)) (by rw [List.length_append, List.length_append, List.length_append]; omega)) fun v H1 e1 p => k v H1 e1 p
theorem dec_len (n : Nat) : ∀ k, (Vabldo.decimalIn k n).length ≤ k := by
  intro k
  induction k generalizing n with
  | zero => exact Nat.le_refl _
  | succ k ih =>
    show (if n < 10 then [48 + n] else Vabldo.decimalIn k (n / 10) ++ [48 + n % 10]).length ≤ _
    split
    · simp
    · rw [List.length_append, List.length_singleton]
      have := ih (n / 10)
      omega
theorem ep_codesN {n : Nat} (h : Ev tb σ H (.int (n : Int))) (hn : n < 10 ^ 19) {a c : Str} (h1 : Ev ta σ H (.str a)) (h3 : Ev tc σ H (.str c)) (hz : (ct a).length + (ct c).length ≤ 1000) : EvP (tCall (sp_codes K) [] E0 (tCons (fun σ H Q => tJs [ta, tFmt tb, tc] Str.empty σ H fun out H1 => Q (.str out) H1) tNil)) σ H (IsTx (ct a ++ (Vabldo.decimal n ++ ct c))) := by
  have hn2 : n < 10 ^ 20 := Nat.lt_of_lt_of_le hn (by decide)
  have hd := dec_len n 20
  have h := ep_codes3 (K := K) h1 (ev_fmtI h hn2) h3 (by rw [ct_num n hn2]; unfold Vabldo.decimal; omega)
  rw [ct_num n hn2] at h
  exact h
theorem sc_file_row : FnScope ["label", "file", "number"] ["label", "file"] (defScope s_file_row) := ⟨rfl, rfl, rfl, by decide +kernel, rfl, by decide +kernel, by decide +kernel⟩
theorem ok_file_row (T : Txt w K mg) (H_codes : Has P0 w K mg base "codes" 1 ["written"] (sp_codes K)) : Has P0 w K mg base "file_row" 2 ["label", "file"] (sp_file_row K) := by
  refine has_of T.f_file_row T.g_file_row sc_file_row (fun _ _ _ _ _ _ us hl => match us, hl with | [_, _], _ => rfl) (fun vs H Q E h => by obtain ⟨_, ⟨s, v, u, rfl, hf, hs, hz, hn, rfl⟩, _⟩ := h; rfl) (fun cdv A outer s H vs Q E hr h => ⟨_, PSs.nox (pss_cons (ps_set (i := 2) sc_file_row.nd rfl (Or.inl rfl) (pe_fld (pv 1) rfl)) (pss_one (ps_ret (pe_op op_catA (pe_op op_catA (pe_h H_codes (by exact hr.mono (by decide)) (by rfl) (pa_cons (pe_joined (PJ.cons pe_str (PJ.cons (pe_fmt (pv 0)) (PJ.cons pe_str PJ.nil)))) pa_nil)) (pe_fld (pv 1) rfl)) (pe_h H_codes (by exact hr.mono (by decide)) (by rfl) (pa_cons (pe_joined (PJ.cons pe_str (PJ.cons (pe_fmt (pv 2)) (PJ.cons pe_str PJ.nil)))) pa_nil)))))), ?_⟩)
  obtain ⟨_, ⟨s, v, u, rfl, hf, hs, hz, hn, rfl⟩, k⟩ := h
  have c1 : (ct ("  " : Str)).length = 2 := by decide
  have c2 : (ct (" " : Str)).length = 1 := by decide
  have c3 : (ct (";\n" : Str)).length = 2 := by decide
  have hd : (Vabldo.decimal u.number).length ≤ 20 := dec_len u.number 20
  refine q_asg (ev_fnum T (ev_var rfl) hf) fun H1 e1 => ?_
  have hf1 := mono_file _ _ _ _ e1 hf
  refine s_retP (ep_catTx (ep_catTx (ep_codes3 ev_c (ev_fmtS (ev_var rfl) (by show (ct s).length ≤ _; omega)) ev_c (by omega)) (ep_fname T (ev_var rfl) hf1) (by rw [List.length_append, List.length_append]; omega)) (ep_codesN (ev_var rfl) hn ev_c ev_c (by omega)) (by simp only [List.length_append]; omega)) fun v H2 e2 p => k v H2 (e1.trans e2) p
theorem sc_record_rows : FnScope ["record", "way", "status", "rows", "argument", "file"] ["record"] (defScope s_record_rows) := ⟨rfl, rfl, rfl, by decide +kernel, rfl, by decide +kernel, by decide +kernel⟩
theorem ok_record_rows (T : Txt w K mg) (H_codes : Has P0 w K mg base "codes" 1 ["written"] (sp_codes K)) (H_word_row : Has P0 w K mg base "word_row" 2 ["label", "word"] (sp_word_row K)) (H_file_row : Has P0 w K mg base "file_row" 2 ["label", "file"] (sp_file_row K)) : Has P0 w K mg base "record_rows" 3 ["record"] (sp_record_rows K) := by
  refine has_of T.f_record_rows T.g_record_rows sc_record_rows (fun _ _ _ _ _ _ us hl => match us, hl with | [_], _ => rfl) (fun vs H Q E h => by obtain ⟨_, ⟨v, r, rfl, hR, hS, rfl⟩, _⟩ := h; rfl) (fun cdv A outer s H vs Q E hr h => ⟨_, PSs.nox (pss_cons (ps_set (i := 1) sc_record_rows.nd rfl (Or.inl rfl) (pe_fld (pv 0) rfl)) (pss_cons (ps_set (i := 2) sc_record_rows.nd rfl (Or.inl rfl) (pe_fld (pv 0) rfl)) (pss_cons (ps_set (i := 3) sc_record_rows.nd rfl (Or.inl rfl) (pe_lst (pa_cons (pe_op op_catA (pe_op op_catA (pe_h H_codes (by exact hr.mono (by decide)) (by rfl) (pa_cons (pe_joined (PJ.cons (pe_fmt (pv 1)) (PJ.cons pe_str PJ.nil))) pa_nil)) (pe_fld (pv 0) rfl)) (pe_h H_codes (by exact hr.mono (by decide)) (by rfl) (pa_cons pe_str pa_nil))) (pa_cons (pe_h H_word_row (by exact hr.mono (by decide)) (by rfl) (pa_cons pe_str (pa_cons (pe_fld (pv 0) rfl) pa_nil))) pa_nil)))) (pss_cons (ps_for PassesOwn.never rfl (pi_list (pe_fld (pv 0) rfl)) (pg_name (i := 4) sc_record_rows.nd rfl (Or.inl rfl)) (pss_one (ps_expr (pe_bm PySem.F.plainAttrs_list PySem.F.slot_list_append PySem.F.type_list_append mt_append (pv 3) (pa_cons (pe_h H_word_row (by exact hr.mono (by decide)) (by rfl) (pa_cons pe_str (pa_cons (pv 4) pa_nil))) pa_nil))))) (pss_cons (ps_for PassesOwn.never rfl (pi_list (pe_fld (pv 0) rfl)) (pg_name (i := 5) sc_record_rows.nd rfl (Or.inl rfl)) (pss_one (ps_expr (pe_bm PySem.F.plainAttrs_list PySem.F.slot_list_append PySem.F.type_list_append mt_append (pv 3) (pa_cons (pe_h H_file_row (by exact hr.mono (by decide)) (by rfl) (pa_cons pe_str (pa_cons (pv 5) pa_nil))) pa_nil))))) (pss_cons (ps_for PassesOwn.never rfl (pi_list (pe_fld (pv 0) rfl)) (pg_name (i := 5) sc_record_rows.nd rfl (Or.inl rfl)) (pss_one (ps_expr (pe_bm PySem.F.plainAttrs_list PySem.F.slot_list_append PySem.F.type_list_append mt_append (pv 3) (pa_cons (pe_h H_file_row (by exact hr.mono (by decide)) (by rfl) (pa_cons pe_str (pa_cons (pv 5) pa_nil))) pa_nil))))) (pss_cons (ps_expr (pe_bm PySem.F.plainAttrs_list PySem.F.slot_list_append PySem.F.type_list_append mt_append (pv 3) (pa_cons (pe_h H_codes (by exact hr.mono (by decide)) (by rfl) (pa_cons (pe_joined (PJ.cons pe_str (PJ.cons (pe_fmt (pv 2)) (PJ.cons pe_str PJ.nil)))) pa_nil)) pa_nil))) (pss_cons (ps_expr (pe_bm PySem.F.plainAttrs_list PySem.F.slot_list_append PySem.F.type_list_append mt_append (pv 3) (pa_cons (pe_h H_codes (by exact hr.mono (by decide)) (by rfl) (pa_cons pe_str pa_nil)) pa_nil))) (pss_one (ps_ret (pv 3))))))))))), ?_⟩)
  obtain ⟨_, ⟨v, r, rfl, hR, hS, rfl⟩, k⟩ := h
  obtain ⟨q, dx, nm, tl, a1, a2, a3, xs1, xs2, xs3, rfl, hX⟩ := hR
  have c1 : (ct ("  " : Str)).length = 2 := by decide
  have c2 : (ct (" " : Str)).length = 1 := by decide
  have c4 : (ct (" {\n" : Str)).length = 3 := by decide
  have cw : (ct (wayS r.run)).length ≤ 4 := by unfold wayS; cases r.run <;> decide
  have hnm := hS.nm
  have hcn := hS.c
  unfold rcN at hcn
  refine q_asg (ev_fld (ev_var rfl) hX.o T.c_Record T.n_Record_way rfl) fun H1 e1 => q_asg (ev_fld (ev_var rfl) (e1 _ _ hX.o) T.c_Record T.n_Record_status rfl) fun H2 e2 => ?_
  have e12 := e1.trans e2
  have hX2 := hX.mono e12 e12
  refine q_asgLst (PA := fun vs H1 => All2 (fun t v => IsTx t v H1) [ct (wayS r.run) ++ ct " " ++ r.name ++ ct " {\n", rowW "tool" r.tool] vs) (fun H3 e3 Q q => eap_cons (PA := IsTx (ct (wayS r.run) ++ ct " " ++ r.name ++ ct " {\n")) (ep_catTx (ep_catTx (ep_codes2 (a := wayS r.run) (ev_fmtS (ev_var rfl) (by show (ct (wayS r.run)).length ≤ _; omega)) ev_c (by omega)) (ev_tx (ev_fld (ev_var rfl) hX2.o T.c_Record T.n_Record_name rfl) hX2.nm) (by simp only [List.length_append]; omega)) (ep_codes ev_c (by decide)) (by simp only [List.length_append]; omega)) (eap_cons (PA := IsTx (rowW "tool" r.tool)) (ep_call (ea_cons ev_c (ea_cons (ev_fld (ev_var rfl) hX2.o T.c_Record T.n_Record_tool rfl) ea_nil)) fun H4 e4 => ⟨"tool", tl, r.tool, rfl, hX2.tl.mono e4, by decide, hS.tl, rfl⟩) eap_nil (fun x H1 H2 e h => h.mono e)) (fun x H1 H2 e h => h.mono e) H3 e3 Q fun vs H4 e4 pa => q vs H4 e4 ?_) (fun vs H3 h => by have := h.len; simp at this; omega) (fun vs H3 H4 e h => h.mono mono_tx e) fun p vs H3 hp e3 h3 pa => ?_
  · obtain ⟨x, us, rfl, hx, x2, us2, rfl, hx2, rfl⟩ := pa
    exact .cons hx (.cons hx2 .nil)
  have hfr : ∀ m ∈ [p], H2 m = none := fun m hm => by rw [List.mem_singleton.mp hm]; exact hp
  have eM3 : Ex H2 (minus H3 [p]) := ex_minus e3 hfr
  have hX3 := hX2.mono eM3 eM3
  have np : ∀ {a : Addr} {o : HO}, H2 a = some o → a ∉ [p] := fun ha => by rw [List.mem_singleton]; exact ne_of_none ha hp
  refine q_rows (f := rowW "arg") (it_list (M := [p]) (A := fun t x H => IsTx t x H) (ev_fld (ev_var rfl) (minus_ex _ _ hX3.o) T.c_Record T.n_Record_arguments rfl) (minus_ex _ _ hX3.l1) hX3.ar mono_tx (np hX2.l1)) ⟨_, rfl⟩ h3 pa (fun y H1 => ev_var rfl) (fun t x H1 ht e4 hx => ?_) (by simp; omega) fun y4 H4 xs4 e4 h4 hA4 => ?_
  · obtain ⟨a, rfl, ha⟩ := hx
    exact ep_call (ea_cons ev_c (ea_cons (ev_var rfl) ea_nil)) fun H5 e5 => ⟨"arg", a, t, rfl, ha.mono e5, by decide, hS.ar t ht, rfl⟩
  have eM4 : Ex H2 (minus H4 [p]) := ex_minus (eM3.trans e4) hfr
  have hX4 := hX2.mono eM4 eM4
  refine q_rows (f := rowF "in") (it_list (M := [p]) (A := FileAt K) (ev_fld (ev_var rfl) (minus_ex _ _ hX4.o) T.c_Record T.n_Record_inputs rfl) (minus_ex _ _ hX4.l2) hX4.i mono_file (np hX2.l2)) ⟨_, rfl⟩ h4 hA4 (fun y H1 => ev_var rfl) (fun u x H1 hu e5 hx => ?_) (by simp; omega) fun y5 H5 xs5 e5 h5 hA5 => ?_
  · exact ep_call (ea_cons ev_c (ea_cons (ev_var rfl) ea_nil)) fun H6 e6 => ⟨"in", x, u, rfl, mono_file _ _ _ _ e6 hx, by decide, (hS.i u hu).1, (hS.i u hu).2, rfl⟩
  have eM5 : Ex H2 (minus H5 [p]) := ex_minus (eM4.trans e5) hfr
  have hX5 := hX2.mono eM5 eM5
  refine q_rows (f := rowF "out") (it_list (M := [p]) (A := FileAt K) (ev_fld (ev_var rfl) (minus_ex _ _ hX5.o) T.c_Record T.n_Record_outputs rfl) (minus_ex _ _ hX5.l3) hX5.ou mono_file (np hX2.l3)) ⟨_, rfl⟩ h5 hA5 (fun y H1 => ev_var rfl) (fun u x H1 hu e6 hx => ?_) (by simp; omega) fun y6 H6 xs6 e6 h6 hA6 => ?_
  · exact ep_call (ea_cons ev_c (ea_cons (ev_var rfl) ea_nil)) fun H7 e7 => ⟨"out", x, u, rfl, mono_file _ _ _ _ e7 hx, by decide, (hS.o u hu).1, (hS.o u hu).2, rfl⟩
  have hl6 := hA6.len
  simp only [List.length_append, List.length_map, List.length_cons, List.length_nil] at hl6
  refine q_appP h6 (ev_var rfl) (ep_codesN (ev_var rfl) hS.x ev_c ev_c (by decide)) (by omega) fun x7 H7 e7 hx7 => ?_
  have h7 := e7 _ _ h6
  have em7 : Ex (minus H7 [p]) (upd H7 p (.lst (xs6 ++ [x7]))) := ex_mut (by simp)
  have hA7 := ((txs_minus (hA6.mono mono_tx e7) h7).mono mono_tx em7).app (.one (mono_tx _ _ _ _ em7 (tx_minus hx7 h7)))
  refine q_appP (Post := IsTx (ct "}\n")) upd_same (ev_var rfl) (ep_codes ev_c (by decide)) (by rw [List.length_append, List.length_singleton]; omega) fun x8 H8 e8 hx8 => ?_
  have h8 := e8 p _ upd_same
  have em8 : Ex (minus H8 [p]) (upd H8 p (.lst (xs6 ++ [x7] ++ [x8]))) := ex_mut (by simp)
  have hA8 := ((txs_minus (hA7.mono mono_tx e8) h8).mono mono_tx em8).app (.one (mono_tx _ _ _ _ em8 (tx_minus hx8 h8)))
  have e26 : Ex H2 (minus H6 [p]) := ex_minus (eM5.trans e6) hfr
  have e2e : Ex H2 (upd H8 p (.lst (xs6 ++ [x7] ++ [x8]))) := Ex.mut ((Ex.mut ((e26.trans minus_ex).trans e7) hp).trans e8) hp
  exact s_ret (ev_var rfl) fun H9 e9 => k _ H9 ((e12.trans e2e).trans e9) ⟨p, _, rfl, fresh_back e12 hp, e9 _ _ upd_same, hA8.mono mono_tx e9⟩
theorem row_text (r : Vabldo.Record) : (rowsR r).flatten = Vabldo.recordText r := by
  have e1 : ∀ b : Bool, (if b = true then Vabldo.str "run " else Vabldo.str "kept ") = ct (wayS b) ++ ct " " := by decide
  have e2 : Vabldo.str " {\n  tool " = ct " {\n" ++ (ct "  " ++ (ct "tool" ++ ct " ")) := by decide
  have e3 : Vabldo.str ";\n" = ct ";\n" := by decide
  have e4 : Vabldo.str "  arg " = ct "  " ++ (ct "arg" ++ ct " ") := by decide
  have e5 : Vabldo.str "  in " = ct "  " ++ (ct "in" ++ ct " ") := by decide
  have e6 : Vabldo.str "  out " = ct "  " ++ (ct "out" ++ ct " ") := by decide
  have e7 : Vabldo.str "  exit " = ct "  exit " := by decide
  have e8 : Vabldo.str ";\n}\n" = ct ";\n" ++ ct "}\n" := by decide
  have e9 : ct " " = [32] := by decide
  have f1 : ∀ l : List (List Nat), (l.map (rowW "arg")).flatten = l.flatMap fun a => Vabldo.str "  arg " ++ (a ++ Vabldo.str ";\n") := fun l => by
    rw [List.flatMap_def]
    refine congrArg List.flatten (List.map_congr_left fun a _ => ?_)
    unfold rowW
    rw [e4, e3]
    simp only [List.append_assoc]
  have f2 : ∀ (s : String) (x : Str) (hx : Vabldo.str s = ct "  " ++ (ct x ++ ct " ")) (l : List Vabldo.Used), (l.map (rowF x)).flatten = l.flatMap (Vabldo.usedLine s) := fun s x hx l => by
    rw [List.flatMap_def]
    refine congrArg List.flatten (List.map_congr_left fun u _ => ?_)
    unfold rowF Vabldo.usedLine
    rw [hx, e3, e9]
    simp only [List.append_assoc, List.cons_append, List.nil_append]
  unfold rowsR Vabldo.recordText
  rw [e1, e2, e7, e8]
  simp only [List.flatten_append, List.flatten_cons, List.flatten_nil, List.append_nil, f1]
  rw [f2 "  in " "in" e5, f2 "  out " "out" e6]
  unfold rowW
  rw [e3]
  simp only [List.append_assoc]
theorem plain_app (l : Vabldo.Log) : Vabldo.plain l = l.records.flatMap Vabldo.recordText ++ (ct "end " ++ (Vabldo.decimal l.told ++ ct ";\n")) := by
  have e1 : Vabldo.str "end " = ct "end " := by decide
  have e3 : Vabldo.str ";\n" = ct ";\n" := by decide
  unfold Vabldo.plain
  rw [e1, e3]
theorem sc_plain_text : FnScope ["log", "text", "record", "row", "total"] ["log"] (defScope s_plain_text) := ⟨rfl, rfl, rfl, by decide +kernel, rfl, by decide +kernel, by decide +kernel⟩
theorem ok_plain_text (T : Txt w K mg) (H_record_rows : Has P0 w K mg base "record_rows" 3 ["record"] (sp_record_rows K)) (H_codes : Has P0 w K mg base "codes" 1 ["written"] (sp_codes K)) : Has P0 w K mg base "plain_text" 4 ["log"] (sp_plain_text K) := by
  refine has_of T.f_plain_text T.g_plain_text sc_plain_text (fun _ _ _ _ _ _ us hl => match us, hl with | [_], _ => rfl) (fun vs H Q E h => by obtain ⟨_, ⟨v, l, rfl, hLg, hS, ht, hz, rfl⟩, _⟩ := h; rfl) (fun cdv A outer s H vs Q E hr h => ⟨_, PSs.nox (pss_cons (ps_set (i := 1) sc_plain_text.nd rfl (Or.inl rfl) (pe_lst pa_nil)) (pss_cons (ps_for PassesOwn.never rfl (pi_list (pe_fld (pv 0) rfl)) (pg_name (i := 2) sc_plain_text.nd rfl (Or.inl rfl)) (pss_one (ps_for PassesOwn.never rfl (pi_list (pe_h H_record_rows (by exact hr.mono (by decide)) (by rfl) (pa_cons (pv 2) pa_nil))) (pg_name (i := 3) sc_plain_text.nd rfl (Or.inl rfl)) (pss_one (ps_expr (pe_bm PySem.F.plainAttrs_list PySem.F.slot_list_extend PySem.F.type_list_extend mt_extendT (pv 1) (pa_cons (pv 3) pa_nil))))))) (pss_cons (ps_set (i := 4) sc_plain_text.nd rfl (Or.inl rfl) (pe_fld (pv 0) rfl)) (pss_cons (ps_expr (pe_bm PySem.F.plainAttrs_list PySem.F.slot_list_extend PySem.F.type_list_extend mt_extendT (pv 1) (pa_cons (pe_h H_codes (by exact hr.mono (by decide)) (by rfl) (pa_cons (pe_joined (PJ.cons pe_str (PJ.cons (pe_fmt (pv 4)) (PJ.cons pe_str PJ.nil)))) pa_nil)) pa_nil))) (pss_one (ps_ret (pv 1))))))), ?_⟩)
  obtain ⟨_, ⟨v, l, rfl, hLg, hS, ht, hz, rfl⟩, k⟩ := h
  obtain ⟨x, dx, rl, rs, rfl, hx, hrl, hA⟩ := hLg
  rw [plain_app, List.length_append] at hz
  refine q_asgL (el_lst ea_nil (by decide)) fun p H1 hp e1 h1 => ?_
  have hm : ∀ b ∈ [p], H b = none := fun b hb => by rw [List.mem_singleton.mp hb]; exact hp
  have eM1 : Ex H (minus H1 [p]) := ex_minus e1 hm
  refine q_forA (l := l.records) (A := RecAt K) (it_list (M := [p]) (ev_fld (ev_var rfl) (e1 _ _ hx) T.c_Log T.n_Log_records rfl) (e1 _ _ hrl) (hA.mono mono_rec eM1) mono_rec (by rw [List.mem_singleton]; exact ne_of_none hrl hp)) (fun pre σ' H' => (∃ y z u, σ' = [some (.ref x), some (.ref p), y, z, u]) ∧ H' p = some (.lst (tv (pre.flatMap Vabldo.recordText)))) (fun H2 e2 => ⟨⟨_, _, _, rfl⟩, e2 _ _ h1⟩) (fun H2 e2 pre r post xr σ' H' hl e3 hP hR => ?_) (fun σ' H' e2 hP => ?_)
  · obtain ⟨⟨y, z, u, rfl⟩, hpl⟩ := hP
    have hr : r ∈ l.records := by rw [hl]; simp
    have hlen : (pre.flatMap Vabldo.recordText).length + (Vabldo.recordText r).length ≤ 10000000 := by
      rw [hl, List.flatMap_append, List.flatMap_cons, List.length_append, List.length_append] at hz
      omega
    refine s_forA (l := rowsR r) (A := fun t x H => IsTx t x H) (M := [p]) (it_new (fun H3 e4 Q q => ?_) mono_tx (fun b hb => by have := List.mem_singleton.mp hb; subst this; exact ⟨_, hpl⟩)) (fun pre2 σ' H3 => (∃ z u, σ' = [some (.ref x), some (.ref p), some xr, z, u]) ∧ H3 p = some (.lst (tv (pre.flatMap Vabldo.recordText ++ pre2.flatten)))) (fun H3 e4 => ⟨⟨_, _, rfl⟩, by rw [List.flatten_nil, List.append_nil]; exact e4 _ _ hpl⟩) (fun H3 e4 pre2 row post2 xw σ' H4 hl2 e5 hP2 hw => ?_) (fun σ' H4 e4 hP2 => ?_)
    · refine (ev_var rfl : Ev (tVar 2) _ H' xr) H3 e4 _ fun H4 e5 => ?_
      refine ⟨_, ⟨xr, r, rfl, mono_rec _ _ _ _ (e4.trans e5) hR, hS r hr, rfl⟩, fun v H5 e6 hv => ?_⟩
      obtain ⟨p5, xs5, rfl, hp5, h5, hA5⟩ := hv
      exact q p5 xs5 H5 (fresh_back e5 hp5) (e5.trans e6) h5 (txs_minus hA5 (((e4.trans e5).trans e6) _ _ hpl))
    · obtain ⟨⟨z2, u2, rfl⟩, hpl2⟩ := hP2
      obtain ⟨a, rfl, ha⟩ := hw
      have hlen2 : pre2.flatten.length + row.length ≤ (Vabldo.recordText r).length := by
        rw [← row_text, hl2, List.flatten_append, List.flatten_cons, List.length_append, List.length_append]
        omega
      refine s_extT hpl2 (ev_var rfl) (ev_var rfl) ha (by rw [tv_len, tv_len, List.length_append]; omega) fun H5 e6 => ⟨Ex.minusT e5 (Ex.minusT (Ex.m e6) (ex_mut (by simp))), ⟨_, _, rfl⟩, ?_⟩
      rw [List.flatten_append, List.flatten_cons, List.flatten_nil, List.append_nil, ← List.append_assoc, tv_app _ row]
      exact upd_same
    · obtain ⟨⟨z2, u2, rfl⟩, hpl2⟩ := hP2
      refine ⟨Ex.minusT e3 e4, ⟨_, _, _, rfl⟩, ?_⟩
      rw [List.flatMap_append, List.flatMap_cons, List.flatMap_nil, List.append_nil, ← row_text]
      exact hpl2
  · obtain ⟨⟨y, z, u, rfl⟩, hpl⟩ := hP
    have eH : Ex H H' := eM1.trans e2
    refine q_asg (ev_fld (ev_var rfl) (eH _ _ hx) T.c_Log T.n_Log_total rfl) fun H3 e3 => ?_
    have hd : (Vabldo.decimal l.told).length ≤ 20 := dec_len l.told 20
    refine q_extTP (e3 _ _ hpl) (ev_var rfl) (ep_codesN (ev_var rfl) ht ev_c ev_c (by decide)) (by rw [tv_len]; omega) fun H4 e4 => ?_
    refine s_ret (ev_var rfl) fun H5 e5 => k _ H5 ((Ex.mut ((eH.trans e3).trans e4) hp).trans e5) ⟨p, rfl, hp, e5 _ _ ?_⟩
    rw [plain_app, tv_app (l.records.flatMap Vabldo.recordText)]
    exact upd_same
end
end Bl

-- part W16
set_option Elab.async false
set_option linter.all false
set_option maxRecDepth 100000
set_option maxHeartbeats 4000000
namespace Bl
open PySem PySem.Spec PyProof.Rows L2 Evl
open Vabldo (valueOf)
/-! ### dicts by texts -/
def kt (t : List Nat) : List L2.Key := t.map fun (n : Nat) => Sum.inl (n : Int)
theorem kt_tv (t : List Nat) : (kt t).map kV = tv t := by
  unfold kt tv
  rw [List.map_map]
  rfl
theorem kt_inj : ∀ {a b : List Nat}, kt a = kt b → a = b
  | [], [], _ => rfl
  | [], _ :: _, h => by cases h
  | _ :: _, [], h => by cases h
  | x :: a, y :: b, h => by
    unfold kt at h
    rw [List.map_cons, List.map_cons] at h
    injection h with h1 h2
    injection h1 with h1
    rw [Int.ofNat.inj h1, kt_inj h2]
/-- the dict at d tells f's value for each text f -/
def DictAt (m : List Nat → Option V) (d : Addr) (H : Hp) : Prop := ∃ kvs, H d = some (.dT kvs) ∧ kvs.length ≤ 1000000 ∧ ∀ f, valV kvs (kt f) = m f
section
variable {α : Type} {w : World} {K : PySem.W.Frag} {mg : Str → Option Value} {base : Heap} {σ : L2.St} {H H' : Hp} {ta tb tc te tl td ty : TE} {v y z : V} {D : Ends} {tu tz : TS}
theorem el_dnew : ∀ H1, Ex H H1 → ∀ Q : VK, (∀ p H2, H1 p = none → Ex H1 H2 → H2 p = some (.dT []) → Q (.ref p) H2) → tDNewT σ H1 Q := fun H1 e Q q p hp => q p _ hp (Ex.new hp) upd_same
theorem q_dnew {i : Nat} (k : ∀ p H1, H p = none → Ex H H1 → H1 p = some (.dT []) → tz D (σ.set i (some (.ref p))) H1) : tSeq (tAsg tDNewT (gName i)) tz D σ H := fun p hp => k p _ hp (Ex.new hp) upd_same
theorem ev_din {d b : Addr} {kvs : List (List L2.Key × V)} {t : List Nat} (h1 : Ev ty σ H (.ref b)) (hb : Tx H b t) (h2 : Ev td σ H (.ref d)) (hd : H d = some (.dT kvs)) : Ev (tDIn ty td) σ H (.bl (valV kvs (kt t)).isSome) := fun H1 e Q q =>
  h1 H1 e _ fun H2 e2 => h2 H2 (e.trans e2) _ fun H3 e3 => ⟨d, _, rfl, Or.inr ⟨kvs, kt t, b, Or.inl (((e.trans e2).trans e3) _ _ hd), rfl, by rw [kt_tv]; exact hb.mono ((e.trans e2).trans e3), rfl⟩, q H3 (e2.trans e3)⟩
theorem ev_dnotin {d b : Addr} {kvs : List (List L2.Key × V)} {t : List Nat} (h1 : Ev ty σ H (.ref b)) (hb : Tx H b t) (h2 : Ev td σ H (.ref d)) (hd : H d = some (.dT kvs)) : Ev (tDNotIn ty td) σ H (.bl (!(valV kvs (kt t)).isSome)) := fun H1 e Q q =>
  h1 H1 e _ fun H2 e2 => h2 H2 (e.trans e2) _ fun H3 e3 => ⟨d, _, rfl, Or.inr ⟨kvs, kt t, b, Or.inl (((e.trans e2).trans e3) _ _ hd), rfl, by rw [kt_tv]; exact hb.mono ((e.trans e2).trans e3), rfl⟩, q H3 (e2.trans e3)⟩
theorem ev_dget2 {d b : Addr} {kvs : List (List L2.Key × V)} {t : List Nat} (h2 : Ev td σ H (.ref d)) (h1 : Ev ty σ H (.ref b)) (hb : Tx H b t) (hd : H d = some (.dT kvs)) (h3 : Ev te σ H z) : Ev (tDGet2 td ty te) σ H ((valV kvs (kt t)).getD z) := fun H1 e Q q =>
  h2 H1 e _ fun H2 e2 => ⟨d, rfl, Or.inr ⟨kvs, Or.inl ((e.trans e2) _ _ hd)⟩, h1 H2 (e.trans e2) _ fun H3 e3 => h3 H3 ((e.trans e2).trans e3) _ fun H4 e4 => ⟨_, Or.inr ⟨kvs, kt t, b, Or.inl ((((e.trans e2).trans e3).trans e4) _ _ hd), rfl, by rw [kt_tv]; exact hb.mono (((e.trans e2).trans e3).trans e4), rfl⟩, q H4 ((e2.trans e3).trans e4)⟩⟩
theorem s_dput {d b : Addr} {kvs : List (List L2.Key × V)} {t : List Nat} (hv : Ev te σ H v) (h2 : Ev td σ H (.ref d)) (h1 : Ev ty σ H (.ref b)) (hb : Tx H b t) (hd : H d = some (.dT kvs)) (hz : kvs.length ≤ 1000000) (k : ∀ H1, Ex H H1 → D.nx σ (upd H1 d (.dT (putK kvs (kt t) v)))) : sDPut td ty te D σ H :=
  hv H (Ex.refl H) _ fun H1 e1 => h2 H1 e1 _ fun H2 e2 => h1 H2 (e1.trans e2) _ fun H3 e3 => ⟨d, _, rfl, Or.inr ⟨kvs, kt t, b, ((e1.trans e2).trans e3) _ _ hd, rfl, by rw [kt_tv]; exact hb.mono ((e1.trans e2).trans e3), Nat.lt_of_le_of_lt hz (by decide), rfl⟩, k H3 ((e1.trans e2).trans e3)⟩
theorem putK_len {κ : Type} [DecidableEq κ] (kvs : List (κ × V)) (k : κ) (v : V) : (putK kvs k v).length ≤ kvs.length + 1 := by
  unfold putK
  split
  · rw [List.length_map]; omega
  · rw [List.length_append]; exact Nat.le_refl _
end
/-! ### the walks of faults.py: tables -/
def lastN : List Vabldo.Used → List Nat → Option Nat
  | [], _ => none
  | u :: r, f => match lastN r f with
    | some n => some n
    | none => if u.file = f then some u.number else none
theorem lastN_snoc (u : Vabldo.Used) (f : List Nat) : ∀ l : List Vabldo.Used, lastN (l ++ [u]) f = if u.file = f then some u.number else lastN l f
  | [] => rfl
  | x :: l => by
    show (match lastN (l ++ [u]) f with | some n => some n | none => if x.file = f then some x.number else none) = _
    rw [lastN_snoc u f l]
    by_cases h : u.file = f
    · rw [if_pos h, if_pos h]
    · rw [if_neg h, if_neg h]
      rfl
theorem lastN_app (f : List Nat) (b : List Vabldo.Used) : ∀ a : List Vabldo.Used, lastN (a ++ b) f = match lastN b f with | some n => some n | none => lastN a f
  | [] => by
    show lastN b f = _
    cases lastN b f <;> rfl
  | x :: a => by
    show (match lastN (a ++ b) f with | some n => some n | none => if x.file = f then some x.number else none) = _
    rw [lastN_app f b a]
    cases h : lastN b f with
    | none => rfl
    | some n => rfl
abbrev mOut (rs : List Vabldo.Record) : List Nat → Option V := fun f => if rs.any (fun r => Vabldo.makes r f) = true then some (.bl true) else none
abbrev mNum (rs : List Vabldo.Record) : List Nat → Option V := fun f => (lastN (rs.flatMap Vabldo.filesOf) f).map fun (n : Nat) => V.int (n : Int)
abbrev sp_outputs_of (K : PySem.W.Frag) : Sp := spR fun vs H Post => ∃ (a : Addr) (xs : List V) (rs : List Vabldo.Record), vs = [.ref a] ∧ H a = some (.lst xs) ∧ All2 (fun r v => RecAt K r v H) rs xs ∧ (rs.flatMap fun r => r.outs).length ≤ 100000 ∧ Post = fun v H' => ∃ d, v = .ref d ∧ H d = none ∧ DictAt (mOut rs) d H'
abbrev sp_numbers_of (K : PySem.W.Frag) : Sp := spR fun vs H Post => ∃ (a : Addr) (xs : List V) (rs : List Vabldo.Record), vs = [.ref a] ∧ H a = some (.lst xs) ∧ All2 (fun r v => RecAt K r v H) rs xs ∧ (rs.flatMap Vabldo.filesOf).length ≤ 100000 ∧ Post = fun v H' => ∃ d, v = .ref d ∧ H d = none ∧ DictAt (mNum rs) d H'
section
variable {α : Type} {w : World} {K : PySem.W.Frag} {mg : Str → Option Value} {base : Heap} {σ : L2.St} {H H' : Hp} {ta tb tc te tl td ty : TE} {v y z : V} {D : Ends} {tu tz : TS}
/-- what a file puts into a table -/
def putU (g : Vabldo.Used → V) (m : List Nat → Option V) (us : List Vabldo.Used) : List Nat → Option V := us.foldl (fun m u => fun f => if f = u.file then some (g u) else m f) m
/-- for file in ..: d[file.name] = .. -/
theorem s_puts {j : Nat} {wi : TI} {us : List Vabldo.Used} {d : Addr} {m : List Nat → Option V} {kvs : List (List L2.Key × V)} (T : Txt w K mg) (g : Vabldo.Used → V) (hi : ItA [d] wi σ H us (FileAt K)) (hj : ∃ y0, σ = σ.set j y0) (hd : H d = some (.dT kvs)) (hm : ∀ f, valV kvs (kt f) = m f) (hz : kvs.length + us.length ≤ 1000000)
    (ht : ∀ y H1, Ev td (σ.set j y) H1 (.ref d)) (hy : ∀ x, (σ.set j (some x))[j]? = some (some x)) (hv : ∀ u x H1, FileAt K u x H1 → Ev te (σ.set j (some x)) H1 (g u))
    (k : ∀ y H' kvs', Ex (minus H [d]) H' → H' d = some (.dT kvs') → (∀ f, valV kvs' (kt f) = putU g m us f) → kvs'.length ≤ kvs.length + us.length → D.nx (σ.set j y) H') : tFor wi (gName j) (sDPut td (tFld K (tVar j) "name") te) D σ H := by
  refine s_forA hi (fun pre σ' H' => (∃ y, σ' = σ.set j y) ∧ ∃ kvs', H' d = some (.dT kvs') ∧ (∀ f, valV kvs' (kt f) = putU g m pre f) ∧ kvs'.length ≤ kvs.length + pre.length) (fun H1 e1 => ⟨hj, kvs, e1 _ _ hd, hm, by simp⟩) (fun H2 e2 pre u post x σ' H' hl e3 hP hA => ?_) (fun σ' H' e1 hP => ?_)
  · obtain ⟨⟨y, rfl⟩, kvs', hd', hm', hz'⟩ := hP
    rw [List.set_set]
    obtain ⟨s, hs, hsn⟩ := file_name T hA
    have hll : pre.length < us.length := by rw [hl, List.length_append, List.length_cons]; omega
    refine s_dput (hv u x H' hA) (ht _ _) (hsn (ev_var (hy x))) hs hd' (by omega) fun H3 e4 => ⟨Ex.minusT e3 (Ex.minusT (Ex.m e4) (ex_mut (by simp))), ⟨_, rfl⟩, _, upd_same, fun f => ?_, ?_⟩
    · rw [valV_put, hm']
      unfold putU
      rw [List.foldl_append]
      show _ = if f = u.file then some (g u) else _
      by_cases hf : f = u.file
      · rw [hf, if_pos rfl, if_pos rfl]
      · rw [if_neg hf, if_neg fun z => hf (kt_inj z)]
    · have := putK_len kvs' (kt u.file) (g u)
      rw [List.length_append, List.length_singleton]
      omega
  · obtain ⟨⟨y, rfl⟩, kvs', hd', hm', hz'⟩ := hP
    exact k y H' kvs' e1 hd' hm' hz'
theorem put_true (m : List Nat → Option V) : ∀ (us : List Vabldo.Used) (f : List Nat), putU (fun _ => .bl true) m us f = if us.any (fun u => u.file == f) = true then some (.bl true) else m f := by
  intro us
  induction us generalizing m with
  | nil => intro f; rfl
  | cons u us ih =>
    intro f
    show putU (fun _ => .bl true) (fun f => if f = u.file then some (.bl true) else m f) us f = _
    rw [ih, List.any_cons]
    by_cases h1 : us.any (fun u => u.file == f) = true
    · rw [if_pos h1, h1, Bool.or_true, if_pos rfl]
    · rw [if_neg h1]
      by_cases h2 : f = u.file
      · rw [if_pos h2, if_pos (by rw [h2]; simp)]
      · rw [if_neg h2, if_neg (by
          rw [Bool.or_eq_true]
          rintro (z | z)
          · exact h2 (beq_iff_eq.mp z).symm
          · exact h1 z)]
theorem put_num (m : List Nat → Option V) : ∀ (us : List Vabldo.Used) (f : List Nat), putU (fun u => .int (u.number : Int)) m us f = match lastN us f with | some n => some (.int (n : Int)) | none => m f := by
  intro us
  induction us generalizing m with
  | nil => intro f; rfl
  | cons u us ih =>
    intro f
    show putU (fun u => .int (u.number : Int)) (fun f => if f = u.file then some (.int (u.number : Int)) else m f) us f = _
    rw [ih]
    show _ = match (match lastN us f with | some n => some n | none => if u.file = f then some u.number else none) with | some n => some (V.int (n : Int)) | none => m f
    cases lastN us f with
    | some n => rfl
    | none =>
      dsimp only
      by_cases h2 : f = u.file
      · rw [if_pos h2, if_pos h2.symm]
      · rw [if_neg h2, if_neg (Ne.symm h2)]
theorem any_snoc {p : α → Bool} {l : List α} {a : α} : (l ++ [a]).any p = (l.any p || p a) := by rw [List.any_append, List.any_cons, List.any_nil, Bool.or_false]
theorem sc_outputs_of : FnScope ["records", "names", "record", "file"] ["records"] (defScope s_outputs_of) := ⟨rfl, rfl, rfl, by decide +kernel, rfl, by decide +kernel, by decide +kernel⟩
theorem ok_outputs_of (T : Txt w K mg)  : Has P0 w K mg base "outputs_of" 1 ["records"] (sp_outputs_of K) := by
  refine has_of T.f_outputs_of T.g_outputs_of sc_outputs_of (fun _ _ _ _ _ _ us hl => match us, hl with | [_], _ => rfl) (fun vs H Q E h => by obtain ⟨_, ⟨a, xs, rs, rfl, hx, hA, hz, rfl⟩, _⟩ := h; rfl) (fun cdv A outer s H vs Q E hr h => ⟨_, PSs.nox (pss_cons (ps_set (i := 1) sc_outputs_of.nd rfl (Or.inl rfl) pe_dnewT) (pss_cons (ps_for PassesOwn.never rfl (pi_list (pv 0)) (pg_name (i := 2) sc_outputs_of.nd rfl (Or.inl rfl)) (pss_one (ps_for PassesOwn.never rfl (pi_list (pe_fld (pv 2) rfl)) (pg_name (i := 3) sc_outputs_of.nd rfl (Or.inl rfl)) (pss_one (ps_dput (by exact hu_of hr) (pv 1) (pe_fld (pv 3) rfl) pe_bl rfl))))) (pss_one (ps_ret (pv 1))))), ?_⟩)
  obtain ⟨_, ⟨a, xs, rs, rfl, hx, hA, hz, rfl⟩, k⟩ := h
  refine q_dnew fun d H1 hd e1 h1 => ?_
  have hm : ∀ b ∈ [d], H b = none := fun b hb => by rw [List.mem_singleton.mp hb]; exact hd
  have eM1 : Ex H (minus H1 [d]) := ex_minus e1 hm
  refine q_forA (l := rs) (A := RecAt K) (it_list (M := [d]) (ev_var rfl) (e1 _ _ hx) (hA.mono mono_rec eM1) mono_rec (by rw [List.mem_singleton]; exact ne_of_none hx hd)) (fun pre σ' H' => (∃ y z, σ' = [some (.ref a), some (.ref d), y, z]) ∧ ∃ kvs, H' d = some (.dT kvs) ∧ (∀ f, valV kvs (kt f) = mOut pre f) ∧ kvs.length ≤ (pre.flatMap fun r => r.outs).length) (fun H2 e2 => ⟨⟨_, _, rfl⟩, [], e2 _ _ h1, fun f => rfl, Nat.zero_le _⟩) (fun H2 e2 pre r post xr σ' H' hl e3 hP hR => ?_) (fun σ' H' e2 hP => ?_)
  · obtain ⟨⟨y, z, rfl⟩, kvs, hdk, hmk, hzk⟩ := hP
    obtain ⟨q, dx, nm, tl, a1, a2, a3, xs1, xs2, xs3, rfl, hX⟩ := hR
    have hzz : (pre.flatMap fun r => r.outs).length + r.outs.length ≤ 100000 := by
      rw [hl, List.flatMap_append, List.flatMap_cons, List.length_append, List.length_append] at hz
      omega
    have nd : ∀ {b : Addr} {o : HO}, H' b = some o → (∀ kvs, o ≠ .dT kvs) → b ∉ [d] := fun hb ho => by rw [List.mem_singleton]; exact ne_of hb hdk (ho _)
    have hou : All2 (fun u v => FileAt K u v (minus H' [d])) r.outs xs3 := hX.ou.imp fun u v h => by
      obtain ⟨x, dx, s, e, hx, hs⟩ := h
      exact ⟨x, dx, s, e, minus_get hx (nd hx (by intro _ z; cases z)), minus_get hs (nd hs (by intro _ z; cases z))⟩
    refine s_puts T (fun _ => .bl true) (it_list (M := [d]) (ev_fld (ev_var rfl) hX.o T.c_Record T.n_Record_outputs rfl) hX.l3 hou mono_file (nd hX.l3 (by intro _ z; cases z))) ⟨_, rfl⟩ hdk hmk (by omega) (fun y H1 => ev_var rfl) (fun x => rfl) (fun u x H1 h => ev_c) fun y H4 kvs4 e4 h4 hm4 hz4 => ⟨Ex.minusT e3 e4, ⟨_, _, rfl⟩, kvs4, h4, fun f => ?_, ?_⟩
    · rw [hm4, put_true]
      show _ = if (pre ++ [r]).any (fun r => Vabldo.makes r f) = true then _ else _
      rw [any_snoc]
      show (if Vabldo.makes r f = true then _ else (if pre.any (fun r => Vabldo.makes r f) = true then _ else _)) = _
      cases Vabldo.makes r f <;> cases pre.any (fun r => Vabldo.makes r f) <;> rfl
    · rw [List.flatMap_append, List.flatMap_cons, List.flatMap_nil, List.append_nil, List.length_append]
      omega
  · obtain ⟨⟨y, z, rfl⟩, kvs, hdk, hmk, hzk⟩ := hP
    exact s_ret (ev_var rfl) fun H3 e3 => k _ H3 ((eM1.trans e2).trans e3) ⟨d, rfl, hd, kvs, e3 _ _ hdk, by omega, hmk⟩
theorem sc_numbers_of : FnScope ["records", "numbers", "record", "file"] ["records"] (defScope s_numbers_of) := ⟨rfl, rfl, rfl, by decide +kernel, rfl, by decide +kernel, by decide +kernel⟩
theorem ok_numbers_of (T : Txt w K mg)  : Has P0 w K mg base "numbers_of" 1 ["records"] (sp_numbers_of K) := by
  refine has_of T.f_numbers_of T.g_numbers_of sc_numbers_of (fun _ _ _ _ _ _ us hl => match us, hl with | [_], _ => rfl) (fun vs H Q E h => by obtain ⟨_, ⟨a, xs, rs, rfl, hx, hA, hz, rfl⟩, _⟩ := h; rfl) (fun cdv A outer s H vs Q E hr h => ⟨_, PSs.nox (pss_cons (ps_set (i := 1) sc_numbers_of.nd rfl (Or.inl rfl) pe_dnewT) (pss_cons (ps_for PassesOwn.never rfl (pi_list (pv 0)) (pg_name (i := 2) sc_numbers_of.nd rfl (Or.inl rfl)) (pss_one (ps_for PassesOwn.never rfl (pi_list (pe_op op_cat (pe_fld (pv 2) rfl) (pe_fld (pv 2) rfl))) (pg_name (i := 3) sc_numbers_of.nd rfl (Or.inl rfl)) (pss_one (ps_dput (by exact hu_of hr) (pv 1) (pe_fld (pv 3) rfl) (pe_fld (pv 3) rfl) rfl))))) (pss_one (ps_ret (pv 1))))), ?_⟩)
  obtain ⟨_, ⟨a, xs, rs, rfl, hx, hA, hz, rfl⟩, k⟩ := h
  refine q_dnew fun d H1 hd e1 h1 => ?_
  have hm : ∀ b ∈ [d], H b = none := fun b hb => by rw [List.mem_singleton.mp hb]; exact hd
  have eM1 : Ex H (minus H1 [d]) := ex_minus e1 hm
  refine q_forA (l := rs) (A := RecAt K) (it_list (M := [d]) (ev_var rfl) (e1 _ _ hx) (hA.mono mono_rec eM1) mono_rec (by rw [List.mem_singleton]; exact ne_of_none hx hd)) (fun pre σ' H' => (∃ y z, σ' = [some (.ref a), some (.ref d), y, z]) ∧ ∃ kvs, H' d = some (.dT kvs) ∧ (∀ f, valV kvs (kt f) = mNum pre f) ∧ kvs.length ≤ (pre.flatMap Vabldo.filesOf).length) (fun H2 e2 => ⟨⟨_, _, rfl⟩, [], e2 _ _ h1, fun f => rfl, Nat.zero_le _⟩) (fun H2 e2 pre r post xr σ' H' hl e3 hP hR => ?_) (fun σ' H' e2 hP => ?_)
  · obtain ⟨⟨y, z, rfl⟩, kvs, hdk, hmk, hzk⟩ := hP
    obtain ⟨q, dx, nm, tl, a1, a2, a3, xs1, xs2, xs3, rfl, hX⟩ := hR
    have hzz : (pre.flatMap Vabldo.filesOf).length + (Vabldo.filesOf r).length ≤ 100000 := by
      rw [hl, List.flatMap_append, List.flatMap_cons, List.length_append, List.length_append] at hz
      omega
    have nd : ∀ {b : Addr} {o : HO}, H' b = some o → (∀ kvs, o ≠ .dT kvs) → b ∉ [d] := fun hb ho => by rw [List.mem_singleton]; exact ne_of hb hdk (ho _)
    have hf : All2 (fun u v => FileAt K u v (minus H' [d])) (Vabldo.filesOf r) (xs2 ++ xs3) := (hX.i.app hX.ou).imp fun u v h => by
      obtain ⟨x, dx, s, e, hx, hs⟩ := h
      exact ⟨x, dx, s, e, minus_get hx (nd hx (by intro _ z; cases z)), minus_get hs (nd hs (by intro _ z; cases z))⟩
    have hlf := hf.len
    rw [List.length_append] at hlf
    refine s_puts T (fun u => .int (u.number : Int)) (it_newL (M := [d]) (el_cat (ev_fld (ev_var rfl) hX.o T.c_Record T.n_Record_inputs rfl) (ev_fld (ev_var rfl) hX.o T.c_Record T.n_Record_outputs rfl) hX.l2 hX.l3 (by omega)) hf mono_file (fun b hb => by have := List.mem_singleton.mp hb; subst this; exact ⟨_, hdk⟩)) ⟨_, rfl⟩ hdk hmk (by omega) (fun y H1 => ev_var rfl) (fun x => rfl) (fun u x H1 h => ev_fnum T (ev_var rfl) h) fun y H4 kvs4 e4 h4 hm4 hz4 => ⟨Ex.minusT e3 e4, ⟨_, _, rfl⟩, kvs4, h4, fun f => ?_, ?_⟩
    · rw [hm4, put_num]
      show _ = (lastN ((pre ++ [r]).flatMap Vabldo.filesOf) f).map fun (n : Nat) => V.int (n : Int)
      rw [List.flatMap_append, List.flatMap_cons, List.flatMap_nil, List.append_nil, lastN_app]
      cases lastN (Vabldo.filesOf r) f <;> rfl
    · rw [List.flatMap_append, List.flatMap_cons, List.flatMap_nil, List.append_nil, List.length_append]
      omega
  · obtain ⟨⟨y, z, rfl⟩, kvs, hdk, hmk, hzk⟩ := hP
    exact s_ret (ev_var rfl) fun H3 e3 => k _ H3 ((eM1.trans e2).trans e3) ⟨d, rfl, hd, kvs, e3 _ _ hdk, by omega, hmk⟩
end
end Bl

-- part W17
set_option Elab.async false
set_option linter.all false
set_option maxRecDepth 100000
set_option maxHeartbeats 4000000
namespace Bl
open PySem PySem.Spec PyProof.Rows L2 Evl
open Vabldo (valueOf)
/-! ### plain facts: lists without a member twice -/
section
variable {α β : Type} [DecidableEq α]
theorem nodup_erase {l : List α} {a : α} (h : l.Nodup) : (l.erase a).Nodup ∧ a ∉ l.erase a := by
  refine ⟨h.erase a, fun z => ?_⟩
  rw [h.mem_erase_iff] at z
  exact z.1 rfl
theorem len_sub {l1 : List α} : ∀ {l2 : List α}, l1.Nodup → (∀ x ∈ l1, x ∈ l2) → l1.length ≤ l2.length := by
  induction l1 with
  | nil => intro l2 _ _; exact Nat.zero_le _
  | cons a t ih =>
    intro l2 hn hs
    rw [List.nodup_cons] at hn
    have ha := hs a (List.mem_cons_self ..)
    have := ih (l2 := l2.erase a) hn.2 fun x hx => by
      have hx2 := hs x (List.mem_cons_of_mem _ hx)
      exact (List.mem_erase_of_ne (fun z => hn.1 (by rw [← z]; exact hx))).mpr hx2
    rw [List.length_erase_of_mem ha] at this
    have hp : 0 < l2.length := List.length_pos_of_mem ha
    rw [List.length_cons]
    omega
theorem len_lt {l2 : List α} : ∀ {l1 : List α}, ¬ l2.Nodup → l1.Nodup → (∀ x ∈ l1, x ∈ l2) → l1.length < l2.length := by
  induction l2 with
  | nil => intro l1 h _ _; exact absurd List.nodup_nil h
  | cons a t ih =>
    intro l1 hn h1 hs
    rw [List.nodup_cons] at hn
    by_cases ha : a ∈ t
    · have := len_sub h1 (l2 := t) fun x hx => by
        rcases List.mem_cons.mp (hs x hx) with rfl | z
        · exact ha
        · exact z
      rw [List.length_cons]
      omega
    · have ht : ¬ t.Nodup := fun z => hn ⟨ha, z⟩
      obtain ⟨n1, n2⟩ := nodup_erase (a := a) h1
      have := ih ht n1 fun x hx => by
        have hx1 := List.mem_of_mem_erase hx
        rcases List.mem_cons.mp (hs x hx1) with rfl | z
        · exact absurd hx n2
        · exact z
      have hle : l1.length ≤ (l1.erase a).length + 1 := by
        by_cases h : a ∈ l1
        · rw [List.length_erase_of_mem h]
          omega
        · rw [List.erase_of_not_mem h]
          omega
      rw [List.length_cons]
      omega
end
def toI (t : List Nat) : List Int := t.map fun (n : Nat) => (n : Int)
theorem toI_inj : ∀ {a b : List Nat}, toI a = toI b → a = b
  | [], [], _ => rfl
  | [], _ :: _, h => by cases h
  | _ :: _, [], h => by cases h
  | x :: a, y :: b, h => by
    unfold toI at h
    rw [List.map_cons, List.map_cons] at h
    injection h with h1 h2
    rw [Int.ofNat.inj h1, toI_inj h2]
theorem toI_tv (t : List Nat) : (toI t).map V.int = tv t := by
  unfold toI tv
  rw [List.map_map]
  rfl
theorem distinct_nodup : ∀ l : List (List Nat), Vabldo.distinct l = true ↔ (l.map toI).Nodup
  | [] => ⟨fun _ => List.nodup_nil, fun _ => rfl⟩
  | x :: r => by
    show (!r.contains x && Vabldo.distinct r) = true ↔ _
    rw [Bool.and_eq_true, Bool.not_eq_true', List.map_cons, List.nodup_cons, distinct_nodup r]
    refine and_congr_left fun _ => ?_
    rw [Bool.eq_false_iff, ne_eq, List.contains_iff_mem]
    constructor
    · intro h z
      obtain ⟨y, hy, e⟩ := List.mem_map.mp z
      rw [toI_inj e] at hy
      exact h hy
    · intro h z
      exact h (List.mem_map.mpr ⟨x, z, rfl⟩)
/-! ### plain facts: one number for each file -/
def Cons1 (us : List Vabldo.Used) : Prop := ∀ u ∈ us, ∀ u' ∈ us, u.file = u'.file → u.number = u'.number
theorem lastN_mem {f : List Nat} : ∀ {us : List Vabldo.Used} {n : Nat}, lastN us f = some n → ∃ u ∈ us, u.file = f ∧ u.number = n
  | [], n, h => by cases h
  | u :: r, n, h => by
    have h : (match lastN r f with | some n => some n | none => if u.file = f then some u.number else none) = some n := h
    cases hr : lastN r f with
    | some m =>
      rw [hr] at h
      obtain ⟨x, hx, e⟩ := lastN_mem hr
      cases h
      exact ⟨x, List.mem_cons_of_mem _ hx, e⟩
    | none =>
      rw [hr] at h
      dsimp only at h
      by_cases e : u.file = f
      · rw [if_pos e] at h
        cases h
        exact ⟨u, List.mem_cons_self .., e, rfl⟩
      · rw [if_neg e] at h
        cases h
theorem lastN_none {f : List Nat} : ∀ {us : List Vabldo.Used}, lastN us f = none → ∀ u ∈ us, u.file ≠ f
  | [], _, u, hu => by cases hu
  | x :: r, h, u, hu => by
    have h : (match lastN r f with | some n => some n | none => if x.file = f then some x.number else none) = none := h
    cases hr : lastN r f with
    | some m => rw [hr] at h; cases h
    | none =>
      rw [hr] at h
      dsimp only at h
      by_cases e : x.file = f
      · rw [if_pos e] at h
        cases h
      · rcases List.mem_cons.mp hu with rfl | hu
        · exact e
        · exact lastN_none hr u hu
theorem numIn_mem {f : List Nat} {us : List Vabldo.Used} {n : Nat} (h : Vabldo.numberIn us f = some n) : ∃ u ∈ us, u.file = f ∧ u.number = n := by
  unfold Vabldo.numberIn at h
  cases hf : us.find? (fun u => u.file == f) with
  | none => rw [hf] at h; cases h
  | some u =>
    rw [hf] at h
    have hp := List.find?_some hf
    cases h
    exact ⟨u, List.mem_of_find?_eq_some hf, beq_iff_eq.mp hp, rfl⟩
theorem numIn_some {f : List Nat} {us : List Vabldo.Used} {u : Vabldo.Used} (hu : u ∈ us) (hf : u.file = f) : ∃ n, Vabldo.numberIn us f = some n := by
  unfold Vabldo.numberIn
  cases h : us.find? (fun u => u.file == f) with
  | none =>
    have := List.find?_eq_none.mp h u hu
    exact absurd (beq_iff_eq.mpr hf) this
  | some u' => exact ⟨_, rfl⟩
/-- the two ways of looking for another number -/
theorem other_eq {pre : List Vabldo.Record} (hc : Cons1 (pre.flatMap Vabldo.filesOf)) (u : Vabldo.Used) :
    (!decide ((match lastN (pre.flatMap Vabldo.filesOf) u.file with | some n => n | none => u.number) = u.number)) = (pre.any fun x => match Vabldo.numberIn (Vabldo.filesOf x) u.file with | some n => n != u.number | none => false) := by
  cases hl : lastN (pre.flatMap Vabldo.filesOf) u.file with
  | none =>
    dsimp only
    rw [decide_eq_true rfl]
    symm
    rw [Bool.not_true, List.any_eq_false]
    intro x hx
    cases hn : Vabldo.numberIn (Vabldo.filesOf x) u.file with
    | none => exact Bool.false_ne_true
    | some n =>
      obtain ⟨y, hy, e, _⟩ := numIn_mem hn
      exact absurd e (lastN_none hl y (List.mem_flatMap.mpr ⟨x, hx, hy⟩))
  | some m =>
    dsimp only
    obtain ⟨y, hy, ey, en⟩ := lastN_mem hl
    obtain ⟨x, hx, hyx⟩ := List.mem_flatMap.mp hy
    by_cases hm : m = u.number
    · rw [decide_eq_true hm]
      symm
      rw [Bool.not_true, List.any_eq_false]
      intro x' hx'
      cases hn : Vabldo.numberIn (Vabldo.filesOf x') u.file with
      | none => exact Bool.false_ne_true
      | some n =>
        obtain ⟨y', hy', e', en'⟩ := numIn_mem hn
        have := hc y' (List.mem_flatMap.mpr ⟨x', hx', hy'⟩) y hy (e'.trans ey.symm)
        have hnn : n = u.number := by rw [← en', this, en, hm]
        dsimp only
        rw [hnn]
        simp
    · rw [decide_eq_false hm]
      symm
      rw [Bool.not_false, List.any_eq_true]
      refine ⟨x, hx, ?_⟩
      obtain ⟨n, hn⟩ := numIn_some hyx ey
      obtain ⟨y', hy', e', en'⟩ := numIn_mem hn
      have := hc y' (List.mem_flatMap.mpr ⟨x, hx, hy'⟩) y hy (e'.trans ey.symm)
      rw [hn]
      have hnn : n = m := by rw [← en', this, en]
      dsimp only
      rw [hnn]
      exact bne_iff_ne.mpr hm
theorem distinct_cons1 : ∀ {us : List Vabldo.Used}, Vabldo.distinct (us.map fun u => u.file) = true → Cons1 us
  | [], _, u, hu, _, _, _ => by cases hu
  | x :: r, h, u, hu, u', hu', e => by
    have h : (!(r.map fun u => u.file).contains x.file && Vabldo.distinct (r.map fun u => u.file)) = true := h
    rw [Bool.and_eq_true, Bool.not_eq_true', Bool.eq_false_iff, ne_eq, List.contains_iff_mem] at h
    rcases List.mem_cons.mp hu with k1 | k1 <;> rcases List.mem_cons.mp hu' with k2 | k2
    · rw [k1, k2]
    · exact absurd (List.mem_map.mpr ⟨u', k2, by rw [← e, k1]⟩) h.1
    · exact absurd (List.mem_map.mpr ⟨u, k1, by rw [e, k2]⟩) h.1
    · exact distinct_cons1 h.2 u k1 u' k2 e
theorem cons1_step {pre later : List Vabldo.Record} {r : Vabldo.Record} (hc : Cons1 (pre.flatMap Vabldo.filesOf)) (h0 : Vabldo.faultOf pre r later = 0) : Cons1 ((pre ++ [r]).flatMap Vabldo.filesOf) := by
  unfold Vabldo.faultOf at h0
  split at h0
  · cases h0
  · split at h0
    · cases h0
    · rename_i hd
      split at h0
      · cases h0
      · split at h0
        · cases h0
        · rename_i h4
          have hd : Vabldo.distinct ((Vabldo.filesOf r).map fun u => u.file) = true := by simpa using hd
          have hr := distinct_cons1 hd
          rw [Bool.not_eq_true, List.any_eq_false] at h4
          have hx : ∀ u ∈ Vabldo.filesOf r, ∀ u' ∈ pre.flatMap Vabldo.filesOf, u.file = u'.file → u.number = u'.number := fun u hu u' hu' e => by
            have this := (other_eq hc u).trans (show _ = false from Bool.eq_false_iff.mpr (h4 u hu))
            obtain ⟨m, hm⟩ : ∃ m, lastN (pre.flatMap Vabldo.filesOf) u.file = some m := by
              cases hl : lastN (pre.flatMap Vabldo.filesOf) u.file with
              | none => exact absurd e.symm (lastN_none hl u' hu')
              | some m => exact ⟨m, rfl⟩
            rw [hm] at this
            dsimp only at this
            obtain ⟨y, hy, ey, en⟩ := lastN_mem hm
            have h2 := hc u' hu' y hy (e.symm.trans ey.symm)
            have h3 : m = u.number := by simpa using this
            omega
          rw [List.flatMap_append, List.flatMap_cons, List.flatMap_nil, List.append_nil]
          intro u hu u' hu' e
          rcases List.mem_append.mp hu with hu | hu <;> rcases List.mem_append.mp hu' with hu' | hu'
          · exact hc u hu u' hu' e
          · exact (hx u' hu' u hu e.symm).symm
          · exact hx u hu u' hu' e
          · exact hr u hu u' hu' e
/-! ### the walks of faults.py: faults -/
def RecNm (r : Vabldo.Record) : Prop := Vabldo.isName r.name = true ∧ Vabldo.isName r.tool = true ∧ (∀ a ∈ r.args, Vabldo.isName a = true) ∧ (∀ u ∈ r.ins, Vabldo.isName u.file = true) ∧ (∀ u ∈ r.outs, Vabldo.isName u.file = true)
/-- what every log that is held keeps to -/
structure LogOk (l : Vabldo.Log) : Prop where
  lm : Vabldo.limits l = true
  nm : ∀ r ∈ l.records, RecNm r
structure RecOkP (r : Vabldo.Record) : Prop where
  a : r.args.length ≤ 8
  i : r.ins.length ≤ 8
  o : r.outs.length ≤ 8
  nm : RecNm r
  ni : ∀ u ∈ r.ins, u.number ≤ 1000000000
  no : ∀ u ∈ r.outs, u.number ≤ 1000000000
  x : r.exit ≤ 1000000000
theorem LogOk.prt {l : Vabldo.Log} (h : LogOk l) : l.told ≤ 1000000000 ∧ l.records.length ≤ 32 ∧ ∀ r ∈ l.records, RecOkP r := by
  have hl := h.lm
  unfold Vabldo.limits at hl
  simp only [Bool.and_eq_true, decide_eq_true_eq, List.all_eq_true] at hl
  obtain ⟨h1, h2, h3⟩ := hl
  refine ⟨h1, h2, fun r hr => ?_⟩
  obtain ⟨a1, a2, a3, a4⟩ := h3 r hr
  unfold Vabldo.usedOk at a2 a3
  simp only [Bool.and_eq_true, decide_eq_true_eq, List.all_eq_true] at a2 a3
  exact ⟨a1, a2.1, a3.1, h.nm r hr, a2.2, a3.2, a4⟩
abbrev sp_record_fault (K : PySem.W.Frag) : Sp := spR fun vs H Post => ∃ (a : Addr) (xs : List V) (rs : List Vabldo.Record) (i : Nat) (r : Vabldo.Record), vs = [.ref a, .int (i : Int)] ∧ H a = some (.lst xs) ∧ All2 (fun r v => RecAt K r v H) rs xs ∧ rs[i]? = some r ∧ rs.length ≤ 32 ∧ (∀ r ∈ rs, RecOkP r) ∧ Cons1 ((rs.take i).flatMap Vabldo.filesOf) ∧ Post = fun v _ => v = .int (Vabldo.faultOf (rs.take i) r (rs.drop (i + 1)) : Int)
def faultV (l : Vabldo.Log) : List Nat := match Vabldo.fault l with
  | none => [0]
  | some x => x.1 :: x.2
abbrev sp_first_fault (K : PySem.W.Frag) : Sp := spR fun vs H Post => ∃ (v : V) (l : Vabldo.Log), vs = [v] ∧ LogAt K l v H ∧ LogOk l ∧ Post = fun x H' => ∃ p, x = .ref p ∧ H p = none ∧ H' p = some (.lst (tv (faultV l)))
abbrev sp_is_sound (K : PySem.W.Frag) : Sp := spR fun vs H Post => ∃ (v : V) (l : Vabldo.Log), vs = [v] ∧ LogAt K l v H ∧ LogOk l ∧ Post = fun x _ => x = .bl (Vabldo.sound l)
section
variable {α : Type} {w : World} {K : PySem.W.Frag} {mg : Str → Option Value} {base : Heap} {σ : L2.St} {H H' : Hp} {ta tb tc te tl td ty : TE} {v y z : V} {D : Ends} {tu tz : TS}
theorem cut_to (xs : List V) (i : Nat) (h : i ≤ xs.length) : cutV xs none (some (i : Int)) = xs.take i := by
  unfold cutV
  rw [sIx_at _ _ _ h]
  show (xs.drop 0).take (i - 0) = _
  rw [List.drop_zero, Nat.sub_zero]
theorem cut_from (xs : List V) (i : Nat) (h : i ≤ xs.length) : cutV xs (some (i : Int)) none = xs.drop i := by
  unfold cutV
  rw [sIx_at _ _ _ h]
  show (xs.drop i).take (xs.length - i) = _
  rw [List.take_of_length_le (by rw [List.length_drop]; omega)]
/-- names told one by one: which file, which object, which text -/
structure NmF where
  u : Vabldo.Used
  x : V
  s : Addr
def NmF.At (K : PySem.W.Frag) (p : NmF) (v : V) (H : Hp) : Prop := v = p.x ∧ ∃ x dx, p.x = .ref x ∧ H x = some (.ins (He.ga K "File") dx [("name", .ref p.s), ("number", .int (p.u.number : Int))]) ∧ Tx H p.s p.u.file
theorem mono_nmf : Mono (NmF.At K) := fun p v H H' e h => by
  obtain ⟨e1, x, dx, e2, hx, hs⟩ := h
  exact ⟨e1, x, dx, e2, e _ _ hx, hs.mono e⟩
theorem nmfs {us : List Vabldo.Used} {xs : List V} (h : All2 (fun u v => FileAt K u v H) us xs) : ∃ l : List NmF, l.map (·.u) = us ∧ All2 (fun p v => NmF.At K p v H) l xs := by
  induction h with
  | nil => exact ⟨[], rfl, .nil⟩
  | @cons u v us vs hr _ ih =>
    obtain ⟨l, e, hl⟩ := ih
    obtain ⟨x, dx, s, rfl, hx, hs⟩ := hr
    exact ⟨⟨u, .ref x, s⟩ :: l, by rw [List.map_cons, e], .cons ⟨rfl, x, dx, rfl, hx, hs⟩ hl⟩
theorem all2_mem {β : Type} {R : α → β → Prop} {as : List α} {bs : List β} (h : All2 R as bs) : ∀ a ∈ as, ∃ b ∈ bs, R a b := by
  induction h with
  | nil => intro a ha; cases ha
  | cons r _ ih =>
    intro a ha
    rcases List.mem_cons.mp ha with rfl | ha
    · exact ⟨_, List.mem_cons_self .., r⟩
    · obtain ⟨b, hb, hr⟩ := ih a ha
      exact ⟨b, List.mem_cons_of_mem _ hb, hr⟩
/-- len(set([.. names ..])) -/
theorem ev_lenSet {P : Program} {l : List NmF} {xs : List V} (h : EvL ta σ H (l.map fun p => V.ref p.s)) (hA : All2 (fun p v => NmF.At K p v H) l xs) (hz : l.length < 64) : EvP (tCB (rLenTS K P w) (tCons (tCB (rSetOfT K P w) (tCons ta tNil)) tNil)) σ H (fun v _ => ∃ m : Nat, v = .int (m : Int) ∧ decide (m < l.length) = !Vabldo.distinct (l.map fun p => p.u.file)) := fun H1 e Q q => h H1 e _ fun p H2 _ e2 hp => by
  have hA2 := hA.mono mono_nmf (e.trans e2)
  have hk : ∀ q ∈ l.map (fun p => (p.s, toI p.u.file)), SqT K H2 q.1 (q.2.map V.int) := fun q hq => by
    obtain ⟨n, hn, rfl⟩ := List.mem_map.mp hq
    obtain ⟨v, _, _, x, dx, _, _, hs⟩ := all2_mem hA2 n hn
    dsimp only
    rw [toI_tv]
    exact hs.sq
  refine ⟨p, l.map fun p => (p.s, toI p.u.file), rfl, sq_of (by rw [List.map_map]; exact hp), hk, by rw [List.length_map]; exact hz, fun a L ha hL hL2 => ?_⟩
  refine ⟨a, L, rfl, upd_same, fun q hq => ex_t (Ex.new ha) (hk q (hL q hq)), fun hnd => ?_⟩
  refine q _ _ (e2.trans (Ex.new ha)) ⟨L.length, rfl, ?_⟩
  have hLl : L.length = (L.map (·.2)).length := by rw [List.length_map]
  have hll : l.length = ((l.map fun p => p.u.file).map toI).length := by rw [List.length_map, List.length_map]
  have hsub : ∀ x ∈ L.map (·.2), x ∈ (l.map fun p => p.u.file).map toI := fun x hx => by
    obtain ⟨q, hq, rfl⟩ := List.mem_map.mp hx
    obtain ⟨n, hn, rfl⟩ := List.mem_map.mp (hL q hq)
    exact List.mem_map.mpr ⟨n.u.file, List.mem_map.mpr ⟨n, hn, rfl⟩, rfl⟩
  have hsub2 : ∀ x ∈ (l.map fun p => p.u.file).map toI, x ∈ L.map (·.2) := fun x hx => by
    obtain ⟨f, hf, rfl⟩ := List.mem_map.mp hx
    obtain ⟨n, hn, rfl⟩ := List.mem_map.mp hf
    exact hL2 (n.s, toI n.u.file) (List.mem_map.mpr ⟨n, hn, rfl⟩)
  cases hd : Vabldo.distinct (l.map fun p => p.u.file) with
  | true =>
    have := len_sub ((distinct_nodup _).mp hd) hsub2
    exact decide_eq_false (by omega)
  | false =>
    have := len_lt (fun z => by rw [(distinct_nodup _).mpr z] at hd; cases hd) hnd hsub
    exact decide_eq_true (by omega)
theorem ep_lt {p : Nat → Prop} {b : Nat} {c : Bool} (h1 : EvP ta σ H (fun v _ => ∃ m : Nat, v = .int (m : Int) ∧ decide (m < b) = c)) (h2 : Ev tb σ H (.int (b : Int))) : Ev (tOp rLt ta tb) σ H (.bl c) :=
  ep_opl (p := fun v => ∃ m : Nat, v = .int (m : Int) ∧ decide (m < b) = c) h1 h2 fun x H1 hx => by
    obtain ⟨m, rfl, hm⟩ := hx
    rw [← hm, ← dec_lt]
    exact rv_I0
/-- a call whose one argument is a new list -/
theorem ep_callL {A : List V → Hp → (V → Hp → Prop) → Prop} {Post : V → Hp → Prop} {xs : List V} {E : XK} (h : EvL ta σ H xs) (hs : ∀ p H1, Ex H H1 → H1 p = some (.lst xs) → A [.ref p] H1 Post) : EvP (tCall (spR A) [] E (tCons ta tNil)) σ H Post := fun H1 e Q q =>
  h H1 e _ fun p H2 _ e2 hp => ⟨Post, hs p H2 (e.trans e2) hp, fun v H3 e3 k => q v H3 (e2.trans e3) k⟩
theorem rname {r : Vabldo.Record} (T : Txt w K mg) (h : RecAt K r v H) : ∃ s, Tx H s r.name ∧ ∀ {ta : TE} {σ : L2.St}, Ev ta σ H v → Ev (tFld K ta "name") σ H (.ref s) := by
  obtain ⟨q, dx, nm, tl, a1, a2, a3, xs1, xs2, xs3, rfl, hX⟩ := h
  exact ⟨nm, hX.nm, fun h => ev_fld h hX.o T.c_Record T.n_Record_name rfl⟩
theorem DictAt.mono {m : List Nat → Option V} {d : Addr} (h : DictAt m d H) (e : Ex H H') : DictAt m d H' := by
  obtain ⟨kvs, h1, h2, h3⟩ := h
  exact ⟨kvs, e _ _ h1, h2, h3⟩
theorem ev_inD {d b : Addr} {m : List Nat → Option V} {t : List Nat} (h1 : Ev ty σ H (.ref b)) (hb : Tx H b t) (h2 : Ev td σ H (.ref d)) (hd : DictAt m d H) : Ev (tDIn ty td) σ H (.bl (m t).isSome) := by
  obtain ⟨kvs, e1, _, e3⟩ := hd
  rw [← e3]
  exact ev_din h1 hb h2 e1
theorem ev_notinD {d b : Addr} {m : List Nat → Option V} {t : List Nat} (h1 : Ev ty σ H (.ref b)) (hb : Tx H b t) (h2 : Ev td σ H (.ref d)) (hd : DictAt m d H) : Ev (tDNotIn ty td) σ H (.bl (!(m t).isSome)) := by
  obtain ⟨kvs, e1, _, e3⟩ := hd
  rw [← e3]
  exact ev_dnotin h1 hb h2 e1
theorem mOut_some (rs : List Vabldo.Record) (f : List Nat) : (mOut rs f).isSome = rs.any fun r => Vabldo.makes r f := by
  unfold mOut
  cases rs.any fun r => Vabldo.makes r f <;> rfl
end
end Bl

-- part W18
set_option Elab.async false
set_option linter.all false
set_option maxRecDepth 100000
set_option maxHeartbeats 4000000
namespace Bl
open PySem PySem.Spec PyProof.Rows L2 Evl
open Vabldo (valueOf)
section
variable {α : Type} {w : World} {K : PySem.W.Frag} {mg : Str → Option Value} {base : Heap} {σ : L2.St} {H H' : Hp} {ta tb tc te tl td ty : TE} {v y z : V} {D : Ends} {tu tz : TS}
theorem ep_callW {A : List V → Hp → (V → Hp → Prop) → Prop} {Post : V → Hp → Prop} {ta : TA} {vs : List V} {E : XK} (h : EvA ta σ H vs) (hs : ∀ H1, Ex H H1 → ∃ P, A vs H1 P ∧ ∀ v H2, Ex H1 H2 → P v H2 → Post v H2) : EvP (tCall (spR A) [] E ta) σ H Post := fun H1 e Q q =>
  h H1 e _ fun H2 e2 => by
    rw [List.append_nil]
    obtain ⟨P, h1, h2⟩ := hs H2 (e.trans e2)
    exact ⟨P, h1, fun v H3 e3 p => q v H3 (e2.trans e3) (h2 v H3 e3 p)⟩
theorem ep_callLW {A : List V → Hp → (V → Hp → Prop) → Prop} {Post : V → Hp → Prop} {xs : List V} {E : XK} (h : EvL ta σ H xs) (hs : ∀ p H1, Ex H H1 → H1 p = some (.lst xs) → ∃ P, A [.ref p] H1 P ∧ ∀ v H2, Ex H1 H2 → P v H2 → Post v H2) : EvP (tCall (spR A) [] E (tCons ta tNil)) σ H Post := fun H1 e Q q =>
  h H1 e _ fun p H2 _ e2 hp => by
    obtain ⟨P, h1, h2⟩ := hs p H2 (e.trans e2) hp
    exact ⟨P, h1, fun v H3 e3 k => q v H3 (e2.trans e3) (h2 v H3 e3 k)⟩
theorem sum_le {α : Type} (f : α → List Vabldo.Used) (b : Nat) : ∀ l : List α, (∀ x ∈ l, (f x).length ≤ b) → (l.flatMap f).length ≤ b * l.length
  | [], _ => Nat.zero_le _
  | x :: l, h => by
    rw [List.flatMap_cons, List.length_append, List.length_cons, Nat.mul_succ]
    have h1 := h x (List.mem_cons_self ..)
    have h2 := sum_le f b l fun y hy => h y (List.mem_cons_of_mem _ hy)
    omega
theorem mem_take_drop {l : List α} {i : Nat} {x : α} : (x ∈ l.take i → x ∈ l) ∧ (x ∈ l.drop i → x ∈ l) := ⟨List.mem_of_mem_take, List.mem_of_mem_drop⟩
theorem sc_record_fault : FnScope ["records", "i", "record", "earlier", "files", "made", "numbers", "to_come", "other", "file"] ["records", "i"] (defScope s_record_fault) := ⟨rfl, rfl, rfl, by decide +kernel, rfl, by decide +kernel, by decide +kernel⟩
theorem ok_record_fault (T : Txt w K mg) (H_outputs_of : Has P0 w K mg base "outputs_of" 1 ["records"] (sp_outputs_of K)) (H_numbers_of : Has P0 w K mg base "numbers_of" 1 ["records"] (sp_numbers_of K)) : Has P0 w K mg base "record_fault" 2 ["records", "i"] (sp_record_fault K) := by
  refine has_of T.f_record_fault T.g_record_fault sc_record_fault (fun _ _ _ _ _ _ us hl => match us, hl with | [_, _], _ => rfl) (fun vs H Q E h => by obtain ⟨_, ⟨a, xs, rs, i, r, rfl, hx, hA, hi, hn, hok, hc, rfl⟩, _⟩ := h; rfl) (fun cdv A outer s H vs Q E hr h => ⟨_, PSs.nox (pss_cons (ps_set (i := 2) sc_record_fault.nd rfl (Or.inr rfl) (pe_ix ix_list (pv 0) (pv 1) (fun _ _ => rfl))) (pss_cons (ps_set (i := 3) sc_record_fault.nd rfl (Or.inl rfl) (pe_slice sl_list (pv 0) po_none (po_some (pv 1)))) (pss_cons (ps_set (i := 4) sc_record_fault.nd rfl (Or.inl rfl) (pe_op op_cat (pe_fld (pv 2) rfl) (pe_fld (pv 2) rfl))) (pss_cons (ps_if (pt_val (pe_callB (cr_any rfl) (by rfl) T.b_any (by decide +kernel) (pa_cons (pe_lc (own := [("other", 8)]) (g := gName 8) (te := (tOp (rEqD K) (tFld K (tVar 8) "name") (tFld K (tVar 2) "name"))) rfl sc_record_fault.nd (pi_list (pv 3)) (blkOk_by (own := [("other", 8)]) (N := ["records", "i", "record", "earlier", "files", "made", "numbers", "to_come", "other", "file"]) (sc := defScope s_record_fault) (by decide +kernel)) (fun _ _ _ _ _ => pg_name (i := 8) sc_record_fault.nd rfl (Or.inl rfl)) (fun _ _ _ _ _ => pts_nil) (fun _ _ _ _ _ => (pe_cmpR (op_eqD (by exact hr.units)) (pe_fld (pv 8) rfl) (pe_fld (pv 2) rfl) (nomark _)))) pa_nil))) (pss_one (ps_ret (pe_gi (by rfl) T.i_SAME_ACTION))) pss_nil) (pss_cons (ps_if (pt_cmpR op_lt (pe_callB call_lenTS (by rfl) T.b_len PySem.boot_len (pa_cons (pe_callTy (cr_setOfT rfl (by exact hr.units)) (by rfl) T.b_set (by decide +kernel) (pa_cons (pe_lc (own := [("file", 9)]) (g := gName 9) (te := (tFld K (tVar 9) "name")) rfl sc_record_fault.nd (pi_list (pv 4)) (blkOk_by (own := [("file", 9)]) (N := ["records", "i", "record", "earlier", "files", "made", "numbers", "to_come", "other", "file"]) (sc := defScope s_record_fault) (by decide +kernel)) (fun _ _ _ _ _ => pg_name (i := 9) sc_record_fault.nd rfl (Or.inl rfl)) (fun _ _ _ _ _ => pts_nil) (fun _ _ _ _ _ => (pe_fld (pv 9) rfl))) pa_nil)) pa_nil)) (pe_callB call_len_seq (by rfl) T.b_len PySem.boot_len (pa_cons (pv 4) pa_nil)) (nomark _)) (pss_one (ps_ret (pe_gi (by rfl) T.i_FILE_TWICE))) pss_nil) (pss_cons (ps_set (i := 5) sc_record_fault.nd rfl (Or.inr rfl) (pe_h H_outputs_of (by exact hr.mono (by decide)) (by rfl) (pa_cons (pv 3) pa_nil))) (pss_cons (ps_if (pt_val (pe_callB (cr_any rfl) (by rfl) T.b_any (by decide +kernel) (pa_cons (pe_lc (own := [("file", 9)]) (g := gName 9) (te := (tDIn (tFld K (tVar 9) "name") (tVar 5))) rfl sc_record_fault.nd (pi_list (pe_fld (pv 2) rfl)) (blkOk_by (own := [("file", 9)]) (N := ["records", "i", "record", "earlier", "files", "made", "numbers", "to_come", "other", "file"]) (sc := defScope s_record_fault) (by decide +kernel)) (fun _ _ _ _ _ => pg_name (i := 9) sc_record_fault.nd rfl (Or.inl rfl)) (fun _ _ _ _ _ => pts_nil) (fun _ _ _ _ _ => (pe_cmp (pc_din (by exact hu_of hr) (pe_fld (pv 9) rfl) (pv 5))))) pa_nil))) (pss_one (ps_ret (pe_gi (by rfl) T.i_MADE_BEFORE))) pss_nil) (pss_cons (ps_set (i := 6) sc_record_fault.nd rfl (Or.inr rfl) (pe_h H_numbers_of (by exact hr.mono (by decide)) (by rfl) (pa_cons (pv 3) pa_nil))) (pss_cons (ps_if (pt_val (pe_callB (cr_any rfl) (by rfl) T.b_any (by decide +kernel) (pa_cons (pe_lc (own := [("file", 9)]) (g := gName 9) (te := (tOp (rNe) (tDGet2 (tVar 6) (tFld K (tVar 9) "name") (tFld K (tVar 9) "number")) (tFld K (tVar 9) "number"))) rfl sc_record_fault.nd (pi_list (pv 4)) (blkOk_by (own := [("file", 9)]) (N := ["records", "i", "record", "earlier", "files", "made", "numbers", "to_come", "other", "file"]) (sc := defScope s_record_fault) (by decide +kernel)) (fun _ _ _ _ _ => pg_name (i := 9) sc_record_fault.nd rfl (Or.inl rfl)) (fun _ _ _ _ _ => pts_nil) (fun _ _ _ _ _ => (pe_cmpR op_ne (pe_dget2 (by exact hu_of hr) (pv 6) (pe_fld (pv 9) rfl) (pe_fld (pv 9) rfl) ⟨rfl, rfl, rfl, rfl⟩) (pe_fld (pv 9) rfl) (nomark _)))) pa_nil))) (pss_one (ps_ret (pe_gi (by rfl) T.i_OTHER_NUMBER))) pss_nil) (pss_cons (ps_set (i := 7) sc_record_fault.nd rfl (Or.inr rfl) (pe_h H_outputs_of (by exact hr.mono (by decide)) (by rfl) (pa_cons (pe_slice sl_list (pv 0) (po_some (pe_op op_add (pv 1) pe_int)) po_none) pa_nil))) (pss_cons (ps_if (pt_val (pe_callB (cr_any rfl) (by rfl) T.b_any (by decide +kernel) (pa_cons (pe_lc (own := [("file", 9)]) (g := gName 9) (te := (tAndV (tDIn (tFld K (tVar 9) "name") (tVar 7)) (tDNotIn (tFld K (tVar 9) "name") (tVar 5)))) rfl sc_record_fault.nd (pi_list (pe_fld (pv 2) rfl)) (blkOk_by (own := [("file", 9)]) (N := ["records", "i", "record", "earlier", "files", "made", "numbers", "to_come", "other", "file"]) (sc := defScope s_record_fault) (by decide +kernel)) (fun _ _ _ _ _ => pg_name (i := 9) sc_record_fault.nd rfl (Or.inl rfl)) (fun _ _ _ _ _ => pts_nil) (fun _ _ _ _ _ => (pe_and (pe_cmp (pc_din (by exact hu_of hr) (pe_fld (pv 9) rfl) (pv 7))) (pe_one (pe_cmp (pc_dnotin (by exact hu_of hr) (pe_fld (pv 9) rfl) (pv 5))))))) pa_nil))) (pss_one (ps_ret (pe_gi (by rfl) T.i_MADE_LATER))) pss_nil) (pss_one (ps_ret pe_int))))))))))))), ?_⟩)
  obtain ⟨_, ⟨a, xs, rs, i, r, rfl, hx, hA, hi, hn, hok, hc, rfl⟩, k⟩ := h
  obtain ⟨vr, hvr, hR⟩ := hA.getL hi
  have hil : i < rs.length := (List.getElem?_eq_some_iff.mp hi).1
  have hxl := hA.len
  have hrm : r ∈ rs := List.mem_of_getElem? hi
  have hro := hok r hrm
  have hoi := hro.i
  have hoo := hro.o
  -- record = records[i]; earlier = records[:i]; files = inputs + outputs
  refine q_asg (ev_lstAt (ev_var rfl) (ev_var rfl) hx hvr) fun H1 e1 => ?_
  refine q_asgL (el_sl (ev_var rfl) eo_none (eo_some (ev_var rfl)) (sq_of (e1 _ _ hx))) fun p3 H2 hp3 e2 h3 => ?_
  rw [cut_to _ _ (by omega)] at h3
  have e12 := e1.trans e2
  have hR2 := mono_rec _ _ _ _ e12 hR
  obtain ⟨q, dx, nm, tl, a1, a2, a3, xs1, xs2, xs3, rfl, hX⟩ := hR2
  have l2 := hX.i.len
  have l3 := hX.ou.len
  refine q_asgL (el_cat (ev_fld (ev_var rfl) hX.o T.c_Record T.n_Record_inputs rfl) (ev_fld (ev_var rfl) hX.o T.c_Record T.n_Record_outputs rfl) hX.l2 hX.l3 (by omega)) fun p4 H3 hp4 e3 h4 => ?_
  have e13 := e12.trans e3
  have hX3 := hX.mono e3 e3
  have h3' := e3 _ _ h3
  have hE3 : All2 (fun r v => RecAt K r v H3) (rs.take i) (xs.take i) := (hA.mono mono_rec e13).take i
  have hF3 : All2 (fun u v => FileAt K u v H3) (Vabldo.filesOf r) (xs2 ++ xs3) := hX3.i.app hX3.ou
  have hfl : (Vabldo.filesOf r).length ≤ 16 := by unfold Vabldo.filesOf; rw [List.length_append]; omega
  -- 1
  refine q_when (b := (rs.take i).any fun x => x.name == r.name) (et_B (ev_isS (ev_any (bs := (rs.take i).map fun x => decide (x.name = r.name)) ?_) ?_)) (fun hb H4 e4 => ?_) (fun hb H4 e4 => ?_)
  · rw [List.map_map]
    refine el_map (l := rs.take i) (A := RecAt K) (V.bl ∘ fun x => decide (x.name = r.name)) (it_list (M := []) (ev_var rfl) h3' (by rw [minus_nil]; exact hE3) mono_rec (by simp)) (by rw [List.length_take]; omega) (fun _ => rfl) fun x v H5 _ e5 hx => ?_
    obtain ⟨s, hs, hsn⟩ := rname T hx
    exact ev_eqTx (ev_tx (hsn (ev_var rfl)) hs) (ev_tx (ev_fld (ev_var rfl) (e5 _ _ hX3.o) T.c_Record T.n_Record_name rfl) (hX3.nm.mono e5))
  · rw [any_id]
    refine congrArg (List.any (rs.take i)) (funext fun x => ?_)
    exact (Bool.beq_eq_decide_eq _ _).symm
  · refine s_ret ev_c fun H5 e5 => k _ H5 ((e13.trans e4).trans e5) ?_
    unfold Vabldo.faultOf
    rw [if_pos hb]
    rfl
  have k1 := hb
  -- 2
  have hF4 := hF3.mono mono_file e4
  obtain ⟨l, hlu, hlA⟩ := nmfs hF4
  have hll : l.length = (Vabldo.filesOf r).length := by rw [← hlu, List.length_map]
  have hX4 := hX3.mono e4 e4
  have hXl : (xs2 ++ xs3).length = (Vabldo.filesOf r).length := hF3.len.symm
  refine q_when (b := !Vabldo.distinct ((Vabldo.filesOf r).map fun u => u.file)) (et_test (ev_isS (ep_lt (p := fun _ => True) (b := l.length) (ev_lenSet (P := P0) (l := l) (el_map (l := l) (A := NmF.At K) (fun p => V.ref p.s) (it_list (M := []) (ev_var rfl) (e4 _ _ h4) (by rw [minus_nil]; exact hlA) mono_nmf (by simp)) (by omega) (fun _ => rfl) fun p v H5 _ e5 hp => ?_) hlA (by omega)) (by rw [hll, ← hXl]; exact ev_lenLs (ev_var rfl) (e4 _ _ h4))) ?_)) (fun hb H5 e5 => ?_) (fun hb H5 e5 => ?_)
  · obtain ⟨rfl, x, dx, ex, hx, hs⟩ := hp
    exact ev_fld (ev_is (ev_var rfl) ex) hx T.c_File T.n_File_name rfl
  · have : (l.map fun p => p.u.file) = (Vabldo.filesOf r).map fun u => u.file := by rw [← hlu, List.map_map]; rfl
    rw [this]
  · refine s_ret ev_c fun H6 e6 => k _ H6 (((e13.trans e4).trans e5).trans e6) ?_
    unfold Vabldo.faultOf
    rw [if_neg (by rw [k1]; exact Bool.false_ne_true), if_pos (by simpa using hb)]
    rfl
  have k2 : ¬ Vabldo.distinct ((Vabldo.filesOf r).map fun u => u.file) = false := by simpa using hb
  -- 3
  have e15 := (e13.trans e4).trans e5
  have eo : ((rs.take i).flatMap fun r => r.outs).length ≤ 8 * (rs.take i).length := sum_le _ 8 _ fun x hx => (hok x (List.mem_of_mem_take hx)).o
  have ef : ((rs.take i).flatMap Vabldo.filesOf).length ≤ 16 * (rs.take i).length := sum_le _ 16 _ fun x hx => by
    have := hok x (List.mem_of_mem_take hx)
    have h1 := this.i
    have h2 := this.o
    unfold Vabldo.filesOf
    rw [List.length_append]
    omega
  have el : ((rs.drop (i + 1)).flatMap fun r => r.outs).length ≤ 8 * (rs.drop (i + 1)).length := sum_le _ 8 _ fun x hx => (hok x (List.mem_of_mem_drop hx)).o
  rw [List.length_take] at eo ef
  rw [List.length_drop] at el
  have hE5 := hE3.mono mono_rec (e4.trans e5)
  refine q_asgP (ep_callW (Post := fun v H' => ∃ d, v = .ref d ∧ DictAt (mOut (rs.take i)) d H') (ea_cons (ev_var rfl) ea_nil) fun H6 e6 => ⟨_, ⟨p3, xs.take i, rs.take i, rfl, ((e4.trans e5).trans e6) _ _ h3', hE5.mono mono_rec e6, by omega, rfl⟩, fun v H7 _ hv => by obtain ⟨d, h1, _, h2⟩ := hv; exact ⟨d, h1, h2⟩⟩) fun v H6 e6 hv => ?_
  obtain ⟨d5, rfl, hd5⟩ := hv
  have e16 := e15.trans e6
  have e36 := (e4.trans e5).trans e6
  have hX6 := hX3.mono e36 e36
  refine q_when (b := r.outs.any fun u => (rs.take i).any fun x => Vabldo.makes x u.file) (et_B (ev_isS (ev_any (bs := r.outs.map fun u => (mOut (rs.take i) u.file).isSome) ?_) ?_)) (fun hb H7 e7 => ?_) (fun hb H7 e7 => ?_)
  · rw [List.map_map]
    refine el_map (l := r.outs) (A := FileAt K) (V.bl ∘ fun u => (mOut (rs.take i) u.file).isSome) (it_list (M := []) (ev_fld (ev_var rfl) hX6.o T.c_Record T.n_Record_outputs rfl) hX6.l3 (by rw [minus_nil]; exact hX6.ou) mono_file (by simp)) (by omega) (fun _ => rfl) fun u v H7 _ e7 hu => ?_
    obtain ⟨s, hs, hsn⟩ := file_name T hu
    exact ev_inD (hsn (ev_var rfl)) hs (ev_var rfl) (hd5.mono e7)
  · rw [any_id]
    exact congrArg (List.any r.outs) (funext fun u => mOut_some _ _)
  · refine s_ret ev_c fun H8 e8 => k _ H8 ((e16.trans e7).trans e8) ?_
    unfold Vabldo.faultOf
    rw [if_neg (by rw [k1]; exact Bool.false_ne_true), if_neg k2, if_pos hb]
    rfl
  have k3 := hb
  -- 4
  have e37 := e36.trans e7
  have hX7 := hX6.mono e7 e7
  have hF7 := hF3.mono mono_file e37
  refine q_asgP (ep_callW (Post := fun v H' => ∃ d, v = .ref d ∧ DictAt (mNum (rs.take i)) d H') (ea_cons (ev_var rfl) ea_nil) fun H8 e8 => ⟨_, ⟨p3, xs.take i, rs.take i, rfl, (e37.trans e8) _ _ h3', hE3.mono mono_rec (e37.trans e8), by omega, rfl⟩, fun v H9 _ hv => by obtain ⟨d, h1, _, h2⟩ := hv; exact ⟨d, h1, h2⟩⟩) fun v H8 e8 hv => ?_
  obtain ⟨d6, rfl, hd6⟩ := hv
  have e38 := e37.trans e8
  refine q_when (b := (Vabldo.filesOf r).any fun u => (!decide ((match lastN ((rs.take i).flatMap Vabldo.filesOf) u.file with | some n => n | none => u.number) = u.number))) (et_B (ev_isS (ev_any (bs := (Vabldo.filesOf r).map fun u => (!decide ((match lastN ((rs.take i).flatMap Vabldo.filesOf) u.file with | some n => n | none => u.number) = u.number))) ?_) (any_id _ _))) (fun hb H9 e9 => ?_) (fun hb H9 e9 => ?_)
  · rw [List.map_map]
    refine el_map (l := Vabldo.filesOf r) (A := FileAt K) (V.bl ∘ fun u => (!decide ((match lastN ((rs.take i).flatMap Vabldo.filesOf) u.file with | some n => n | none => u.number) = u.number))) (it_list (M := []) (ev_var rfl) (e38 _ _ h4) (by rw [minus_nil]; exact hF3.mono mono_file e38) mono_file (by simp)) (by omega) (fun _ => rfl) fun u v H9 _ e9 hu => ?_
    obtain ⟨s, hs, hsn⟩ := file_name T hu
    obtain ⟨kvs, g1, _, g3⟩ := hd6
    have hg := ev_dget2 (td := tVar 6) (ty := tFld K (tVar 9) "name") (te := tFld K (tVar 9) "number") (z := .int (u.number : Int)) (σ := (wipe [some (.ref a), some (.int (i : Int)), some (.ref q), some (.ref p3), some (.ref p4), some (.ref d5), some (.ref d6), none, none, none] [9]).set 9 (some v)) (ev_var rfl) (hsn (ev_var rfl)) hs (e9 _ _ g1) (ev_fnum T (ev_var rfl) hu)
    rw [g3] at hg
    have hg2 : ((mNum (rs.take i) u.file).getD (.int (u.number : Int))) = .int (((match lastN ((rs.take i).flatMap Vabldo.filesOf) u.file with | some n => n | none => u.number) : Nat) : Int) := by
      unfold mNum
      cases lastN ((rs.take i).flatMap Vabldo.filesOf) u.file <;> rfl
    rw [hg2] at hg
    refine ev_is (ev_op hg (ev_fnum T (ev_var rfl) hu) (rv_ne rfl)) (congrArg V.bl (congrArg not ?_))
    refine decide_eq_decide.mpr ⟨fun z => ?_, fun z => by rw [z]⟩
    injection z with z
    omega
  · have hb4 : ((Vabldo.filesOf r).any fun u => (rs.take i).any fun x => match Vabldo.numberIn (Vabldo.filesOf x) u.file with | some n => n != u.number | none => false) = true := by
      exact (congrArg (List.any (Vabldo.filesOf r)) (funext fun u => (other_eq hc u).symm)).trans hb
    refine s_ret ev_c fun H10 e10 => k _ H10 (((e13.trans e38).trans e9).trans e10) ?_
    unfold Vabldo.faultOf
    rw [if_neg (by rw [k1]; exact Bool.false_ne_true), if_neg k2, if_neg (by rw [k3]; exact Bool.false_ne_true)]
    exact congrArg (fun n : Nat => V.int (n : Int)) (if_pos hb4).symm
  have k4 : ((Vabldo.filesOf r).any fun u => (rs.take i).any fun x => match Vabldo.numberIn (Vabldo.filesOf x) u.file with | some n => n != u.number | none => false) = false := by
    exact (congrArg (List.any (Vabldo.filesOf r)) (funext fun u => (other_eq hc u).symm)).trans hb
  -- 5
  have e39 := e38.trans e9
  have hX9 := hX3.mono e39 e39
  have hd59 : DictAt (mOut (rs.take i)) d5 H9 := hd5.mono ((e7.trans e8).trans e9)
  refine q_asgP (ep_callLW (Post := fun v H' => ∃ d, v = .ref d ∧ DictAt (mOut (rs.drop (i + 1))) d H') (el_sl (ev_var rfl) (eo_some (ev_op (ev_var rfl) ev_c rv_I0)) eo_none (sq_of ((e13.trans e39) _ _ hx))) fun p H10 e10 hp => ⟨_, ⟨p, xs.drop (i + 1), rs.drop (i + 1), rfl, by rw [hp]; exact congrArg (fun z => some (HO.lst z)) (cut_from xs (i + 1) (by omega)), (hA.mono mono_rec ((e13.trans e39).trans e10)).drop (i + 1), by omega, rfl⟩, fun v H11 _ hv => by obtain ⟨d, h1, _, h2⟩ := hv; exact ⟨d, h1, h2⟩⟩) fun v H10 e10 hv => ?_
  obtain ⟨d7, rfl, hd7⟩ := hv
  have hX10 := hX9.mono e10 e10
  refine q_when (b := r.ins.any fun u => (rs.drop (i + 1)).any (fun x => Vabldo.makes x u.file) && !(rs.take i).any fun x => Vabldo.makes x u.file) (et_B (ev_isS (ev_any (bs := r.ins.map fun u => ((mOut (rs.drop (i + 1)) u.file).isSome && !(mOut (rs.take i) u.file).isSome)) ?_) ?_)) (fun hb H11 e11 => ?_) (fun hb H11 e11 => ?_)
  · rw [List.map_map]
    refine el_map (l := r.ins) (A := FileAt K) (V.bl ∘ fun u => ((mOut (rs.drop (i + 1)) u.file).isSome && !(mOut (rs.take i) u.file).isSome)) (it_list (M := []) (ev_fld (ev_var rfl) hX10.o T.c_Record T.n_Record_inputs rfl) hX10.l2 (by rw [minus_nil]; exact hX10.i) mono_file (by simp)) (by omega) (fun _ => rfl) fun u v H11 _ e11 hu => ?_
    obtain ⟨s, hs, hsn⟩ := file_name T hu
    exact ev_andV (ev_inD (hsn (ev_var rfl)) hs (ev_var rfl) (hd7.mono e11)) fun _ => ev_notinD (hsn (ev_var rfl)) hs (ev_var rfl) (hd59.mono (e10.trans e11))
  · rw [any_id]
    exact congrArg (List.any r.ins) (funext fun u => by rw [mOut_some, mOut_some])
  · refine s_ret ev_c fun H12 e12 => k _ H12 ((((e13.trans e39).trans e10).trans e11).trans e12) ?_
    unfold Vabldo.faultOf
    rw [if_neg (by rw [k1]; exact Bool.false_ne_true), if_neg k2, if_neg (by rw [k3]; exact Bool.false_ne_true)]
    exact congrArg (fun n : Nat => V.int (n : Int)) (((if_neg (Bool.eq_false_iff.mp k4)).trans (if_pos hb)).symm)
  · refine s_ret ev_c fun H12 e12 => k _ H12 ((((e13.trans e39).trans e10).trans e11).trans e12) ?_
    unfold Vabldo.faultOf
    rw [if_neg (by rw [k1]; exact Bool.false_ne_true), if_neg k2, if_neg (by rw [k3]; exact Bool.false_ne_true)]
    exact congrArg (fun n : Nat => V.int (n : Int)) (((if_neg (Bool.eq_false_iff.mp k4)).trans (if_neg (by rw [hb]; exact Bool.false_ne_true))).symm)
end
end Bl

-- part W19
set_option Elab.async false
set_option linter.all false
set_option maxRecDepth 100000
set_option maxHeartbeats 4000000
namespace Bl
open PySem PySem.Spec PyProof.Rows L2 Evl
open Vabldo (valueOf)
section
variable {α : Type} {w : World} {K : PySem.W.Frag} {mg : Str → Option Value} {base : Heap} {σ : L2.St} {H H' : Hp} {ta tb tc te tl td ty : TE} {v y z : V} {D : Ends} {tu tz : TS}
theorem range_split {n i : Nat} {pre post : List Nat} (h : List.range n = pre ++ i :: post) : i = pre.length ∧ pre.length < n := by
  have hl : pre.length < (List.range n).length := by rw [h, List.length_append, List.length_cons]; omega
  have e : (List.range n)[pre.length]? = some i := by rw [h, List.getElem?_append_right (Nat.le_refl _), Nat.sub_self]; rfl
  rw [List.length_range] at hl
  rw [List.getElem?_range hl] at e
  exact ⟨(Option.some.inj e).symm, hl⟩
theorem el_listT {p : Addr} {xs : List V} (ha : Ev ta σ H (.ref p)) (h : SqT K H p xs) : EvL (tCB (fun xs H Q => ∃ p ys, xs = [V.ref p] ∧ (SqL K H p ys ∨ SqT K H p ys) ∧ ∀ l, H l = none → Q (.ref l) (upd H l (.lst ys))) (tCons ta tNil)) σ H xs := fun H1 e Q q =>
  ha H1 e _ fun H2 e2 => ⟨p, xs, rfl, Or.inr (ex_t (e.trans e2) h), fun l hl => q l _ (fresh_back e2 hl) (e2.trans (Ex.new hl)) upd_same⟩
theorem fault_at {rs : List Vabldo.Record} {i : Nat} {r : Vabldo.Record} (hi : rs[i]? = some r) : Vabldo.faultIn (rs.take i) (rs.drop i) = if Vabldo.faultOf (rs.take i) r (rs.drop (i + 1)) ≠ 0 then some (Vabldo.faultOf (rs.take i) r (rs.drop (i + 1)), r.name) else Vabldo.faultIn (rs.take (i + 1)) (rs.drop (i + 1)) := by
  obtain ⟨hl, e⟩ := List.getElem?_eq_some_iff.mp hi
  rw [List.drop_eq_getElem_cons hl, e, take_succ_of hi]
  rfl
theorem sc_first_fault : FnScope ["log", "records", "i", "number"] ["log"] (defScope s_first_fault) := ⟨rfl, rfl, rfl, by decide +kernel, rfl, by decide +kernel, by decide +kernel⟩
theorem ok_first_fault (T : Txt w K mg) (H_record_fault : Has P0 w K mg base "record_fault" 2 ["records", "i"] (sp_record_fault K)) : Has P0 w K mg base "first_fault" 3 ["log"] (sp_first_fault K) := by
  refine has_of T.f_first_fault T.g_first_fault sc_first_fault (fun _ _ _ _ _ _ us hl => match us, hl with | [_], _ => rfl) (fun vs H Q E h => by obtain ⟨_, ⟨v, l, rfl, hLg, hok, rfl⟩, _⟩ := h; rfl) (fun cdv A outer s H vs Q E hr h => ⟨_, PSs.nox (pss_cons (ps_set (i := 1) sc_first_fault.nd rfl (Or.inl rfl) (pe_fld (pv 0) rfl)) (pss_cons (ps_for PassesOwn.never rfl (pi_range1 rfl T.b_range (pa_cons (pe_callB call_len_seq (by rfl) T.b_len PySem.boot_len (pa_cons (pv 1) pa_nil)) pa_nil)) (pg_name (i := 2) sc_first_fault.nd rfl (Or.inl rfl)) (pss_cons (ps_set (i := 3) sc_first_fault.nd rfl (Or.inl rfl) (pe_h H_record_fault (by exact hr.mono (by decide)) (by rfl) (pa_cons (pv 1) (pa_cons (pv 2) pa_nil)))) (pss_one (ps_if (pt_cmpR op_gt (pv 3) pe_int (nomark _)) (pss_one (ps_ret (pe_op op_cat (pe_lst (pa_cons (pv 3) pa_nil)) (pe_callTy call_list_of (by rfl) T.b_list (by decide +kernel) (pa_cons (pe_fld (pe_ix ix_list (pv 1) (pv 2) (fun _ _ => rfl)) rfl) pa_nil))))) pss_nil)))) (pss_cons (ps_if (pt_cmpR op_ne (pe_fld (pv 0) rfl) (pe_callB call_len_seq (by rfl) T.b_len PySem.boot_len (pa_cons (pv 1) pa_nil)) (nomark _)) (pss_one (ps_ret (pe_lst (pa_cons (pe_gi (by rfl) T.i_WRONG_TOTAL) pa_nil)))) pss_nil) (pss_one (ps_ret (pe_lst (pa_cons pe_int pa_nil))))))), ?_⟩)
  obtain ⟨_, ⟨v, l, rfl, hLg, hok, rfl⟩, k⟩ := h
  obtain ⟨x, dx, rl, xs, rfl, hx, hrl, hA⟩ := hLg
  obtain ⟨ht, hn, hro⟩ := hok.prt
  have hxl := hA.len
  refine q_asg (ev_fld (ev_var rfl) hx T.c_Log T.n_Log_records rfl) fun H1 e1 => ?_
  refine q_forE (l := List.range xs.length) (it_rng (ea_cons (ev_lenLs (ev_var rfl) (e1 _ _ hrl)) ea_nil) (by omega)) (fun pre σ' H' => (∃ y z, σ' = [some (.ref x), some (.ref rl), y, z]) ∧ Vabldo.faultIn [] l.records = Vabldo.faultIn (l.records.take pre.length) (l.records.drop pre.length) ∧ Cons1 ((l.records.take pre.length).flatMap Vabldo.filesOf)) (fun H2 e2 => ⟨⟨_, _, rfl⟩, rfl, by intro u hu; cases hu⟩) (fun H2 e2 pre b post xv σ' H' hl e3 hP hb => ?_) (fun σ' H' e2 hP => ?_)
  · obtain ⟨⟨y, z, rfl⟩, hf, hc⟩ := hP
    obtain ⟨rfl, hlt⟩ := range_split hl
    subst hb
    obtain ⟨r, hr, _⟩ := at_of (t := l.records) (p := pre.length) (by omega)
    obtain ⟨vr, hvr, hR⟩ := hA.getL hr
    have e13 := (e1.trans e2).trans e3
    rw [fault_at hr] at hf
    refine q_asg (ev_callR (ea_cons (ev_var rfl) (ea_cons (ev_var rfl) ea_nil)) fun H3 e4 => ⟨rl, xs, l.records, pre.length, r, rfl, (e13.trans e4) _ _ hrl, hA.mono mono_rec (e13.trans e4), hr, hn, hro, hc, rfl⟩) fun H3 e4 => ?_
    refine s_when (b := decide (0 < Vabldo.faultOf (l.records.take pre.length) r (l.records.drop (pre.length + 1)))) (et_eq (et_test (ev_gt (ev_var rfl) ev_c)) (dec_lt 0 _)) (fun hb H4 e5 => ?_) (fun hb H4 e5 => ⟨(e3.trans e4).trans e5, ⟨_, _, rfl⟩, ?_, ?_⟩)
    · have hb := of_decide_eq_true hb
      rw [if_pos (by omega)] at hf
      obtain ⟨s, hs, hsn⟩ := rname T (mono_rec _ _ _ _ ((e13.trans e4).trans e5) hR)
      have hnl : r.name.length ≤ 32 := by
        have := (hro r (List.mem_of_getElem? hr)).nm.1
        unfold Vabldo.isName at this
        simp only [Bool.and_eq_true, decide_eq_true_eq] at this
        exact this.2.2.1
      refine s_retL (el_catLL (el_lst (ea_cons (ev_var rfl) ea_nil) (show (1 : Nat) ≤ 100000 by decide)) (el_listT (hsn (ev_lstAt (ev_var rfl) (ev_var rfl) (((e13.trans e4).trans e5) _ _ hrl) hvr)) hs.sq) (by rw [tv_len]; show 1 + _ ≤ _; omega)) fun p H5 hp e6 h5 => k _ H5 (((e13.trans e4).trans e5).trans e6) ⟨p, rfl, fresh_back ((e13.trans e4).trans e5) hp, ?_⟩
      have e : faultV l = Vabldo.faultOf (l.records.take pre.length) r (l.records.drop (pre.length + 1)) :: r.name := by
        unfold faultV Vabldo.fault
        rw [hf]
      rw [e]
      exact h5
    · have hb := of_decide_eq_false hb
      rw [if_neg (by omega)] at hf
      rw [List.length_append, List.length_singleton]
      exact hf
    · have hb := of_decide_eq_false hb
      have := cons1_step hc (show Vabldo.faultOf (l.records.take pre.length) r (l.records.drop (pre.length + 1)) = 0 by omega)
      rw [List.length_append, List.length_singleton, take_succ_of hr]
      exact this
  · obtain ⟨⟨y, z, rfl⟩, hf, hc⟩ := hP
    have hf : Vabldo.faultIn [] l.records = none := by
      rw [List.length_range, ← hxl, List.take_length, List.drop_length] at hf
      exact hf
    have e12 := e1.trans e2
    refine q_when (b := !decide (l.told = l.records.length)) (et_eq (et_test (ev_op (ev_fld (ev_var rfl) (e12 _ _ hx) T.c_Log T.n_Log_total rfl) (ev_lenLs (ev_var rfl) (e12 _ _ hrl)) (rv_ne rfl))) ?_) (fun hb H3 e3 => ?_) (fun hb H3 e3 => ?_)
    · refine congrArg not (decide_eq_decide.mpr ⟨fun z => ?_, fun z => by rw [z, hxl]⟩)
      injection z with z
      omega
    · refine s_retL (el_lst (ea_cons ev_c ea_nil) (by decide)) fun p H4 hp e4 h4 => k _ H4 ((e12.trans e3).trans e4) ⟨p, rfl, fresh_back (e12.trans e3) hp, ?_⟩
      have e : faultV l = [6] := by
        unfold faultV Vabldo.fault
        rw [hf]
        dsimp only
        rw [if_neg (by simpa using hb)]
      rw [e]
      exact h4
    · refine s_retL (el_lst (ea_cons ev_c ea_nil) (by decide)) fun p H4 hp e4 h4 => k _ H4 ((e12.trans e3).trans e4) ⟨p, rfl, fresh_back (e12.trans e3) hp, ?_⟩
      have e : faultV l = [0] := by
        unfold faultV Vabldo.fault
        rw [hf]
        dsimp only
        rw [if_pos (by simpa using hb)]
      rw [e]
      exact h4
theorem shaped_lst (t : List Nat) : SeqAt.shaped (.list (dInts t)) = true := by
  unfold SeqAt.shaped
  rw [Bool.and_eq_true]
  refine ⟨can_txt t, decide_eq_true ?_⟩
  show PyData.depthAll (dInts t) + 1 ≤ 64
  rw [depth_txt]
  decide
theorem eqv_lst (ns ms : List Nat) : PyData.eqv (.list (dInts ns)) (.list (dInts ms)) = decide (ns = ms) := by
  rw [← eqv_all]
  simp [PyData.eqv]
theorem sound_eq (l : Vabldo.Log) : decide (faultV l = [0]) = Vabldo.sound l := by
  unfold faultV Vabldo.sound
  cases hf : Vabldo.fault l with
  | none => rfl
  | some x =>
    dsimp only
    refine decide_eq_false fun z => ?_
    injection z with z1 z2
    -- a fault's number is not 0
    unfold Vabldo.fault at hf
    have hn : ∀ (later earlier : List Vabldo.Record) (y : Nat × List Nat), Vabldo.faultIn earlier later = some y → y.1 ≠ 0 := by
      intro later
      induction later with
      | nil => intro e y h; cases h
      | cons r later ih =>
        intro e y h
        have h : (if Vabldo.faultOf e r later ≠ 0 then some (Vabldo.faultOf e r later, r.name) else Vabldo.faultIn (e ++ [r]) later) = some y := h
        by_cases hz : Vabldo.faultOf e r later ≠ 0
        · rw [if_pos hz] at h
          cases h
          exact hz
        · rw [if_neg hz] at h
          exact ih _ y h
    cases hi : Vabldo.faultIn [] l.records with
    | some y =>
      rw [hi] at hf
      cases hf
      exact hn _ _ _ hi z1
    | none =>
      rw [hi] at hf
      dsimp only at hf
      split at hf
      · cases hf
      · cases hf
        cases z1
theorem sc_is_sound : FnScope ["log"] ["log"] (defScope s_is_sound) := ⟨rfl, rfl, rfl, by decide +kernel, rfl, by decide +kernel, by decide +kernel⟩
theorem ok_is_sound (T : Txt w K mg) (H_first_fault : Has P0 w K mg base "first_fault" 3 ["log"] (sp_first_fault K)) : Has P0 w K mg base "is_sound" 4 ["log"] (sp_is_sound K) := by
  refine has_of T.f_is_sound T.g_is_sound sc_is_sound (fun _ _ _ _ _ _ us hl => match us, hl with | [_], _ => rfl) (fun vs H Q E h => by obtain ⟨_, ⟨v, l, rfl, hLg, hok, rfl⟩, _⟩ := h; rfl) (fun cdv A outer s H vs Q E hr h => ⟨_, PSs.nox (pss_one (ps_ret (pe_cmpR (op_eqD (by exact hr.units)) (pe_h H_first_fault (by exact hr.mono (by decide)) (by rfl) (pa_cons (pv 0) pa_nil)) (pe_lst (pa_cons pe_int pa_nil)) (nomark _)))), ?_⟩)
  obtain ⟨_, ⟨v, l, rfl, hLg, hok, rfl⟩, k⟩ := h
  refine s_ret (v := .bl (Vabldo.sound l)) (evp_v (ep_op (PA := fun v H' => ∃ p, v = .ref p ∧ H' p = some (.lst (tv (faultV l)))) (PB := fun _ _ v H' => ∃ p, v = .ref p ∧ H' p = some (.lst (tv [0]))) (ep_callW (ea_cons (ev_var rfl) ea_nil) fun H1 e1 => ⟨_, ⟨v, l, rfl, mono_log _ _ _ _ e1 hLg, hok, rfl⟩, fun v H2 _ hv => by obtain ⟨p, h1, _, h2⟩ := hv; exact ⟨p, h1, h2⟩⟩) (fun x H1 e1 _ H2 e2 Q q => el_lst (ea_cons ev_c ea_nil) (by decide) H2 e2 Q fun p H3 _ e3 h3 => q _ H3 e3 ⟨p, rfl, h3⟩) fun x H1 y H2 e1 px e2 py Q k2 => ?_)) fun H1 e1 => k _ H1 e1 rfl
  obtain ⟨p, rfl, hp⟩ := px
  obtain ⟨q, rfl, hq⟩ := py
  refine ⟨.list (dInts (faultV l)), .list (dInts [0]), .lst (sq_of (e2 _ _ hp)) (dp_txt _), .lst (sq_of hq) (dp_txt _), shaped_lst _, shaped_lst _, ?_⟩
  rw [eqv_lst, sound_eq]
  exact k2 _ H2 (Ex.refl H2) rfl
end
end Bl

-- part W20
set_option Elab.async false
set_option linter.all false
set_option maxRecDepth 100000
set_option maxHeartbeats 4000000
namespace Bl
open PySem PySem.Spec PyProof.Rows L2 Evl
open Vabldo (valueOf)
/-! ### the walks of files.py -/
def fileIn (rs : List Vabldo.Record) (t : List Nat) : Option Vabldo.Used := (rs.flatMap Vabldo.filesOf).find? fun u => u.file == t
def makerIn (rs : List Vabldo.Record) (t : List Nat) : Option Vabldo.Record := rs.find? fun r => Vabldo.makes r t
def OptAt {α : Type} (A : α → V → Hp → Prop) (o : Option α) : V → Hp → Prop := fun v H => match o with
  | none => v = .non
  | some a => A a v H
/-- v is what stands for d in a list -/
def InL {α : Type} (ds : List α) (xs : List V) (d : α) (v : V) (_ : Hp) : Prop := v ≠ .non ∧ ∃ i : Nat, ds[i]? = some d ∧ xs[i]? = some v
theorem mono_in {α : Type} {ds : List α} {xs : List V} : Mono (InL ds xs) := fun _ _ _ _ _ h => h
theorem InL.at_ {α : Type} {A : α → V → Hp → Prop} {ds : List α} {xs : List V} {d : α} {v : V} {H G : Hp} (h : InL ds xs d v H) (hA : All2 (fun d v => A d v G) ds xs) : A d v G := by
  obtain ⟨_, i, h1, h2⟩ := h
  obtain ⟨x, hx, r⟩ := hA.getL h1
  rw [h2] at hx
  cases hx
  exact r
theorem all2_idx {α β : Type} {R : α → β → Prop} {as : List α} {bs : List β} (h : All2 R as bs) : All2 (fun a b => R a b ∧ ∃ i : Nat, as[i]? = some a ∧ bs[i]? = some b) as bs := by
  induction h with
  | nil => exact .nil
  | cons h1 h2 ih => exact .cons ⟨h1, 0, rfl, rfl⟩ (ih.imp fun a b h => ⟨h.1, by
    obtain ⟨i, e1, e2⟩ := h.2
    exact ⟨i + 1, by simpa using e1, by simpa using e2⟩⟩)
theorem rec_ref {K : PySem.W.Frag} {r : Vabldo.Record} {v : V} {H : Hp} (h : RecAt K r v H) : v ≠ .non := by
  obtain ⟨p, dx, nm, tl, a1, a2, a3, xs1, xs2, xs3, rfl, _⟩ := h
  intro z
  cases z
theorem opt_fst {α : Type} {A B : α → V → Hp → Prop} {o : Option α} {v : V} {H : Hp} (h : OptAt (fun a v H => A a v H ∧ B a v H) o v H) : OptAt A o v H := by
  cases o with
  | none => exact h
  | some a => exact (And.left h)
abbrev sp_find_file (K : PySem.W.Frag) : Sp := spR fun vs H Post => ∃ (a : Addr) (xs : List V) (rs : List Vabldo.Record) (b : Addr) (t : List Nat), vs = [.ref a, .ref b] ∧ H a = some (.lst xs) ∧ All2 (fun r v => RecAt K r v H) rs xs ∧ Tx H b t ∧ (∀ r ∈ rs, rcN r ≤ 1000) ∧ Post = OptAt (FileAt K) (fileIn rs t)
abbrev sp_find_maker (K : PySem.W.Frag) : Sp := spR fun vs H Post => ∃ (a : Addr) (xs : List V) (rs : List Vabldo.Record) (b : Addr) (t : List Nat), vs = [.ref a, .ref b] ∧ H a = some (.lst xs) ∧ All2 (fun r v => RecAt K r v H) rs xs ∧ Tx H b t ∧ (∀ r ∈ rs, rcN r ≤ 1000) ∧ Post = OptAt (fun r v H' => RecAt K r v H' ∧ InL rs xs r v H') (makerIn rs t)
section
variable {α : Type} {w : World} {K : PySem.W.Frag} {mg : Str → Option Value} {base : Heap} {σ : L2.St} {H H' : Hp} {ta tb tc te tl td ty : TE} {v y z : V} {D : Ends} {tu tz : TS}
theorem sc_find_file : FnScope ["records", "name", "record", "file"] ["records", "name"] (defScope s_find_file) := ⟨rfl, rfl, rfl, by decide +kernel, rfl, by decide +kernel, by decide +kernel⟩
theorem ok_find_file (T : Txt w K mg)  : Has P0 w K mg base "find_file" 1 ["records", "name"] (sp_find_file K) := by
  refine has_of T.f_find_file T.g_find_file sc_find_file (fun _ _ _ _ _ _ us hl => match us, hl with | [_, _], _ => rfl) (fun vs H Q E h => by obtain ⟨_, ⟨a, xs, rs, b, t, rfl, hx, hA, hb, hz, rfl⟩, _⟩ := h; rfl) (fun cdv A outer s H vs Q E hr h => ⟨_, PSs.nox (pss_cons (ps_for PassesOwn.never rfl (pi_list (pv 0)) (pg_name (i := 2) sc_find_file.nd rfl (Or.inl rfl)) (pss_one (ps_for PassesOwn.never rfl (pi_list (pe_op op_cat (pe_fld (pv 2) rfl) (pe_fld (pv 2) rfl))) (pg_name (i := 3) sc_find_file.nd rfl (Or.inl rfl)) (pss_one (ps_if (pt_cmpR (op_eqD (by exact hr.units)) (pe_fld (pv 3) rfl) (pv 1) (nomark _)) (pss_one (ps_ret (pv 3))) pss_nil))))) (pss_one (ps_ret pe_non))), ?_⟩)
  obtain ⟨_, ⟨a, xs, rs, b, t, rfl, hx, hA, hb, hz, rfl⟩, k⟩ := h
  refine q_forE (l := rs) (A := RecAt K) (it_list (M := []) (ev_var rfl) hx (by rw [minus_nil]; exact hA) mono_rec (by simp)) (fun pre σ' _ => (∃ y z, σ' = [some (.ref a), some (.ref b), y, z]) ∧ ∀ u ∈ pre.flatMap Vabldo.filesOf, (u.file == t) = false) (fun H1 e1 => ⟨⟨_, _, rfl⟩, by simp⟩) (fun H2 e2 pre r post xr σ' H' hl e3 hP hR => ?_) (fun σ' H' e1 hP => ?_)
  · obtain ⟨⟨y, z, rfl⟩, hn⟩ := hP
    obtain ⟨q, dx, nm, tl, a1, a2, a3, xs1, xs2, xs3, rfl, hX⟩ := hR
    have hrz := hz r (by rw [hl]; simp)
    unfold rcN at hrz
    have l2 := hX.i.len
    have l3 := hX.ou.len
    have hb3 := hb.mono (e2.trans e3)
    refine s_forE (l := Vabldo.filesOf r) (A := FileAt K) (it_newL (M := []) (el_cat (ev_fld (ev_var rfl) hX.o T.c_Record T.n_Record_inputs rfl) (ev_fld (ev_var rfl) hX.o T.c_Record T.n_Record_outputs rfl) hX.l2 hX.l3 (by omega)) (by rw [minus_nil]; exact hX.i.app hX.ou) mono_file (by simp)) (fun pre2 σ' _ => (∃ z, σ' = [some (.ref a), some (.ref b), some (.ref q), z]) ∧ ∀ u ∈ pre2, (u.file == t) = false) (fun H4 e4 => ⟨⟨_, rfl⟩, by simp⟩) (fun H4 e4 pre2 u post2 xu σ' H5 hl2 e5 hP2 hu => ?_) (fun σ' H5 e4 hP2 => ?_)
    · obtain ⟨⟨z2, rfl⟩, hn2⟩ := hP2
      refine s_when (b := decide (u.file = t)) (et_test (ev_eqTx (ep_fname T (ev_var rfl) hu) (ev_tx (ev_var rfl) (hb3.mono (e4.trans e5))))) (fun hb H6 e6 => ?_) (fun hb H6 e6 => ⟨e5.trans e6, ⟨_, rfl⟩, ?_⟩)
      · refine s_ret (ev_var rfl) fun H7 e7 => k _ H7 (((e2.trans e3).trans (e4.trans e5)).trans (e6.trans e7)) ?_
        have e : fileIn rs t = some u := by
          unfold fileIn
          rw [hl, List.flatMap_append, List.flatMap_cons, hl2, List.append_assoc, List.cons_append, ← List.append_assoc]
          refine find_at (fun x hx => ?_) (beq_iff_eq.mpr (of_decide_eq_true hb))
          rcases List.mem_append.mp hx with hx | hx
          · exact hn x hx
          · exact hn2 x hx
        rw [e]
        exact mono_file _ _ _ _ (e6.trans e7) hu
      · intro x hx
        rcases List.mem_append.mp hx with hx | hx
        · exact hn2 x hx
        · rw [List.mem_singleton.mp hx]
          exact beq_eq_false_iff_ne.mpr (of_decide_eq_false hb)
    · obtain ⟨⟨z2, rfl⟩, hn2⟩ := hP2
      refine ⟨e3.trans e4, ⟨_, _, rfl⟩, fun u hu => ?_⟩
      rw [List.flatMap_append, List.flatMap_cons, List.flatMap_nil, List.append_nil] at hu
      rcases List.mem_append.mp hu with hu | hu
      · exact hn u hu
      · exact hn2 u hu
  · obtain ⟨⟨y, z, rfl⟩, hn⟩ := hP
    refine s_ret ev_c fun H2 e2 => k _ H2 (e1.trans e2) ?_
    have e : fileIn rs t = none := find_none hn
    rw [e]
    rfl
theorem sc_find_maker : FnScope ["records", "name", "record", "file"] ["records", "name"] (defScope s_find_maker) := ⟨rfl, rfl, rfl, by decide +kernel, rfl, by decide +kernel, by decide +kernel⟩
theorem ok_find_maker (T : Txt w K mg)  : Has P0 w K mg base "find_maker" 1 ["records", "name"] (sp_find_maker K) := by
  refine has_of T.f_find_maker T.g_find_maker sc_find_maker (fun _ _ _ _ _ _ us hl => match us, hl with | [_, _], _ => rfl) (fun vs H Q E h => by obtain ⟨_, ⟨a, xs, rs, b, t, rfl, hx, hA, hb, hz, rfl⟩, _⟩ := h; rfl) (fun cdv A outer s H vs Q E hr h => ⟨_, PSs.nox (pss_cons (ps_for PassesOwn.never rfl (pi_list (pv 0)) (pg_name (i := 2) sc_find_maker.nd rfl (Or.inl rfl)) (pss_one (ps_if (pt_val (pe_callB (cr_any rfl) (by rfl) T.b_any (by decide +kernel) (pa_cons (pe_lc (own := [("file", 3)]) (g := gName 3) (te := (tOp (rEqD K) (tFld K (tVar 3) "name") (tVar 1))) rfl sc_find_maker.nd (pi_list (pe_fld (pv 2) rfl)) (blkOk_by (own := [("file", 3)]) (N := ["records", "name", "record", "file"]) (sc := defScope s_find_maker) (by decide +kernel)) (fun _ _ _ _ _ => pg_name (i := 3) sc_find_maker.nd rfl (Or.inl rfl)) (fun _ _ _ _ _ => pts_nil) (fun _ _ _ _ _ => (pe_cmpR (op_eqD (by exact hr.units)) (pe_fld (pv 3) rfl) (pv 1) (nomark _)))) pa_nil))) (pss_one (ps_ret (pv 2))) pss_nil))) (pss_one (ps_ret pe_non))), ?_⟩)
  obtain ⟨_, ⟨a, xs, rs, b, t, rfl, hx, hA, hb, hz, rfl⟩, k⟩ := h
  refine q_forE (l := rs) (A := fun r x G => RecAt K r x G ∧ InL rs xs r x G) (it_list (M := []) (ev_var rfl) hx (by rw [minus_nil]; exact (all2_idx hA).imp fun r v h => ⟨h.1, rec_ref h.1, h.2⟩) (fun r v G G' e h => ⟨mono_rec _ _ _ _ e h.1, h.2⟩) (by simp)) (fun pre σ' _ => (∃ y z, σ' = [some (.ref a), some (.ref b), y, z]) ∧ ∀ r ∈ pre, Vabldo.makes r t = false) (fun H1 e1 => ⟨⟨_, _, rfl⟩, by simp⟩) (fun H2 e2 pre r post xr σ' H' hl e3 hP hR => ?_) (fun σ' H' e1 hP => ?_)
  · obtain ⟨⟨y, z, rfl⟩, hn⟩ := hP
    have hRt := hR
    obtain ⟨hR, hI⟩ := hR
    obtain ⟨q, dx, nm, tl, a1, a2, a3, xs1, xs2, xs3, rfl, hX⟩ := hR
    have hrz := hz r (by rw [hl]; simp)
    unfold rcN at hrz
    have hb3 := hb.mono (e2.trans e3)
    refine s_when (b := Vabldo.makes r t) (et_B (ev_isS (ev_any (bs := r.outs.map fun u => decide (u.file = t)) ?_) ?_)) (fun hm H4 e4 => ?_) (fun hm H4 e4 => ⟨e3.trans e4, ⟨_, _, rfl⟩, ?_⟩)
    · rw [List.map_map]
      exact el_map (l := r.outs) (A := FileAt K) (V.bl ∘ fun u => decide (u.file = t)) (it_list (M := []) (ev_fld (ev_var rfl) hX.o T.c_Record T.n_Record_outputs rfl) hX.l3 (by rw [minus_nil]; exact hX.ou) mono_file (by simp)) (by omega) (fun _ => rfl) fun u v H5 _ e5 hu => ev_eqTx (ep_fname T (ev_var rfl) hu) (ev_tx (ev_var rfl) (hb3.mono e5))
    · rw [any_id]
      exact congrArg (List.any r.outs) (funext fun u => (Bool.beq_eq_decide_eq _ _).symm)
    · refine s_ret (ev_var rfl) fun H5 e5 => k _ H5 ((e2.trans e3).trans (e4.trans e5)) ?_
      have e : makerIn rs t = some r := by
        unfold makerIn
        rw [hl]
        exact find_at (p := fun r => Vabldo.makes r t) hn hm
      rw [e]
      exact ⟨mono_rec _ _ _ _ (e4.trans e5) hRt.1, hRt.2⟩
    · intro x hx
      rcases List.mem_append.mp hx with hx | hx
      · exact hn x hx
      · rw [List.mem_singleton.mp hx]
        exact hm
  · obtain ⟨⟨y, z, rfl⟩, hn⟩ := hP
    refine s_ret ev_c fun H2 e2 => k _ H2 (e1.trans e2) ?_
    have e : makerIn rs t = none := find_none (p := fun r => Vabldo.makes r t) hn
    rw [e]
    rfl
theorem ep_isN {P : V → Hp → Prop} {b : Bool} (h : EvP ta σ H P) (hb : ∀ v H1, P v H1 → decide (v = .non) = b) : Ev (tOp (fun x y H Q => y = .non ∧ Q (.bl (decide (x = .non))) H) ta (tC .non)) σ H (.bl b) := fun H1 e Q q =>
  h H1 e _ fun v H2 e2 p => ⟨rfl, by rw [hb v H2 p]; exact q H2 e2⟩
theorem ep_notN {P : V → Hp → Prop} {b : Bool} (h : EvP ta σ H P) (hb : ∀ v H1, P v H1 → decide (v = .non) = b) : Ev (tOp (fun x y H Q => y = .non ∧ Q (.bl (!decide (x = .non))) H) ta (tC .non)) σ H (.bl (!b)) := fun H1 e Q q =>
  h H1 e _ fun v H2 e2 p => ⟨rfl, by rw [hb v H2 p]; exact q H2 e2⟩
theorem rec_some {o : Option Vabldo.Record} (h : OptAt (RecAt K) o v H) : decide (v = .non) = o.isNone := by
  cases o with
  | none =>
    have e : v = .non := h
    rw [e]
    rfl
  | some r =>
    obtain ⟨p, _, _, _, _, _, _, _, _, _, rfl, _⟩ := (h : RecAt K r v H)
    exact decide_eq_false (by intro z; cases z)
theorem file_some {o : Option Vabldo.Used} (h : OptAt (FileAt K) o v H) : decide (v = .non) = o.isNone := by
  cases o with
  | none =>
    have e : v = .non := h
    rw [e]
    rfl
  | some r =>
    obtain ⟨p, _, _, rfl, _⟩ := (h : FileAt K r v H)
    exact decide_eq_false (by intro z; cases z)
theorem mono_opt {A : α → V → Hp → Prop} (m : Mono A) : Mono (fun (o : Option α) v H => OptAt A o v H) := fun o v H H' e h => by
  cases o with
  | none => exact h
  | some a => exact m a v H H' e h
/-- a comprehension whose parts are told by what is true of them -/
theorem em_comp {β : Type} {j : Nat} {vs : List Nat} {l : List α} {A : α → V → Hp → Prop} {wi : TI} {t : TT} (p : α → Bool) (B : α → V → Hp → Prop) (m : Mono B) (hi : ItA [] wi σ H l A) (hz : l.length ≤ 40000) (hw : ∀ x, wipe ((wipe σ vs).set j (some x)) vs = wipe σ vs) (hB : ∀ a v H (D : Addr) (xs : List V), B a v H → H D = some (.lst xs) → B a v (minus H [D]))
    (ht : ∀ b x H1, b ∈ l → Ex H H1 → A b x H1 → EvT t ((wipe σ vs).set j (some x)) H1 (p b)) (he : ∀ b x H1, b ∈ l → Ex H H1 → A b x H1 → p b = true → EvP te ((wipe σ vs).set j (some x)) H1 (B b)) :
    ∀ H0, Ex H H0 → ∀ Q : VK, (∀ q ys H2, H0 q = none → Ex H0 H2 → H2 q = some (.lst ys) → All2 (fun a v => B a v H2) (l.filter p) ys → Q (.ref q) H2) → tLc wi (gName j) t te vs σ H0 Q := fun H0 e0 Q q => hi H0 e0 _ fun J H1 e1 w => by
  intro Dl hD
  refine lc_it w (fun i H' => H1 Dl = none ∧ Ex H1 H' ∧ ∃ ys, H' Dl = some (.lst ys) ∧ All2 (fun a v => B a v H') ((l.take i).filter p) ys) ⟨hD, Ex.new hD, [], upd_same, by rw [List.take_zero]; exact .nil⟩ (fun i H' _ h => by rw [minus_nil]; exact h.2.1) (fun i x H2 H' hlt h y => ?_) (fun H' h => by
    obtain ⟨h1, h2, ys, h3, h4⟩ := h
    rw [List.take_length] at h4
    exact q Dl ys H' (fresh_back e1 h1) (e1.trans h2) h3 h4)
  obtain ⟨eH, b, hb, hA⟩ := y
  subst eH
  obtain ⟨h1, h2, ys, h3, h4⟩ := h
  have hm : b ∈ l := List.mem_of_getElem? hb
  refine ⟨hw x, ht b x H' hm ((e0.trans e1).trans h2) hA H' (Ex.refl H') _ fun H3 e3 => ?_⟩
  rw [take_succ_of hb, List.filter_append]
  cases hp : p b with
  | true =>
    show te _ H3 _
    refine he b x H' hm ((e0.trans e1).trans h2) hA hp H3 e3 _ fun z H4 e4 pz => ⟨ys, (e3.trans e4) _ _ h3, ?_, h1, Ex.mut ((h2.trans e3).trans e4) h1, ys ++ [z], upd_same, ?_⟩
    · refine sz_lt ?_
      have := h4.len
      have h5 := List.length_filter_le p (l.take i)
      rw [List.length_take] at h5
      omega
    · rw [List.filter_cons, if_pos hp]
      have em : Ex (minus H4 [Dl]) (upd H4 Dl (.lst (ys ++ [z]))) := ex_mut (by simp)
      have h34 := (e3.trans e4) _ _ h3
      exact (((h4.mono m (e3.trans e4)).imp fun a v hb => m _ _ _ _ em (hB a v H4 Dl ys hb h34))).app (.one (m _ _ _ _ em (hB b z H4 Dl ys pz h34)))
  | false =>
    show H1 Dl = none ∧ _
    refine ⟨h1, h2.trans e3, ys, e3 _ _ h3, ?_⟩
    rw [List.filter_cons, if_neg (by rw [hp]; exact Bool.false_ne_true), List.filter_nil, List.append_nil]
    exact h4.mono m e3
end
end Bl

-- part W21
set_option Elab.async false
set_option linter.all false
set_option maxRecDepth 100000
set_option maxHeartbeats 4000000
namespace Bl
open PySem PySem.Spec PyProof.Rows L2 Evl
open Vabldo (valueOf)
/-! ### the keys of a dict, in their order -/
def Keys (ks : List (List Nat)) (kvs : List (List L2.Key × V)) : Prop := kvs.map (·.1) = ks.map kt
def putT (ks : List (List Nat)) (t : List Nat) : List (List Nat) := if t ∈ ks then ks else ks ++ [t]
theorem keys_mem {ks : List (List Nat)} {kvs : List (List L2.Key × V)} (h : Keys ks kvs) (t : List Nat) : t ∈ ks ↔ (valV kvs (kt t)).isSome = true := by
  rw [← valV_any, List.any_eq_true]
  constructor
  · intro ht
    have : kt t ∈ kvs.map (·.1) := by rw [h]; exact List.mem_map.mpr ⟨t, ht, rfl⟩
    obtain ⟨p, hp, e⟩ := List.mem_map.mp this
    exact ⟨p, hp, decide_eq_true e⟩
  · rintro ⟨p, hp, e⟩
    have : kt t ∈ ks.map kt := by rw [← h]; exact List.mem_map.mpr ⟨p, hp, of_decide_eq_true e⟩
    obtain ⟨s, hs, e⟩ := List.mem_map.mp this
    rw [← kt_inj e]
    exact hs
theorem keys_put {ks : List (List Nat)} {kvs : List (List L2.Key × V)} (h : Keys ks kvs) (t : List Nat) (v : V) : Keys (putT ks t) (putK kvs (kt t) v) := by
  have hm := keys_mem h t
  rw [← valV_any] at hm
  unfold putT putK
  by_cases ht : t ∈ ks
  · rw [if_pos ht, if_pos (hm.mp ht)]
    unfold Keys
    rw [List.map_map, ← h]
    refine List.map_congr_left fun p _ => ?_
    show (if p.1 = kt t then (p.1, v) else p).1 = p.1
    split <;> rfl
  · rw [if_neg ht, if_neg fun z => ht (hm.mpr z)]
    unfold Keys
    rw [List.map_append, List.map_append, h]
    rfl
theorem putT_mem {ks : List (List Nat)} {t s : List Nat} : s ∈ putT ks t ↔ s ∈ ks ∨ s = t := by
  unfold putT
  split
  · rename_i h
    exact ⟨Or.inl, fun z => z.elim id fun e => e ▸ h⟩
  · rw [List.mem_append, List.mem_singleton]
theorem putT_nodup {ks : List (List Nat)} {t : List Nat} (h : ks.Nodup) : (putT ks t).Nodup := by
  unfold putT
  split
  · exact h
  · rename_i ht
    rw [List.nodup_append]
    refine ⟨h, by simp, fun a ha b hb e => ?_⟩
    rw [List.mem_singleton.mp hb] at e
    exact ht (e ▸ ha)
abbrev sp_sources_among (K : PySem.W.Frag) : Sp := spR fun vs H Post => ∃ (a : Addr) (xs : List V) (rs : List Vabldo.Record) (d : Addr) (kvs : List (List L2.Key × V)) (ks : List (List Nat)), vs = [.ref a, .ref d] ∧ H a = some (.lst xs) ∧ All2 (fun r v => RecAt K r v H) rs xs ∧ H d = some (.dT kvs) ∧ Keys ks kvs ∧ ks.length ≤ 40000 ∧ (∀ r ∈ rs, rcN r ≤ 1000) ∧ Post = fun v H' => ∃ q ys, v = .ref q ∧ H q = none ∧ H' q = some (.lst ys) ∧ All2 (fun t v => IsTx t v H') (ks.filter fun t => (makerIn rs t).isNone) ys
def namesI (rs : List Vabldo.Record) : List (List Nat) := rs.flatMap fun r => r.ins.map fun u => u.file
/-- names as they are put one behind another -/
def putTs (ks : List (List Nat)) (ts : List (List Nat)) : List (List Nat) := ts.foldl putT ks
abbrev sp_count_sources (K : PySem.W.Frag) : Sp := spR fun vs H Post => ∃ (a : Addr) (xs : List V) (rs : List Vabldo.Record), vs = [.ref a] ∧ H a = some (.lst xs) ∧ All2 (fun r v => RecAt K r v H) rs xs ∧ rs.length ≤ 32 ∧ (∀ r ∈ rs, r.ins.length ≤ 8 ∧ rcN r ≤ 1000) ∧ Post = fun v _ => v = .int ((((putTs [] (namesI rs)).filter fun t => (makerIn rs t).isNone).length : Nat) : Int)
section
variable {α : Type} {w : World} {K : PySem.W.Frag} {mg : Str → Option Value} {base : Heap} {σ : L2.St} {H H' : Hp} {ta tb tc te tl td ty : TE} {v y z : V} {D : Ends} {tu tz : TS}
/-- nothing of a record is a dict -/
theorem recs_minusD {rs : List Vabldo.Record} {xs : List V} {d : Addr} {kvs : List (List L2.Key × V)} (h : All2 (fun r v => RecAt K r v H) rs xs) (hd : H d = some (.dT kvs)) : All2 (fun r v => RecAt K r v (minus H [d])) rs xs := h.imp fun r v h => by
  obtain ⟨p, dx, nm, tl, a1, a2, a3, xs1, xs2, xs3, rfl, hX⟩ := h
  have nd : ∀ {b : Addr} {o : HO}, H b = some o → (∀ kvs, o ≠ .dT kvs) → b ∉ [d] := fun hb ho => by rw [List.mem_singleton]; exact ne_of hb hd (ho _)
  have tx : ∀ {t : List Nat} {v : V}, IsTx t v H → IsTx t v (minus H [d]) := fun h => by
    obtain ⟨a, e, ha⟩ := h
    exact ⟨a, e, minus_get ha (nd ha (by intro _ z; cases z))⟩
  have fl : ∀ {u : Vabldo.Used} {v : V}, FileAt K u v H → FileAt K u v (minus H [d]) := fun h => by
    obtain ⟨x, dx, s, e, hx, hs⟩ := h
    exact ⟨x, dx, s, e, minus_get hx (nd hx (by intro _ z; cases z)), minus_get hs (nd hs (by intro _ z; cases z))⟩
  exact ⟨p, dx, nm, tl, a1, a2, a3, xs1, xs2, xs3, rfl, minus_get hX.o (nd hX.o (by intro _ z; cases z)), minus_get hX.l1 (nd hX.l1 (by intro _ z; cases z)), minus_get hX.l2 (nd hX.l2 (by intro _ z; cases z)), minus_get hX.l3 (nd hX.l3 (by intro _ z; cases z)), minus_get hX.nm (nd hX.nm (by intro _ z; cases z)), minus_get hX.tl (nd hX.tl (by intro _ z; cases z)), hX.ar.imp fun _ _ h => tx h, hX.i.imp fun _ _ h => fl h, hX.ou.imp fun _ _ h => fl h⟩
theorem it_keys {d : Addr} {od : Obj} {kvs : List (List L2.Key × V)} {ks : List (List Nat)} (h : Ev tl σ H (.ref d)) (hd : H d = some (.frz od (.dT kvs))) (hk : Keys ks kvs) : ItA [] (iKeys tl) σ H ks (fun t x H => IsTx t x H) := fun H1 e R k => h H1 e _ fun H2 e2 => by
  have hd2 := (e.trans e2) _ _ hd
  have hl : kvs.length = ks.length := by
    have := congrArg List.length hk
    rw [List.length_map, List.length_map] at this
    exact this
  refine ⟨d, od, rfl, Or.inr ⟨kvs, hd2, k _ H2 e2 ?_⟩⟩
  rw [← hl]
  refine Walk.mono walk_keysT (fun H' e3 => e3 _ _ (by rw [minus_nil]; exact hd2)) fun i H' x H'' hi e3 y => ?_
  obtain ⟨e, kk, v, q, h1, h2, h3⟩ := y
  have hki : (ks.map kt)[i]? = some kk := by rw [← hk, List.getElem?_map, h1]; rfl
  rw [List.getElem?_map] at hki
  cases ht : ks[i]? with
  | none => rw [ht] at hki; cases hki
  | some t =>
    rw [ht] at hki
    have ek : kt t = kk := Option.some.inj hki
    refine ⟨e, t, rfl, q, h2, ?_⟩
    rw [← ek, kt_tv] at h3
    exact h3
theorem sc_sources_among : FnScope ["records", "names", "name"] ["records", "names"] (defScope s_sources_among) := ⟨rfl, rfl, rfl, by decide +kernel, rfl, by decide +kernel, by decide +kernel⟩
theorem ok_sources_among (T : Txt w K mg) (H_find_maker : Has P0 w K mg base "find_maker" 1 ["records", "name"] (sp_find_maker K)) : Has P0 w K mg base "sources_among" 2 ["records", "names"] (sp_sources_among K) := by
  refine has_of T.f_sources_among T.g_sources_among sc_sources_among (fun _ _ _ _ _ _ us hl => match us, hl with | [_, _], _ => rfl) (fun vs H Q E h => by obtain ⟨_, ⟨a, xs, rs, d, kvs, ks, rfl, hx, hA, hd, hk, hz, hrz, rfl⟩, _⟩ := h; rfl) (fun cdv A outer s H vs Q E hr h => ⟨_, PSs.nox (pss_one (ps_ret (pe_lock (pe_lc (own := [("name", 2)]) (g := gName 2) (te := (tVar 2)) (tt := (tTest (tOp _ (tCall _ [] E0 (tCons (tVar 0) (tCons (tVar 2) tNil))) _))) rfl sc_sources_among.nd (pi_keys (pv 1)) (blkOk_by (own := [("name", 2)]) (N := ["records", "names", "name"]) (sc := defScope s_sources_among) (by decide +kernel)) (fun _ _ _ _ _ => pg_name (i := 2) sc_sources_among.nd rfl (Or.inl rfl)) (fun _ _ _ _ _ => (pts_one (pt_cmpR op_isN (pe_h H_find_maker (by exact hr.mono (by decide)) (by rfl) (pa_cons (pv 0) (pa_cons (pv 2) pa_nil))) pe_non (nomark _)))) (fun _ _ _ _ _ => (pv 2)))))), ?_⟩)
  obtain ⟨_, ⟨a, xs, rs, d, kvs, ks, rfl, hx, hA, hd, hk, hz, hrz, rfl⟩, k⟩ := h
  refine ⟨d, .dT kvs, hd, trivial, fun od => ?_⟩
  have eL : Ex (minus H [d]) (upd H d (.frz od (.dT kvs))) := ex_mut (by simp)
  have hxL : upd H d (.frz od (.dT kvs)) a = some (.lst xs) := by
    rw [upd_ne (ne_of hx hd (by intro z; cases z))]
    exact hx
  have hAL : All2 (fun r v => RecAt K r v (upd H d (.frz od (.dT kvs)))) rs xs := (recs_minusD hA hd).mono mono_rec eL
  refine em_comp (β := Unit) (l := ks) (A := fun t x H => IsTx t x H) (fun t => (makerIn rs t).isNone) (fun t x H => IsTx t x H) mono_tx (it_keys (ev_var rfl) upd_same hk) hz (fun _ => rfl) (fun t v H D xs h hD => tx_minus h hD) (fun t x H1 ht e1 hx1 => ?_) (fun t x H1 ht e1 hx1 _ => ?_) _ (Ex.refl _) _ fun q ys H2 hq e2 h2 hB => ?_
  · obtain ⟨b, rfl, hb⟩ := hx1
    exact et_test (ep_isN (ep_call (ea_cons (ev_var rfl) (ea_cons (ev_var rfl) ea_nil)) fun H3 e3 => ⟨a, xs, rs, b, t, rfl, (e1.trans e3) _ _ hxL, hAL.mono mono_rec (e1.trans e3), hb.mono e3, hrz, rfl⟩) fun v H3 h => rec_some (opt_fst h))
  · obtain ⟨b, rfl, hb⟩ := hx1
    exact ev_tx (ev_var rfl) hb
  · have hd2 : H2 d = some (.frz od (.dT kvs)) := e2 _ _ upd_same
    refine ⟨hd2, ?_⟩
    have hq0 : H q = none := by
      have nq : q ≠ d := fun z => by
        rw [z, upd_same] at hq
        cases hq
      rw [upd_ne nq] at hq
      exact hq
    have eF : Ex H (upd H2 d (.dT kvs)) := fun b o hb => by
      by_cases hbd : b = d
      · subst hbd
        rw [hd] at hb
        cases hb
        exact upd_same
      · rw [upd_ne hbd]
        exact e2 _ _ (by rw [upd_ne hbd]; exact hb)
    refine k _ _ eF ⟨q, ys, rfl, hq0, ?_, ?_⟩
    · rw [upd_ne (ne_of h2 hd2 (by intro z; cases z))]
      exact h2
    · refine hB.imp fun t v h => ?_
      obtain ⟨b, e, hb⟩ := h
      refine ⟨b, e, ?_⟩
      show upd H2 d (.dT kvs) b = _
      rw [upd_ne (ne_of hb hd2 (by intro z; cases z))]
      exact hb
theorem putTs_snoc (ks ts : List (List Nat)) (t : List Nat) : putTs ks (ts ++ [t]) = putT (putTs ks ts) t := by unfold putTs; rw [List.foldl_append]; rfl
theorem putTs_app (ks ts us : List (List Nat)) : putTs ks (ts ++ us) = putTs (putTs ks ts) us := by unfold putTs; rw [List.foldl_append]
theorem putT_len (ks : List (List Nat)) (t : List Nat) : (putT ks t).length ≤ ks.length + 1 := by
  unfold putT
  split
  · omega
  · rw [List.length_append]; exact Nat.le_refl _
theorem putTs_len : ∀ (ts ks : List (List Nat)), (putTs ks ts).length ≤ ks.length + ts.length
  | [], ks => Nat.le_refl _
  | t :: ts, ks => by
    have h1 := putTs_len ts (putT ks t)
    have h2 := putT_len ks t
    show (putTs (putT ks t) ts).length ≤ _
    rw [List.length_cons]
    omega
theorem keys_len {ks : List (List Nat)} {kvs : List (List L2.Key × V)} (h : Keys ks kvs) : kvs.length = ks.length := by
  have := congrArg List.length h
  rw [List.length_map, List.length_map] at this
  exact this
theorem sumT_le (f : α → List (List Nat)) (b : Nat) : ∀ l : List α, (∀ x ∈ l, (f x).length ≤ b) → (l.flatMap f).length ≤ b * l.length
  | [], _ => Nat.zero_le _
  | x :: l, h => by
    rw [List.flatMap_cons, List.length_append, List.length_cons, Nat.mul_succ]
    have h1 := h x (List.mem_cons_self ..)
    have h2 := sumT_le f b l fun y hy => h y (List.mem_cons_of_mem _ hy)
    omega
theorem sc_count_sources : FnScope ["records", "names", "record", "file"] ["records"] (defScope s_count_sources) := ⟨rfl, rfl, rfl, by decide +kernel, rfl, by decide +kernel, by decide +kernel⟩
theorem ok_count_sources (T : Txt w K mg) (H_sources_among : Has P0 w K mg base "sources_among" 2 ["records", "names"] (sp_sources_among K)) : Has P0 w K mg base "count_sources" 3 ["records"] (sp_count_sources K) := by
  refine has_of T.f_count_sources T.g_count_sources sc_count_sources (fun _ _ _ _ _ _ us hl => match us, hl with | [_], _ => rfl) (fun vs H Q E h => by obtain ⟨_, ⟨a, xs, rs, rfl, hx, hA, hn, hz, rfl⟩, _⟩ := h; rfl) (fun cdv A outer s H vs Q E hr h => ⟨_, PSs.nox (pss_cons (ps_set (i := 1) sc_count_sources.nd rfl (Or.inl rfl) pe_dnewT) (pss_cons (ps_for PassesOwn.never rfl (pi_list (pv 0)) (pg_name (i := 2) sc_count_sources.nd rfl (Or.inl rfl)) (pss_one (ps_for PassesOwn.never rfl (pi_list (pe_fld (pv 2) rfl)) (pg_name (i := 3) sc_count_sources.nd rfl (Or.inl rfl)) (pss_one (ps_dput (by exact hu_of hr) (pv 1) (pe_fld (pv 3) rfl) pe_bl rfl))))) (pss_one (ps_ret (pe_callB call_len_seq (by rfl) T.b_len PySem.boot_len (pa_cons (pe_h H_sources_among (by exact hr.mono (by decide)) (by rfl) (pa_cons (pv 0) (pa_cons (pv 1) pa_nil))) pa_nil)))))), ?_⟩)
  obtain ⟨_, ⟨a, xs, rs, rfl, hx, hA, hn, hz, rfl⟩, k⟩ := h
  have htot : (namesI rs).length ≤ 8 * rs.length := sumT_le _ 8 _ fun r hr => by rw [List.length_map]; exact (hz r hr).1
  refine q_dnew fun d H1 hd e1 h1 => ?_
  have hm : ∀ b ∈ [d], H b = none := fun b hb => by rw [List.mem_singleton.mp hb]; exact hd
  have eM1 : Ex H (minus H1 [d]) := ex_minus e1 hm
  refine q_forA (l := rs) (A := RecAt K) (it_list (M := [d]) (ev_var rfl) (e1 _ _ hx) (hA.mono mono_rec eM1) mono_rec (by rw [List.mem_singleton]; exact ne_of_none hx hd)) (fun pre σ' H' => (∃ y z, σ' = [some (.ref a), some (.ref d), y, z]) ∧ ∃ kvs, H' d = some (.dT kvs) ∧ Keys (putTs [] (namesI pre)) kvs) (fun H2 e2 => ⟨⟨_, _, rfl⟩, [], e2 _ _ h1, rfl⟩) (fun H2 e2 pre r post xr σ' H' hl e3 hP hR => ?_) (fun σ' H' e2 hP => ?_)
  · obtain ⟨⟨y, z, rfl⟩, kvs, hdk, hkk⟩ := hP
    obtain ⟨q, dx, nm, tl, a1, a2, a3, xs1, xs2, xs3, rfl, hX⟩ := hR
    have hpl : (namesI pre).length + r.ins.length ≤ 8 * rs.length := by
      have := htot
      unfold namesI at this ⊢
      rw [hl, List.flatMap_append, List.flatMap_cons, List.length_append, List.length_append, List.length_map] at this
      rw [hl]
      omega
    have nd : ∀ {b : Addr} {o : HO}, H' b = some o → (∀ kvs, o ≠ .dT kvs) → b ∉ [d] := fun hb ho => by rw [List.mem_singleton]; exact ne_of hb hdk (ho _)
    have hin : All2 (fun u v => FileAt K u v (minus H' [d])) r.ins xs2 := hX.i.imp fun u v h => by
      obtain ⟨x, dx, s, e, hx, hs⟩ := h
      exact ⟨x, dx, s, e, minus_get hx (nd hx (by intro _ z; cases z)), minus_get hs (nd hs (by intro _ z; cases z))⟩
    refine s_forA (l := r.ins) (A := FileAt K) (it_list (M := [d]) (ev_fld (ev_var rfl) hX.o T.c_Record T.n_Record_inputs rfl) hX.l2 hin mono_file (nd hX.l2 (by intro _ z; cases z))) (fun pre2 σ' H4 => (∃ z, σ' = [some (.ref a), some (.ref d), some (.ref q), z]) ∧ ∃ kvs, H4 d = some (.dT kvs) ∧ Keys (putTs [] (namesI pre ++ pre2.map fun u => u.file)) kvs) (fun H4 e4 => ⟨⟨_, rfl⟩, kvs, e4 _ _ hdk, by rw [List.map_nil, List.append_nil]; exact hkk⟩) (fun H4 e4 pre2 u post2 xu σ' H5 hl2 e5 hP2 hu => ?_) (fun σ' H5 e4 hP2 => ?_)
    · obtain ⟨⟨z2, rfl⟩, kvs2, hd2, hk2⟩ := hP2
      obtain ⟨s, hs, hsn⟩ := file_name T hu
      have hlen := putTs_len (namesI pre ++ pre2.map fun u => u.file) []
      have hkl := keys_len hk2
      have hp2 : pre2.length ≤ r.ins.length := by rw [hl2, List.length_append]; omega
      rw [List.length_append, List.length_map, List.length_nil] at hlen
      refine s_dput (v := .bl true) ev_c (ev_var rfl) (hsn (ev_var rfl)) hs hd2 (by omega) fun H6 e6 => ⟨Ex.minusT e5 (Ex.minusT (Ex.m e6) (ex_mut (by simp))), ⟨_, rfl⟩, _, upd_same, ?_⟩
      rw [List.map_append, List.map_cons, List.map_nil, ← List.append_assoc, putTs_snoc]
      exact keys_put hk2 u.file _
    · obtain ⟨⟨z2, rfl⟩, kvs2, hd2, hk2⟩ := hP2
      refine ⟨Ex.minusT e3 e4, ⟨_, _, rfl⟩, kvs2, hd2, ?_⟩
      have e : namesI (pre ++ [r]) = namesI pre ++ r.ins.map fun u => u.file := by unfold namesI; rw [List.flatMap_append, List.flatMap_cons, List.flatMap_nil, List.append_nil]
      rw [e]
      exact hk2
  · obtain ⟨⟨y, z, rfl⟩, kvs, hdk, hkk⟩ := hP
    have hlen := putTs_len (namesI rs) []
    rw [List.length_nil] at hlen
    have eH : Ex H H' := eM1.trans e2
    refine s_retP (Post := fun v H3 => v = .int ((((putTs [] (namesI rs)).filter fun t => (makerIn rs t).isNone).length : Nat) : Int)) (fun H3 e3 Q q => ?_) fun v H3 e3 hv => k v H3 (eH.trans e3) hv
    refine ep_callW (Post := fun v H' => ∃ q ys, v = .ref q ∧ H' q = some (.lst ys) ∧ ys.length = ((putTs [] (namesI rs)).filter fun t => (makerIn rs t).isNone).length) (ea_cons (ev_var rfl) (ea_cons (ev_var rfl) ea_nil)) (fun H4 e4 => ⟨_, ⟨a, xs, rs, d, kvs, _, rfl, (eH.trans e4) _ _ hx, hA.mono mono_rec (eH.trans e4), e4 _ _ hdk, hkk, by omega, fun r hr => (hz r hr).2, rfl⟩, fun v H5 _ hv => by obtain ⟨q, ys, h1, _, h2, h3⟩ := hv; exact ⟨q, ys, h1, h2, h3.len.symm⟩⟩) H3 e3 _ fun v H4 e4 hv => ?_
    obtain ⟨q', ys, rfl, h1, h2⟩ := hv
    exact ⟨q', ys, rfl, Or.inl (sq_of h1), q _ H4 e4 (by rw [h2])⟩
end
end Bl

-- part M4
set_option linter.all false
namespace Bl
open Vabldo (textBefore putText inOrder)
/-! ### the order of texts -/
theorem tb_irr : ∀ a : List Nat, textBefore a a = false
  | [] => rfl
  | a :: r => by simp [textBefore, tb_irr r]
theorem tb_trans : ∀ {a b c : List Nat}, textBefore a b = true → textBefore b c = true → textBefore a c = true
  | [], [], [], h1, _ => by simp [textBefore] at h1
  | [], _ :: _, [], _, h2 => by simp [textBefore] at h2
  | [], _, _ :: _, _, _ => by simp [textBefore]
  | _ :: _, [], _, h1, _ => by simp [textBefore] at h1
  | _ :: _, _ :: _, [], _, h2 => by simp [textBefore] at h2
  | a :: r, b :: s, c :: t, h1, h2 => by
    simp only [textBefore, Bool.or_eq_true, decide_eq_true_eq, Bool.and_eq_true, beq_iff_eq] at h1 h2 ⊢
    rcases h1 with h1 | ⟨e1, h1⟩
    · rcases h2 with h2 | ⟨e2, h2⟩
      · exact Or.inl (by omega)
      · exact Or.inl (by omega)
    · rcases h2 with h2 | ⟨e2, h2⟩
      · exact Or.inl (by omega)
      · exact Or.inr ⟨e1.trans e2, tb_trans h1 h2⟩
theorem tb_tot : ∀ {a b : List Nat}, a ≠ b → textBefore a b = false → textBefore b a = true
  | [], [], h, _ => absurd rfl h
  | [], _ :: _, _, h => by simp [textBefore] at h
  | _ :: _, [], _, _ => rfl
  | a :: r, b :: s, h, h1 => by
    simp only [textBefore, Bool.or_eq_false_iff, decide_eq_false_iff_not, Bool.and_eq_false_iff, beq_eq_false_iff_ne] at h1
    simp only [textBefore, Bool.or_eq_true, decide_eq_true_eq, Bool.and_eq_true, beq_iff_eq]
    by_cases e : a = b
    · refine Or.inr ⟨e.symm, tb_tot (fun z => h (by rw [e, z])) ?_⟩
      rcases h1.2 with z | z
      · exact absurd e z
      · exact z
    · exact Or.inl (by omega)
abbrev SortT (l : List (List Nat)) : Prop := l.Pairwise fun a b => textBefore a b = true
theorem putText_mem {x y : List Nat} : ∀ {l : List (List Nat)}, y ∈ putText x l ↔ y = x ∨ y ∈ l
  | [] => by simp [putText]
  | z :: r => by
    unfold putText
    split
    · rename_i h
      subst h
      simp
    · split
      · simp
      · rw [List.mem_cons, putText_mem, List.mem_cons]
        constructor
        · rintro (h | h | h)
          · exact Or.inr (Or.inl h)
          · exact Or.inl h
          · exact Or.inr (Or.inr h)
        · rintro (h | h | h)
          · exact Or.inr (Or.inl h)
          · exact Or.inl h
          · exact Or.inr (Or.inr h)
theorem putText_sort {x : List Nat} : ∀ {l : List (List Nat)}, SortT l → SortT (putText x l)
  | [], _ => by simp [putText, SortT]
  | z :: r, h => by
    unfold putText
    split
    · exact h
    · rename_i hne
      have h1 := List.pairwise_cons.mp h
      split
      · rename_i hb
        refine List.pairwise_cons.mpr ⟨fun y hy => ?_, h⟩
        rcases List.mem_cons.mp hy with rfl | hy
        · exact hb
        · exact tb_trans hb (h1.1 y hy)
      · rename_i hb
        refine List.pairwise_cons.mpr ⟨fun y hy => ?_, putText_sort h1.2⟩
        rcases putText_mem.mp hy with rfl | hy
        · exact tb_tot hne (by simpa using hb)
        · exact h1.1 y hy
theorem inOrder_mem {y : List Nat} : ∀ {l : List (List Nat)}, y ∈ inOrder l ↔ y ∈ l
  | [] => by simp [inOrder]
  | x :: r => by
    have e : inOrder (x :: r) = putText x (inOrder r) := rfl
    rw [e, putText_mem, inOrder_mem, List.mem_cons]
theorem inOrder_sort : ∀ (l : List (List Nat)), SortT (inOrder l)
  | [] => List.Pairwise.nil
  | x :: r => putText_sort (inOrder_sort r)
theorem sortT_ext : ∀ {a b : List (List Nat)}, SortT a → SortT b → (∀ x, x ∈ a ↔ x ∈ b) → a = b
  | [], [], _, _, _ => rfl
  | [], y :: s, _, _, h => by
    have := (h y).mpr (List.mem_cons_self ..)
    cases this
  | x :: r, [], _, _, h => by
    have := (h x).mp (List.mem_cons_self ..)
    cases this
  | x :: r, y :: s, ha, hb, h => by
    have h1 := List.pairwise_cons.mp ha
    have h2 := List.pairwise_cons.mp hb
    have exy : x = y := by
      rcases List.mem_cons.mp ((h x).mp (List.mem_cons_self ..)) with e | e
      · exact e
      · rcases List.mem_cons.mp ((h y).mpr (List.mem_cons_self ..)) with e' | e'
        · exact e'.symm
        · have := tb_trans (h2.1 x e) (h1.1 y e')
          rw [tb_irr] at this
          cases this
    subst exy
    have hx : ∀ z, z ∈ r ↔ z ∈ s := fun z => by
      constructor
      · intro hz
        rcases List.mem_cons.mp ((h z).mp (List.mem_cons_of_mem _ hz)) with e | e
        · subst e
          have := h1.1 z hz
          rw [tb_irr] at this
          cases this
        · exact e
      · intro hz
        rcases List.mem_cons.mp ((h z).mpr (List.mem_cons_of_mem _ hz)) with e | e
        · subst e
          have := h2.1 z hz
          rw [tb_irr] at this
          cases this
        · exact e
    rw [sortT_ext h1.2 h2.2 hx]
theorem sortT_nodup {a : List (List Nat)} (h : SortT a) : a.Nodup := h.imp fun {x y} hxy e => by
  subst e
  rw [tb_irr] at hxy
  cases hxy
/-! ### sound logs -/
open Vabldo (makes faultOf faultIn makerOf recordOf)
/-- what holds of a sound log's records -/
structure Sd (rs : List Vabldo.Record) : Prop where
  nm : ∀ a r b, rs = a ++ r :: b → ∀ x ∈ a, x.name ≠ r.name
  own : ∀ a r b, rs = a ++ r :: b → ∀ u ∈ r.ins, makes r u.file = false
  one : ∀ a r b, rs = a ++ r :: b → ∀ x ∈ a, ∀ f, makes r f = true → makes x f = false
  lat : ∀ a r b, rs = a ++ r :: b → ∀ u ∈ r.ins, ∀ x ∈ b, makes x u.file = true → ∃ y ∈ a, makes y u.file = true
theorem faultIn_none : ∀ {b a : List Vabldo.Record}, faultIn a b = none → ∀ c r d, b = c ++ r :: d → faultOf (a ++ c) r d = 0
  | [], a, _, c, r, d, h => by
    cases c <;> cases h
  | x :: b, a, h, c, r, d, e => by
    unfold faultIn at h
    split at h
    · cases h
    · rename_i h0
      cases c with
      | nil =>
        cases e
        rw [List.append_nil]
        exact Decidable.not_not.mp h0
      | cons y c =>
        cases e
        have := faultIn_none h c r d rfl
        rwa [List.append_assoc] at this
theorem distinct_app {x : List Nat} : ∀ {a b : List (List Nat)}, Vabldo.distinct (a ++ b) = true → x ∈ a → x ∈ b → False
  | [], _, _, h, _ => by cases h
  | y :: a, b, h, hx, hb => by
    have h1 : (!(a ++ b).contains y && Vabldo.distinct (a ++ b)) = true := h
    rw [Bool.and_eq_true] at h1
    rcases List.mem_cons.mp hx with e | hx
    · subst e
      have : (a ++ b).contains x = true := by simp [hb]
      rw [this] at h1
      cases h1.1
    · exact distinct_app h1.2 hx hb
theorem makes_iff {r : Vabldo.Record} {f : List Nat} : makes r f = true ↔ ∃ u ∈ r.outs, u.file = f := by
  unfold makes
  rw [List.any_eq_true]
  constructor
  · rintro ⟨u, hu, e⟩
    exact ⟨u, hu, beq_iff_eq.mp e⟩
  · rintro ⟨u, hu, e⟩
    exact ⟨u, hu, beq_iff_eq.mpr e⟩
theorem sd_of {l : Vabldo.Log} (h : Vabldo.sound l = true) : Sd l.records ∧ l.told = l.records.length := by
  unfold Vabldo.sound Vabldo.fault at h
  cases q : faultIn [] l.records with
  | some x =>
    rw [q] at h
    cases h
  | none =>
    rw [q] at h
    have ht : l.told = l.records.length := by
      by_cases e : l.told = l.records.length
      · exact e
      · simp [e] at h
    have hf : ∀ a r b, l.records = a ++ r :: b → faultOf a r b = 0 := fun a r b e => by
      have := faultIn_none q a r b e
      rwa [List.nil_append] at this
    refine ⟨⟨fun a r b e x hx hn => ?_, fun a r b e u hu => ?_, fun a r b e x hx f hm => ?_, fun a r b e u hu x hx hm => ?_⟩, ht⟩
    · have h0 := hf a r b e
      unfold faultOf at h0
      have hp : (a.any fun x => x.name == r.name) = true := List.any_eq_true.mpr ⟨x, hx, beq_iff_eq.mpr hn⟩
      rw [if_pos hp] at h0
      cases h0
    · have h0 := hf a r b e
      unfold faultOf at h0
      split at h0
      · cases h0
      split at h0
      · cases h0
      rename_i hd
      have hd' : Vabldo.distinct ((Vabldo.filesOf r).map fun u => u.file) = true := by simpa using hd
      unfold Vabldo.filesOf at hd'
      rw [List.map_append] at hd'
      cases hm : makes r u.file with
      | false => rfl
      | true =>
        obtain ⟨u', hu', e'⟩ := makes_iff.mp hm
        exact absurd (distinct_app hd' (List.mem_map.mpr ⟨u, hu, rfl⟩) (List.mem_map.mpr ⟨u', hu', e'⟩)) (fun z => z)
    · have h0 := hf a r b e
      unfold faultOf at h0
      split at h0
      · cases h0
      split at h0
      · cases h0
      split at h0
      · cases h0
      rename_i h3
      obtain ⟨u', hu', e'⟩ := makes_iff.mp hm
      cases hmx : makes x f with
      | false => rfl
      | true =>
        exact absurd (List.any_eq_true.mpr ⟨u', hu', List.any_eq_true.mpr ⟨x, hx, by rw [e']; exact hmx⟩⟩) h3
    · have h0 := hf a r b e
      unfold faultOf at h0
      split at h0
      · cases h0
      split at h0
      · cases h0
      split at h0
      · cases h0
      split at h0
      · cases h0
      split at h0
      · cases h0
      rename_i h5
      by_cases hy : ∃ y ∈ a, makes y u.file = true
      · exact hy
      · refine absurd (List.any_eq_true.mpr ⟨u, hu, ?_⟩) h5
        rw [Bool.and_eq_true]
        refine ⟨List.any_eq_true.mpr ⟨x, hx, hm⟩, ?_⟩
        rw [Bool.not_eq_true']
        cases z : a.any (fun x => makes x u.file) with
        | false => rfl
        | true =>
          obtain ⟨y, h1, h2⟩ := List.any_eq_true.mp z
          exact absurd ⟨y, h1, h2⟩ hy
theorem mem_split {α : Type} {x : α} {l : List α} (h : x ∈ l) : ∃ a b, l = a ++ x :: b := List.append_of_mem h
theorem find_split {α : Type} {p : α → Bool} : ∀ {l : List α} {x : α}, l.find? p = some x → ∃ a b, l = a ++ x :: b ∧ p x = true ∧ ∀ y ∈ a, p y = false
  | [], _, h => by cases h
  | z :: l, x, h => by
    cases hz : p z with
    | true =>
      rw [List.find?_cons_of_pos hz] at h
      cases h
      exact ⟨[], l, rfl, hz, fun y hy => by cases hy⟩
    | false =>
      rw [List.find?_cons_of_neg (by rw [hz]; exact Bool.false_ne_true)] at h
      obtain ⟨a, b, e, h1, h2⟩ := find_split h
      refine ⟨z :: a, b, by rw [e]; rfl, h1, fun y hy => ?_⟩
      rcases List.mem_cons.mp hy with rfl | hy
      · exact hz
      · exact h2 y hy
namespace Sd
variable {rs : List Vabldo.Record}
/-- two records of one name are one -/
theorem same (S : Sd rs) {x y : Vabldo.Record} (hx : x ∈ rs) (hy : y ∈ rs) (e : x.name = y.name) : x = y := by
  obtain ⟨a, b, h⟩ := mem_split hy
  rw [h] at hx
  rcases List.mem_append.mp hx with hx | hx
  · exact absurd e (S.nm a y b h x hx)
  · rcases List.mem_cons.mp hx with hx | hx
    · exact hx
    · obtain ⟨c, d, h2⟩ := mem_split hx
      have h3 : rs = (a ++ y :: c) ++ x :: d := by rw [h, h2, List.append_assoc, List.cons_append]
      exact absurd e.symm (S.nm _ x d h3 y (by simp))
/-- one maker of a file -/
theorem maker (S : Sd rs) {x y : Vabldo.Record} {f : List Nat} (hx : x ∈ rs) (hy : y ∈ rs) (h1 : makes x f = true) (h2 : makes y f = true) : x = y := by
  obtain ⟨a, b, h⟩ := mem_split hy
  rw [h] at hx
  rcases List.mem_append.mp hx with hx | hx
  · have := S.one a y b h x hx f h2
    rw [h1] at this
    cases this
  · rcases List.mem_cons.mp hx with hx | hx
    · exact hx
    · obtain ⟨c, d, h4⟩ := mem_split hx
      have h3 : rs = (a ++ y :: c) ++ x :: d := by rw [h, h4, List.append_assoc, List.cons_append]
      have := S.one _ x d h3 y (by simp) f h1
      rw [h2] at this
      cases this
/-- what makes an input stands before -/
theorem before (S : Sd rs) {a b : List Vabldo.Record} {r x : Vabldo.Record} {u : Vabldo.Used} (h : rs = a ++ r :: b) (hu : u ∈ r.ins) (hx : x ∈ rs) (hm : makes x u.file = true) : x ∈ a := by
  rw [h] at hx
  rcases List.mem_append.mp hx with hx | hx
  · exact hx
  · rcases List.mem_cons.mp hx with hx | hx
    · subst hx
      have := S.own a x b h u hu
      rw [hm] at this
      cases this
    · obtain ⟨y, hy, hym⟩ := S.lat a r b h u hu x hx hm
      have hyr : y ∈ rs := by rw [h]; exact List.mem_append_left _ hy
      have hxr : x ∈ rs := by rw [h]; exact List.mem_append_right _ (List.mem_cons_of_mem _ hx)
      rw [S.maker hxr hyr hm hym]
      exact hy
end Sd
end Bl

-- part M5
set_option linter.all false
namespace Bl
open Vabldo (textBefore putText inOrder makes makerOf recordOf grown)
/-! ### on what a file rests -/
def insOf (l : Vabldo.Log) (f : List Nat) : List (List Nat) := ((makerOf l f).map fun r => r.ins.map fun u => u.file).getD []
def PathN (l : Vabldo.Log) : Nat → List Nat → List Nat → Prop
  | 0, g, h => g = h
  | k + 1, g, h => ∃ m ∈ insOf l g, PathN l k m h
theorem grown_mem {l : Vabldo.Log} {x : List Nat} : ∀ {n : Nat} {fs : List (List Nat)}, x ∈ grown l n fs ↔ ∃ g ∈ fs, ∃ j, j ≤ n ∧ PathN l j g x
  | 0, fs => by
    constructor
    · intro h
      exact ⟨x, h, 0, Nat.le_refl 0, rfl⟩
    · rintro ⟨g, hg, j, hj, hp⟩
      obtain rfl : j = 0 := by omega
      have e : g = x := hp
      rw [← e]
      exact hg
  | n + 1, fs => by
    have e : grown l (n + 1) fs = grown l n (inOrder (fs ++ fs.flatMap (insOf l))) := rfl
    rw [e, grown_mem]
    constructor
    · rintro ⟨g, hg, j, hj, hp⟩
      rcases List.mem_append.mp (inOrder_mem.mp hg) with hg | hg
      · exact ⟨g, hg, j, by omega, hp⟩
      · obtain ⟨g', hg', hm⟩ := List.mem_flatMap.mp hg
        exact ⟨g', hg', j + 1, by omega, g, hm, hp⟩
    · rintro ⟨g, hg, j, hj, hp⟩
      cases j with
      | zero => exact ⟨g, inOrder_mem.mpr (List.mem_append_left _ hg), 0, by omega, hp⟩
      | succ j =>
        obtain ⟨m, hm, hp⟩ := hp
        exact ⟨m, inOrder_mem.mpr (List.mem_append_right _ (List.mem_flatMap.mpr ⟨g, hg, hm⟩)), j, by omega, hp⟩
theorem grown_sort {l : Vabldo.Log} : ∀ {n : Nat} {fs : List (List Nat)}, 0 < n → SortT (grown l n fs)
  | 0, _, h => by omega
  | 1, fs, _ => inOrder_sort _
  | n + 2, fs, _ => by
    have e : grown l (n + 2) fs = grown l (n + 1) (inOrder (fs ++ fs.flatMap (insOf l))) := rfl
    rw [e]
    exact grown_sort (by omega)
theorem insOf_mem {l : Vabldo.Log} {f g : List Nat} (h : g ∈ insOf l f) : ∃ r, makerOf l f = some r ∧ ∃ u ∈ r.ins, u.file = g := by
  unfold insOf at h
  cases q : makerOf l f with
  | none =>
    rw [q] at h
    cases h
  | some r =>
    rw [q] at h
    obtain ⟨u, hu, e⟩ := List.mem_map.mp h
    exact ⟨r, rfl, u, hu, e⟩
theorem maker_of_mem {l : Vabldo.Log} {f : List Nat} {r : Vabldo.Record} (h : makerOf l f = some r) : r ∈ l.records ∧ makes r f = true := by
  obtain ⟨a, b, e, h1, _⟩ := find_split h
  exact ⟨by rw [e]; simp, h1⟩
theorem take_pos {α : Type} {x : α} {l a b : List α} {k : Nat} (S : l = a ++ x :: b) (hk : a.length < k) : x ∈ l.take k := by
  rw [S, List.take_append, List.mem_append]
  refine Or.inr ?_
  obtain ⟨j, hj⟩ : ∃ j, k - a.length = j + 1 := ⟨k - a.length - 1, by omega⟩
  rw [hj, List.take_succ_cons]
  exact List.mem_cons_self ..
theorem mem_take_at {α : Type} {x : α} {l : List α} {k : Nat} (h : x ∈ l.take k) : ∃ a b, l = a ++ x :: b ∧ a.length < k := by
  obtain ⟨a, b, e⟩ := mem_split h
  refine ⟨a, b ++ l.drop k, ?_, ?_⟩
  · calc l = l.take k ++ l.drop k := (List.take_append_drop k l).symm
      _ = _ := by rw [e, List.append_assoc, List.cons_append]
  · have h1 : (l.take k).length ≤ k := by rw [List.length_take]; omega
    rw [e, List.length_append, List.length_cons] at h1
    omega
theorem path_le {l : Vabldo.Log} (S : Sd l.records) {h : List Nat} : ∀ {k j : Nat} {g : List Nat}, (∃ x ∈ l.records.take k, makes x g = true) → PathN l j g h → j ≤ k
  | 0, _, _, hx, _ => by
    obtain ⟨x, hx, _⟩ := hx
    rw [List.take_zero] at hx
    cases hx
  | k + 1, 0, _, _, _ => Nat.zero_le _
  | k + 1, 1, _, _, _ => by omega
  | k + 1, j + 2, g, ⟨x, hx, hm⟩, ⟨m, hmi, m2, hm2, hp⟩ => by
    obtain ⟨r, hr, u, hu, eu⟩ := insOf_mem hmi
    obtain ⟨y, hy, _, _, _⟩ := insOf_mem hm2
    obtain ⟨hrr, hrm⟩ := maker_of_mem hr
    obtain ⟨hyr, hym⟩ := maker_of_mem hy
    obtain ⟨a, b, e, hl⟩ := mem_take_at hx
    have hxr : x ∈ l.records := by rw [e]; simp
    have exr : x = r := S.maker hxr hrr hm hrm
    subst exr
    have hya := S.before e hu hyr (by rw [eu]; exact hym)
    have hyk : y ∈ l.records.take k := by
      obtain ⟨c, d, e2⟩ := mem_split hya
      refine take_pos (a := c) (b := d ++ x :: b) (by rw [e, e2, List.append_assoc, List.cons_append]) ?_
      rw [e2, List.length_append, List.length_cons] at hl
      omega
    have := path_le S (k := k) (j := j + 1) ⟨y, hyk, hym⟩ ⟨m2, hm2, hp⟩
    omega
theorem path_len {l : Vabldo.Log} (S : Sd l.records) {j : Nat} {g h : List Nat} (hp : PathN l j g h) : j ≤ l.records.length := by
  cases j with
  | zero => exact Nat.zero_le _
  | succ j =>
    have hp' := hp
    obtain ⟨m, hm, _⟩ := hp'
    obtain ⟨r, hr, _⟩ := insOf_mem hm
    obtain ⟨hrr, hrm⟩ := maker_of_mem hr
    exact path_le S ⟨r, by rw [List.take_length]; exact hrr, hrm⟩ hp
/-- what is reached: all on which f rests, no more -/
structure Rchd (l : Vabldo.Log) (f : List Nat) (R : List (List Nat)) : Prop where
  ok : ∀ h ∈ R, ∃ j, PathN l (j + 1) f h
  top : ∀ h ∈ insOf l f, h ∈ R
  cl : ∀ g ∈ R, ∀ h ∈ insOf l g, h ∈ R
theorem rchd_path {l : Vabldo.Log} {f : List Nat} {R : List (List Nat)} (c : Rchd l f R) {h : List Nat} : ∀ {j : Nat} {g : List Nat}, g ∈ R → PathN l j g h → h ∈ R
  | 0, g, hg, hp => by
    have e : g = h := hp
    rw [← e]
    exact hg
  | j + 1, g, hg, ⟨m, hm, hp⟩ => rchd_path c (c.cl g hg m hm) hp
theorem rests_eq {l : Vabldo.Log} (S : Sd l.records) (hn : l.records.length ≤ 32) {f : List Nat} {R : List (List Nat)} (c : Rchd l f R) : Vabldo.rests l f = inOrder (R.filter fun g => (makerOf l g).isNone) := by
  have e : Vabldo.rests l f = (grown l 34 (insOf l f)).filter fun g => (makerOf l g).isNone := rfl
  rw [e]
  refine sortT_ext (List.Pairwise.filter _ (grown_sort (by omega))) (inOrder_sort _) fun x => ?_
  rw [inOrder_mem, List.mem_filter, List.mem_filter, grown_mem]
  refine and_congr_left fun _ => ?_
  constructor
  · rintro ⟨g, hg, j, _, hp⟩
    exact rchd_path c (c.top g hg) hp
  · intro hx
    obtain ⟨j, hp⟩ := c.ok x hx
    have hj := path_len S hp
    obtain ⟨m, hm, hp⟩ := hp
    exact ⟨m, hm, j, by omega, hp⟩
theorem path_snoc {l : Vabldo.Log} {h i : List Nat} (hi : i ∈ insOf l h) : ∀ {j : Nat} {g : List Nat}, PathN l j g h → PathN l (j + 1) g i
  | 0, g, hp => by
    have e : g = h := hp
    rw [e]
    exact ⟨i, hi, rfl⟩
  | j + 1, g, ⟨m, hm, hp⟩ => ⟨m, hm, path_snoc hi hp⟩
/-! ### the order in which a log is written out -/
/-- those that may stand next -/
def canNow (l : Vabldo.Log) (dn lf : List Vabldo.Record) : List Vabldo.Record := lf.filter fun r => r.ins.all fun u => (makerOf l u.file).isNone || dn.any fun x => makes x u.file
/-- the program's way to say so -/
def readyP (l : Vabldo.Log) (ns : List (List Nat)) (r : Vabldo.Record) : Bool := r.ins.all fun u => match makerOf l u.file with
  | none => true
  | some m => decide (m.name ∈ ns)
theorem ready_eq {l : Vabldo.Log} (S : Sd l.records) {dn : List Vabldo.Record} (hd : ∀ x ∈ dn, x ∈ l.records) (lf : List Vabldo.Record) : lf.filter (readyP l (dn.map fun r => r.name)) = canNow l dn lf := by
  unfold canNow readyP
  refine List.filter_congr fun r _ => ?_
  refine congrArg (List.all r.ins) (funext fun u => ?_)
  cases q : makerOf l u.file with
  | none => rfl
  | some m =>
    obtain ⟨hm1, hm2⟩ := maker_of_mem q
    show decide (m.name ∈ dn.map fun r => r.name) = (false || dn.any fun x => makes x u.file)
    rw [Bool.false_or]
    cases z : dn.any (fun x => makes x u.file) with
    | true =>
      obtain ⟨x, hx, hmx⟩ := List.any_eq_true.mp z
      have e := S.maker (hd x hx) hm1 hmx hm2
      exact decide_eq_true (List.mem_map.mpr ⟨x, hx, by rw [e]⟩)
    | false =>
      refine decide_eq_false fun hc => ?_
      obtain ⟨x, hx, e⟩ := List.mem_map.mp hc
      have e2 := S.same (hd x hx) hm1 e
      have : dn.any (fun x => makes x u.file) = true := List.any_eq_true.mpr ⟨x, hx, by rw [e2]; exact hm2⟩
      rw [z] at this
      cases this
theorem next_eq {l : Vabldo.Log} (S : Sd l.records) {dn lf : List Vabldo.Record} (hl : ∀ x ∈ lf, x ∈ l.records) {r : Vabldo.Record} (hr : r ∈ canNow l dn lf) (hm : ∀ y ∈ canNow l dn lf, textBefore y.name r.name = false) : Vabldo.nextOne l dn lf = some r := by
  have e : Vabldo.nextOne l dn lf = ((inOrder ((canNow l dn lf).map fun r => r.name)).head?).bind fun n => (canNow l dn lf).find? fun r => r.name == n := rfl
  have hs := inOrder_sort ((canNow l dn lf).map fun r => r.name)
  have hmem : r.name ∈ inOrder ((canNow l dn lf).map fun r => r.name) := inOrder_mem.mpr (List.mem_map.mpr ⟨r, hr, rfl⟩)
  have hh : (inOrder ((canNow l dn lf).map fun r => r.name)).head? = some r.name := by
    cases q : inOrder ((canNow l dn lf).map fun r => r.name) with
    | nil =>
      rw [q] at hmem
      cases hmem
    | cons h t =>
      rw [q] at hs hmem
      rcases List.mem_cons.mp hmem with z | z
      · rw [z]
        rfl
      · have h1 := (List.pairwise_cons.mp hs).1 _ z
        have h2 : h ∈ inOrder ((canNow l dn lf).map fun r => r.name) := by rw [q]; exact List.mem_cons_self ..
        obtain ⟨y, hy, ey⟩ := List.mem_map.mp (inOrder_mem.mp h2)
        have := hm y hy
        rw [ey, h1] at this
        cases this
  rw [e, hh]
  show (canNow l dn lf).find? (fun x => x.name == r.name) = some r
  have hsub : ∀ x ∈ canNow l dn lf, x ∈ l.records := fun x hx => hl x (List.mem_filter.mp hx).1
  cases q : (canNow l dn lf).find? (fun x => x.name == r.name) with
  | none =>
    have := List.find?_eq_none.mp q r hr
    simp at this
  | some x =>
    obtain ⟨a, b, e2, h1, _⟩ := find_split q
    have hx : x ∈ canNow l dn lf := by rw [e2]; simp
    rw [S.same (hsub x hx) (hsub r hr) (beq_iff_eq.mp h1)]
/-- those that don't stand yet -/
def leftOf (rs dn : List Vabldo.Record) : List Vabldo.Record := rs.filter fun r => !decide (r.name ∈ dn.map fun r => r.name)
theorem left_snoc (rs dn : List Vabldo.Record) (r : Vabldo.Record) : (leftOf rs dn).filter (fun x => x.name != r.name) = leftOf rs (dn ++ [r]) := by
  unfold leftOf
  rw [List.filter_filter]
  refine List.filter_congr fun x _ => ?_
  rw [List.map_append, List.map_cons, List.map_nil]
  by_cases h1 : x.name = r.name <;> by_cases h2 : x.name ∈ dn.map fun r => r.name <;> simp [h1, h2, bne]
theorem filter_one {α : Type} {p : α → Bool} : ∀ {l : List α} {x : α}, (∀ y ∈ l, p y = true) → l.filter p = l
  | [], _, _ => rfl
  | y :: l, x, h => by
    rw [List.filter_cons, if_pos (h y (List.mem_cons_self ..)), filter_one (x := x) fun z hz => h z (List.mem_cons_of_mem _ hz)]
theorem left_len {rs dn : List Vabldo.Record} (S : Sd rs) {r : Vabldo.Record} (hr : r ∈ leftOf rs dn) : (leftOf rs (dn ++ [r])).length + 1 = (leftOf rs dn).length := by
  rw [← left_snoc]
  obtain ⟨a, b, e⟩ := mem_split hr
  have hsub : ∀ x ∈ leftOf rs dn, x ∈ rs := fun x hx => (List.mem_filter.mp hx).1
  have hnd : rs.Pairwise fun x y => x.name ≠ y.name := by
    have : ∀ (c d : List Vabldo.Record), rs = c ++ d → d.Pairwise fun x y => x.name ≠ y.name := by
      intro c d
      induction d generalizing c with
      | nil => intro _; exact List.Pairwise.nil
      | cons x d ih =>
        intro h
        refine List.pairwise_cons.mpr ⟨fun y hy => ?_, ih (c ++ [x]) (by rw [h, List.append_assoc]; rfl)⟩
        obtain ⟨c2, d2, h2⟩ := mem_split hy
        have h3 : rs = (c ++ x :: c2) ++ y :: d2 := by rw [h, h2, List.append_assoc, List.cons_append]
        exact S.nm _ y d2 h3 x (by simp)
    exact this [] rs rfl
  have hnl : (leftOf rs dn).Pairwise fun x y => x.name ≠ y.name := List.Pairwise.filter _ hnd
  rw [e] at hnl ⊢
  rw [List.pairwise_append] at hnl
  obtain ⟨_, h2, h3⟩ := hnl
  rw [List.filter_append, List.filter_cons, if_neg (by simp), filter_one (x := r) fun y hy => ?_, filter_one (x := r) fun y hy => ?_, List.length_append, List.length_append, List.length_cons]
  · omega
  · rw [bne_iff_ne]
    exact fun z => (List.pairwise_cons.mp h2).1 y hy z.symm
  · rw [bne_iff_ne]
    exact h3 y hy r (List.mem_cons_self ..)
/-- one may always stand next -/
theorem can_some {l : Vabldo.Log} (S : Sd l.records) {dn : List Vabldo.Record} (hd : ∀ x ∈ dn, x ∈ l.records) (h : leftOf l.records dn ≠ []) : canNow l dn (leftOf l.records dn) ≠ [] := by
  have hx : ∃ x, l.records.find? (fun r => !decide (r.name ∈ dn.map fun r => r.name)) = some x := by
    cases q : l.records.find? (fun r => !decide (r.name ∈ dn.map fun r => r.name)) with
    | some x => exact ⟨x, rfl⟩
    | none =>
      refine absurd ?_ h
      unfold leftOf
      rw [List.filter_eq_nil_iff]
      exact List.find?_eq_none.mp q
  obtain ⟨x, hx⟩ := hx
  obtain ⟨a, b, e, h1, h2⟩ := find_split hx
  have hxr : x ∈ l.records := by rw [e]; simp
  have hmem : x ∈ canNow l dn (leftOf l.records dn) := by
    refine List.mem_filter.mpr ⟨List.mem_filter.mpr ⟨hxr, h1⟩, List.all_eq_true.mpr fun u hu => ?_⟩
    cases q : makerOf l u.file with
    | none => rfl
    | some m =>
      obtain ⟨hm1, hm2⟩ := maker_of_mem q
      have hma := S.before e hu hm1 hm2
      have h3 := h2 m hma
      have h4 : m.name ∈ dn.map fun r => r.name := by simpa using h3
      obtain ⟨y, hy, ey⟩ := List.mem_map.mp h4
      have e2 := S.same (hd y hy) hm1 ey
      rw [Bool.or_eq_true]
      exact Or.inr (List.any_eq_true.mpr ⟨y, hy, by rw [e2]; exact hm2⟩)
  intro z
  rw [z] at hmem
  cases hmem
/-- the order, as far as it's made -/
structure Arr (l : Vabldo.Log) (dn : List Vabldo.Record) : Prop where
  sub : ∀ x ∈ dn, x ∈ l.records
  len : dn.length + (leftOf l.records dn).length = l.records.length
  eq : Vabldo.arranged l (l.records.length + 1) l.records [] = Vabldo.arranged l ((leftOf l.records dn).length + 1) (leftOf l.records dn) dn
theorem arr_nil (l : Vabldo.Log) : Arr l [] := by
  have e : leftOf l.records [] = l.records := by
    unfold leftOf
    exact List.filter_eq_self.mpr fun x _ => by simp
  refine ⟨fun x hx => (by cases hx), ?_, ?_⟩
  · rw [e]
    simp
  · rw [e]
theorem arr_step {l : Vabldo.Log} (S : Sd l.records) {dn : List Vabldo.Record} (A : Arr l dn) {r : Vabldo.Record} (hr : r ∈ canNow l dn (leftOf l.records dn)) (hm : ∀ y ∈ canNow l dn (leftOf l.records dn), textBefore y.name r.name = false) : Arr l (dn ++ [r]) := by
  have hrl : r ∈ leftOf l.records dn := (List.mem_filter.mp hr).1
  have hll := left_len S hrl
  have hn : Vabldo.nextOne l dn (leftOf l.records dn) = some r := next_eq S (fun x hx => (List.mem_filter.mp hx).1) hr hm
  refine ⟨fun x hx => ?_, ?_, ?_⟩
  · rcases List.mem_append.mp hx with hx | hx
    · exact A.sub x hx
    · rw [List.mem_singleton.mp hx]
      exact (List.mem_filter.mp hrl).1
  · have := A.len
    rw [List.length_append, List.length_singleton]
    omega
  · rw [A.eq, ← hll]
    have e : ∀ (k : Nat) (lf : List Vabldo.Record), Vabldo.nextOne l dn lf = some r → Vabldo.arranged l (k + 1) lf dn = Vabldo.arranged l k (lf.filter fun x => x.name != r.name) (dn ++ [r]) := fun k lf h => by
      show (match Vabldo.nextOne l dn lf with
        | some r => Vabldo.arranged l k (lf.filter fun x => x.name != r.name) (dn ++ [r])
        | none => dn) = _
      rw [h]
    rw [e _ _ hn, left_snoc]
theorem arr_end {l : Vabldo.Log} {dn : List Vabldo.Record} (A : Arr l dn) (h : l.records.length ≤ dn.length) : (Vabldo.sortedLog l).records = dn := by
  have h0 : leftOf l.records dn = [] := List.length_eq_zero_iff.mp (by have := A.len; omega)
  show Vabldo.arranged l (l.records.length + 1) l.records [] = dn
  rw [A.eq, h0]
  rfl
end Bl

-- part M6
set_option linter.all false
namespace Bl
open Vabldo (textBefore putText inOrder makes makerOf recordOf way unlike others alike changed culprit names allNames chain isRoot roots)
/-! ### the comparison of two logs -/
structure Df where
  name : List Nat
  way : Nat
  changed : List (List Nat)
def dfRec (x y : Vabldo.Record) : Option Df :=
  if alike x y = false then some ⟨x.name, 3, []⟩
  else if (others x.ins y.ins).isEmpty = false then some ⟨x.name, 4, others x.ins y.ins⟩
  else if x.exit ≠ y.exit then some ⟨x.name, 6, []⟩
  else if (others x.outs y.outs).isEmpty = false then some ⟨x.name, 5, others x.outs y.outs⟩ else none
def recIn (rs : List Vabldo.Record) (n : List Nat) : Option Vabldo.Record := rs.find? fun r => r.name == n
def dfWith (bs : List Vabldo.Record) (x : Vabldo.Record) : Option Df := match recIn bs x.name with
  | none => some ⟨x.name, 1, []⟩
  | some y => dfRec x y
def dfAll (as bs : List Vabldo.Record) : List Df := (as.filterMap (dfWith bs)) ++ (bs.filter fun r => (recIn as r.name).isNone).map fun r => ⟨r.name, 2, []⟩
/-- the files told beside a way -/
def chg (a b : Vabldo.Log) (n : List Nat) : List (List Nat) := match recordOf a n, recordOf b n with
  | some x, some y => if way a b n = 4 then others x.ins y.ins else if way a b n = 5 then others x.outs y.outs else []
  | _, _ => []
def dfOf (a b : Vabldo.Log) (n : List Nat) : Df := ⟨n, way a b n, chg a b n⟩
theorem rec_name {rs : List Vabldo.Record} {n : List Nat} {x : Vabldo.Record} (h : recIn rs n = some x) : x ∈ rs ∧ x.name = n := by
  obtain ⟨a, b, e, h1, _⟩ := find_split h
  exact ⟨by rw [e]; simp, beq_iff_eq.mp h1⟩
theorem rec_own {rs : List Vabldo.Record} (S : Sd rs) {x : Vabldo.Record} (h : x ∈ rs) : recIn rs x.name = some x := by
  cases q : recIn rs x.name with
  | none =>
    have := List.find?_eq_none.mp q x h
    simp at this
  | some y =>
    obtain ⟨h1, h2⟩ := rec_name q
    rw [S.same h1 h h2]
theorem rec_none {rs : List Vabldo.Record} {n : List Nat} : recIn rs n = none ↔ n ∉ rs.map fun r => r.name := by
  unfold recIn
  rw [List.find?_eq_none]
  constructor
  · intro h hm
    obtain ⟨r, hr, e⟩ := List.mem_map.mp hm
    exact h r hr (beq_iff_eq.mpr e)
  · intro h r hr e
    exact h (List.mem_map.mpr ⟨r, hr, beq_iff_eq.mp e⟩)
theorem way_both {a b : Vabldo.Log} {n : List Nat} {x y : Vabldo.Record} (h1 : recIn a.records n = some x) (h2 : recIn b.records n = some y) :
    way a b n = if alike x y = false then 3 else if (others x.ins y.ins).isEmpty = false then 4 else if x.exit ≠ y.exit then 6 else if (others x.outs y.outs).isEmpty = false then 5 else 0 := by
  have h1' : recordOf a n = some x := h1
  have h2' : recordOf b n = some y := h2
  unfold way
  rw [h1', h2']
theorem way_one {a b : Vabldo.Log} {n : List Nat} {x : Vabldo.Record} (h1 : recIn a.records n = some x) (h2 : recIn b.records n = none) : way a b n = 1 := by
  have h1' : recordOf a n = some x := h1
  have h2' : recordOf b n = none := h2
  unfold way
  rw [h1', h2']
theorem way_two {a b : Vabldo.Log} {n : List Nat} {y : Vabldo.Record} (h1 : recIn a.records n = none) (h2 : recIn b.records n = some y) : way a b n = 2 := by
  have h1' : recordOf a n = none := h1
  have h2' : recordOf b n = some y := h2
  unfold way
  rw [h1', h2']
theorem chg_both {a b : Vabldo.Log} {n : List Nat} {x y : Vabldo.Record} (h1 : recIn a.records n = some x) (h2 : recIn b.records n = some y) : chg a b n = if way a b n = 4 then others x.ins y.ins else if way a b n = 5 then others x.outs y.outs else [] := by
  have h1' : recordOf a n = some x := h1
  have h2' : recordOf b n = some y := h2
  unfold chg
  rw [h1', h2']
theorem chg_none1 {a b : Vabldo.Log} {n : List Nat} (h1 : recIn a.records n = none) : chg a b n = [] := by
  have h1' : recordOf a n = none := h1
  unfold chg
  rw [h1']
theorem chg_none2 {a b : Vabldo.Log} {n : List Nat} (h1 : recIn b.records n = none) : chg a b n = [] := by
  have h1' : recordOf b n = none := h1
  unfold chg
  rw [h1']
  cases recordOf a n <;> rfl
theorem df_one {a b : Vabldo.Log} {x : Vabldo.Record} (h1 : recIn a.records x.name = some x) : dfWith b.records x = if way a b x.name = 0 then none else some (dfOf a b x.name) := by
  unfold dfWith dfOf
  cases h2 : recIn b.records x.name with
  | none =>
    rw [way_one h1 h2, chg_none2 h2]
    rfl
  | some y =>
    show dfRec x y = _
    rw [chg_both h1 h2, way_both h1 h2]
    unfold dfRec
    by_cases c1 : alike x y = false
    · simp [c1]
    · by_cases c2 : (others x.ins y.ins).isEmpty = false
      · rw [if_neg c1, if_pos c2, if_neg c1, if_pos c2]
        simp
      · by_cases c3 : x.exit ≠ y.exit
        · rw [if_neg c1, if_neg c2, if_pos c3, if_neg c1, if_neg c2, if_pos c3]
          simp
        · by_cases c4 : (others x.outs y.outs).isEmpty = false
          · rw [if_neg c1, if_neg c2, if_neg c3, if_pos c4, if_neg c1, if_neg c2, if_neg c3, if_pos c4]
            simp
          · rw [if_neg c1, if_neg c2, if_neg c3, if_neg c4, if_neg c1, if_neg c2, if_neg c3, if_neg c4]
            simp
theorem filterMap_map {α β γ : Type} {f : α → Option γ} {g : α → β} {p : β → Bool} {h : β → γ} : ∀ {l : List α}, (∀ x ∈ l, f x = if p (g x) = true then some (h (g x)) else none) → l.filterMap f = ((l.map g).filter p).map h
  | [], _ => rfl
  | x :: l, hl => by
    have ih := filterMap_map (l := l) fun y hy => hl y (List.mem_cons_of_mem _ hy)
    have hx := hl x (List.mem_cons_self ..)
    rw [List.map_cons, List.filter_cons]
    by_cases c : p (g x) = true
    · rw [if_pos c] at hx ⊢
      rw [List.filterMap_cons_some hx, ih]
      rfl
    · rw [if_neg c] at hx ⊢
      rw [List.filterMap_cons_none hx, ih]
theorem df_all {a b : Vabldo.Log} (Sa : Sd a.records) (Sb : Sd b.records) : dfAll a.records b.records = (unlike a b).map (dfOf a b) := by
  unfold dfAll unlike allNames
  rw [List.filter_append, List.map_append]
  congr 1
  · refine filterMap_map fun x hx => ?_
    rw [df_one (rec_own Sa hx)]
    by_cases c : way a b x.name = 0 <;> simp [c]
  · unfold names
    rw [List.filter_filter]
    have key : ∀ (l : List Vabldo.Record), (∀ x ∈ l, x ∈ b.records) → (l.filter fun r => (recIn a.records r.name).isNone).map (fun r => (⟨r.name, 2, []⟩ : Df)) = ((l.map fun r => r.name).filter fun n => (way a b n != 0) && !(List.map (fun r => r.name) a.records).contains n).map (dfOf a b) := by
      intro l
      induction l with
      | nil => intro _; rfl
      | cons x l ih =>
        intro hl
        have ih := ih fun y hy => hl y (List.mem_cons_of_mem _ hy)
        have hx := rec_own Sb (hl x (List.mem_cons_self ..))
        rw [List.map_cons, List.filter_cons, List.filter_cons]
        cases q : recIn a.records x.name with
        | none =>
          have hc : (List.map (fun r => r.name) a.records).contains x.name = false := by
            have := rec_none.mp q
            simpa using this
          rw [if_pos (show (Option.isNone (none : Option Vabldo.Record)) = true from rfl), way_two q hx, hc, if_pos (by decide), List.map_cons, List.map_cons, ih]
          unfold dfOf
          rw [way_two q hx, chg_none1 q]
        | some y =>
          have hc : (List.map (fun r => r.name) a.records).contains x.name = true := by
            obtain ⟨h1, h2⟩ := rec_name q
            simp only [List.contains_iff_mem]
            exact List.mem_map.mpr ⟨y, h1, h2⟩
          rw [if_neg (by simp), hc, if_neg (by simp), ih]
    exact key b.records fun x hx => hx
/-! names -/
theorem way_ne {a b : Vabldo.Log} {n : List Nat} (h : way a b n ≠ 0) : n ∈ unlike a b := by
  unfold unlike
  refine List.mem_filter.mpr ⟨?_, bne_iff_ne.mpr h⟩
  unfold allNames names
  cases q1 : recIn a.records n with
  | some x =>
    obtain ⟨h1, h2⟩ := rec_name q1
    exact List.mem_append_left _ (List.mem_map.mpr ⟨x, h1, h2⟩)
  | none =>
    cases q2 : recIn b.records n with
    | some y =>
      obtain ⟨h1, h2⟩ := rec_name q2
      refine List.mem_append_right _ (List.mem_filter.mpr ⟨List.mem_map.mpr ⟨y, h1, h2⟩, ?_⟩)
      have := rec_none.mp q1
      simpa using this
    | none =>
      refine absurd ?_ h
      have h1' : recordOf a n = none := q1
      have h2' : recordOf b n = none := q2
      unfold way
      rw [h1', h2']
def dfNamed (ds : List Df) (n : List Nat) : Option Df := ds.find? fun d => decide (d.name = n)
theorem df_named (a b : Vabldo.Log) (n : List Nat) : dfNamed ((unlike a b).map (dfOf a b)) n = if way a b n = 0 then none else some (dfOf a b n) := by
  unfold dfNamed
  rw [List.find?_map]
  show Option.map (dfOf a b) ((unlike a b).find? fun m => decide (m = n)) = _
  by_cases c : way a b n = 0
  · rw [if_pos c]
    cases q : (unlike a b).find? (fun m => decide (m = n)) with
    | none => rfl
    | some m =>
      obtain ⟨c1, c2, e, h1, _⟩ := find_split q
      have em : m = n := of_decide_eq_true h1
      have : m ∈ unlike a b := by rw [e]; simp
      have := (List.mem_filter.mp this).2
      rw [em, c] at this
      cases this
  · rw [if_neg c]
    cases q : (unlike a b).find? (fun m => decide (m = n)) with
    | none =>
      have := List.find?_eq_none.mp q n (way_ne c)
      simp at this
    | some m =>
      obtain ⟨c1, c2, e, h1, _⟩ := find_split q
      have em : m = n := of_decide_eq_true h1
      rw [em]
      rfl
/-- the unlike action that made a file -/
def unMaker (a b : Vabldo.Log) (f : List Nat) : Option Df := (culprit a b f).map (dfOf a b)
theorem un_maker (a b : Vabldo.Log) (f : List Nat) : (match makerOf a f with
    | none => none
    | some m => dfNamed ((unlike a b).map (dfOf a b)) m.name) = unMaker a b f := by
  unfold unMaker culprit
  cases makerOf a f with
  | none => rfl
  | some m =>
    show dfNamed _ m.name = _
    rw [df_named]
    by_cases c : way a b m.name = 0 <;> simp [c]
theorem chg_four {a b : Vabldo.Log} {n : List Nat} (h : way a b n = 4) : chg a b n = changed a b n := by
  unfold chg changed
  cases recordOf a n with
  | none => rfl
  | some x =>
    cases recordOf b n with
    | none => rfl
    | some y =>
      show (if way a b n = 4 then _ else _) = _
      rw [if_pos h]
theorem root_eq {a b : Vabldo.Log} {n : List Nat} (h : way a b n ≠ 0) : isRoot a b n = (decide (way a b n ≠ 4) || (chg a b n).any fun f => (unMaker a b f).isNone) := by
  unfold isRoot unMaker
  have e0 : (way a b n != 0) = true := bne_iff_ne.mpr h
  rw [e0, Bool.true_and]
  by_cases c : way a b n = 4
  · rw [chg_four c, c]
    simp
  · simp [c]
/-- what is next in a chain -/
def nextDf (a b : Vabldo.Log) (d : Df) : Option Df := if d.way = 4 then (d.changed.filterMap (unMaker a b)).head? else none
theorem head_fm {α β γ : Type} (f : α → Option β) (g : β → γ) (l : List α) : (l.filterMap fun x => (f x).map g).head? = ((l.filterMap f).head?).map g := by
  rw [← List.map_filterMap, List.head?_map]
theorem next_df (a b : Vabldo.Log) (n : List Nat) : nextDf a b (dfOf a b n) = if way a b n = 4 then (((changed a b n).filterMap (culprit a b)).head?).map (dfOf a b) else none := by
  unfold nextDf
  show (if way a b n = 4 then ((chg a b n).filterMap (unMaker a b)).head? else none) = _
  by_cases c : way a b n = 4
  · rw [if_pos c, if_pos c, chg_four c]
    exact head_fm (culprit a b) (dfOf a b) (changed a b n)
  · rw [if_neg c, if_neg c]
/-- how far a chain may go -/
def Rnk (a b : Vabldo.Log) (k : Nat) (n : List Nat) : Prop := way a b n = 4 → ∃ r ∈ a.records.take k, r.name = n
theorem others_mem : ∀ {x y : List Vabldo.Used} {f : List Nat}, f ∈ others x y → ∃ u ∈ x, u.file = f
  | x, y, f, h => by
    unfold others at h
    obtain ⟨p, hp, e⟩ := List.mem_map.mp h
    have := (List.mem_filter.mp hp).1
    exact ⟨p.1, (List.of_mem_zip (a := p.1) (b := p.2) this).1, e⟩
theorem rnk_step {a b : Vabldo.Log} (S : Sd a.records) {k : Nat} {n m : List Nat} (h : Rnk a b (k + 1) n) (hw : way a b n = 4) (hm : ((changed a b n).filterMap (culprit a b)).head? = some m) : Rnk a b k m := by
  intro _
  obtain ⟨r, hr, e⟩ := h hw
  obtain ⟨c, d, hs, hl⟩ := mem_take_at hr
  have hrr : r ∈ a.records := by rw [hs]; simp
  have hin : m ∈ (changed a b n).filterMap (culprit a b) := List.mem_of_mem_head? hm
  obtain ⟨f, hf, hc⟩ := List.mem_filterMap.mp hin
  have hro : recordOf a n = some r := by rw [← e]; exact rec_own S hrr
  have hfi : ∃ u ∈ r.ins, u.file = f := by
    unfold changed at hf
    rw [hro] at hf
    cases q : recordOf b n with
    | none =>
      rw [q] at hf
      cases hf
    | some y =>
      rw [q] at hf
      exact others_mem hf
  obtain ⟨u, hu, eu⟩ := hfi
  unfold culprit at hc
  cases q : makerOf a f with
  | none =>
    rw [q] at hc
    cases hc
  | some x =>
    rw [q] at hc
    obtain ⟨h1, h2⟩ := maker_of_mem q
    have hxn : x.name = m := by
      by_cases z : way a b x.name = 0
      · simp [z] at hc
      · simp [z] at hc
        exact hc
    have hb := S.before hs hu h1 (by rw [eu]; exact h2)
    refine ⟨x, ?_, hxn⟩
    obtain ⟨c1, c2, e2⟩ := mem_split hb
    refine take_pos (a := c1) (b := c2 ++ r :: d) (by rw [hs, e2, List.append_assoc, List.cons_append]) ?_
    rw [e2, List.length_append, List.length_cons] at hl
    omega
theorem rnk_top {a b : Vabldo.Log} (n : List Nat) (h : a.records.length ≤ 33) : Rnk a b 33 n := by
  intro hw
  rw [List.take_of_length_le h]
  unfold way at hw
  cases q : recordOf a n with
  | none =>
    rw [q] at hw
    cases q2 : recordOf b n with
    | none => rw [q2] at hw; cases hw
    | some y => rw [q2] at hw; cases hw
  | some r =>
    obtain ⟨h1, h2⟩ := rec_name q
    exact ⟨r, h1, h2⟩
/-- one step of a chain -/
theorem chain_step {a b : Vabldo.Log} (S : Sd a.records) {k : Nat} {n : List Nat} (h : Rnk a b k n) : (nextDf a b (dfOf a b n) = none ∧ chain a b k n = [n]) ∨ ∃ j m, k = j + 1 ∧ nextDf a b (dfOf a b n) = some (dfOf a b m) ∧ chain a b k n = n :: chain a b j m ∧ Rnk a b j m := by
  rw [next_df]
  by_cases c : way a b n = 4
  · rw [if_pos c]
    cases k with
    | zero =>
      obtain ⟨r, hr, _⟩ := h c
      rw [List.take_zero] at hr
      cases hr
    | succ j =>
      cases q : ((changed a b n).filterMap (culprit a b)).head? with
      | none =>
        refine Or.inl ⟨rfl, ?_⟩
        unfold chain
        rw [if_neg (fun z => z c), q]
      | some m =>
        refine Or.inr ⟨j, m, rfl, rfl, ?_, rnk_step S h c q⟩
        conv => lhs; unfold chain
        rw [if_neg (fun z => z c), q]
  · rw [if_neg c]
    refine Or.inl ⟨rfl, ?_⟩
    cases k with
    | zero => rfl
    | succ j =>
      unfold chain
      rw [if_pos c]
end Bl

-- part L1
set_option Elab.async false
set_option linter.all false
set_option maxRecDepth 100000
set_option maxHeartbeats 4000000
namespace Bl
open PySem PySem.Spec PyProof.Rows L2 LamX
/-! ### min(xs, key=lambda x: x.f) -/
theorem clo_nil {cells : List (Str × Addr)} : ∀ {names : List (Str × NameKind)}, (∀ y ∈ names, y.2 ≠ .free) → cloFrom cells names [] = []
  | [], _ => rfl
  | (n, k) :: r, h => by
    have h1 : k ≠ .free := h (n, k) (List.mem_cons_self ..)
    unfold cloFrom
    rw [if_neg (by simpa using h1)]
    exact clo_nil fun y hy => h y (List.mem_cons_of_mem _ hy)
section
variable {prog : Program} {w : World} {A : Around} {E : Value → Shared → Prop} {s : Shared} {K : PySem.W.Frag}
/-- the lambda is called: an attribute of what it got -/
theorem lam_attr {f c' a dx C : Addr} {q x fld : Str} {params : Arguments} {scope : Scope} {pm ctv : Value} {p1 p2 : Pos} {mA : Str → Option Value} {u : Value} {Q : Value → Shared → Prop}
    (KX : K.In s.heap) (lim : s.heap.NoLimit) (hroom : A.depth < recursionLimit)
    (hf : s.heap.get? f = some (PySem.W.kla_obj "<lambda>" q params (.Attribute (.Name x p1) fld p2) scope [] pm c' ctv)) (hc : s.heap.CodeRec (.ref c') q) (S : FnScope [x] [x] scope) (hl : scope.names.lookup x = some .local)
    (hbind : ∀ v, bindArgs (PySem.W.kla_fn "<lambda>" q params (.Attribute (.Name x p1) fld p2) scope [] pm (.ref c') ctv) ⟨[v], []⟩ = pure [(x, v)])
    (hb : ∀ env : Env, env.scope = scope → attributeBase (.Name x p1) fld env (eval (.Name x p1) env) = eval (.Name x p1) env) (hd : (x == ("__debug__" : Str)) = false)
    (O : ObjM s.heap a dx C mA) (c : Cls K C) (n : NoAttr K C fld) (hu : mA fld = some u) (hh : PySem.W.handedIn u = true)
    (h : ∀ h' tk, (∀ b o, s.heap.get? b = some o → h'.get? b = some o) → Q u { s with heap := h', toks := tk }) : wpAny (model prog w) A (call (.ref f) [.ref a]) Q E s := by
  refine wpAny_call ?_
  refine PySem.W.kla_callFunE hroom hf rfl S.co S.gen rfl hc ?_
  rw [hbind]
  refine wpAny_pure (wpAny_newFunctionEnv_cells S.kind (fun y hy => ?_) fun env he s1 y => ?_)
  · rw [List.mem_singleton] at hy
    rw [hy]
    exact .inl hl
  · have hsc : env.scope = scope := by rw [he]; rfl
    have hko : env.kindOf x = some .local := by rw [he]; exact hl
    refine ⟨lim.keeps y.toInCall.keep, PySem.W.kla_codeExpr (attr_of (hb env hsc) ?_)⟩
    have hm : bindL env.kindOf [(x, Value.ref a)] (fun _ => none) x = some (Value.ref a) := by
      unfold bindL bindL
      rw [if_pos hko]
      simp
    refine wpAny_Name (wpAny_loadName_local (by rw [hsc]; exact S.kind) hko y.toInCall.ns hm ?_) hd
    obtain ⟨h1, tk, rfl, hk⟩ := y.done
    have O1 : ObjM h1 a dx C mA := ⟨hk _ _ O.obj, by
      obtain ⟨o, es, ep, ho, r⟩ := O.ns
      exact ⟨o, es, ep, hk _ _ ho, r⟩, O.ne⟩
    exact get_map (K := K) (fun b o e => hk b o (KX b o e)) O1 (c.get fld) c.hd n hu hh (h h1 _ hk)
end
theorem best_lt {k : Nat → List Int} : ∀ n, argBest (fun i j => HT.lexLt (k i) (k j)) n ≤ n ∧ ∀ j, j ≤ n → HT.lexLt (k j) (k (argBest (fun i j => HT.lexLt (k i) (k j)) n)) = false
  | 0 => ⟨Nat.le_refl 0, fun j hj => by
    obtain rfl : j = 0 := by omega
    exact (NtL.swo_lexL k).refl 0⟩
  | n + 1 => by
    obtain ⟨h1, h2⟩ := best_lt (k := k) n
    have O := NtL.swo_lexL k
    unfold argBest
    cases q : HT.lexLt (k (n + 1)) (k (argBest (fun i j => HT.lexLt (k i) (k j)) n)) with
    | true =>
      rw [if_pos rfl]
      refine ⟨Nat.le_refl _, fun j hj => ?_⟩
      by_cases e : j = n + 1
      · rw [e]
        exact O.refl (n + 1)
      · exact O.tr (n + 1) (argBest (fun i j => HT.lexLt (k i) (k j)) n) j (O.asym _ _ q) (h2 j (by omega))
    | false =>
      rw [if_neg Bool.false_ne_true]
      refine ⟨by omega, fun j hj => ?_⟩
      by_cases e : j = n + 1
      · rw [e]
        exact q
      · exact h2 j (by omega)
/-- min(xs, key=lambda x: x.f): one of the least -/
def rMinL (C : Addr) (fld : Str) (T : List (Addr × Str)) : List V → Hp → VK → Prop := fun vs H1 Q => ∃ (a : Addr) (xs : List V) (k : V → List Int), vs = [.ref a] ∧ H1 a = some (.lst xs) ∧ 0 < xs.length ∧ Tabs T H1 ∧
  (∀ x ∈ xs, ∃ p dx fs t, x = .ref p ∧ H1 p = some (.ins C dx fs) ∧ fs.lookup fld = some (.ref t) ∧ H1 t = some (.tup ((k x).map V.int))) ∧
  ∀ x H2, x ∈ xs → (∀ y ∈ xs, HT.lexLt (k y) (k x) = false) → ExtN H1 H2 → Tabs T H2 → Q x H2
section
variable {X : Cx}
theorem min_lam {C f c' a : Addr} {x fld q : Str} {params : Arguments} {scope : Scope} {p1 p2 : Pos} {pm ctv : Value} {pins : List (Addr × Obj)} {σ : L2.St} {H : Hp} {s : Shared} {Q : VK} {kn : Nat} {xs : List V} {k : V → List Int}
    (hcm : X.calm = true) (hr : Room (kn + 2) X.A) (S : FnScope [x] [x] scope) (hl : scope.names.lookup x = some .local)
    (hbind : ∀ v, bindArgs (PySem.W.kla_fn "<lambda>" q params (.Attribute (.Name x p1) fld p2) scope [] pm (.ref c') ctv) ⟨[v], []⟩ = pure [(x, v)])
    (hb : ∀ env : Env, env.scope = scope → attributeBase (.Name x p1) fld env (eval (.Name x p1) env) = eval (.Name x p1) env) (hd : (x == ("__debug__" : Str)) = false)
    (hC : Cls X.K C) (hn : NoAttr X.K C fld) (I : Inv X pins σ H s) (hf : s.heap.get? f = some (PySem.W.kla_obj "<lambda>" q params (.Attribute (.Name x p1) fld p2) scope [] pm c' ctv)) (hco : H c' = some (CodeO c' q))
    (ha : H a = some (.lst xs)) (h0 : 0 < xs.length) (hx : ∀ x ∈ xs, ∃ p dx fs t, x = .ref p ∧ H p = some (.ins C dx fs) ∧ fs.lookup fld = some (.ref t) ∧ H t = some (.tup ((k x).map V.int)))
    (hQ : ∀ x ∈ xs, (∀ y ∈ xs, HT.lexLt (k y) (k x) = false) → Q x H) :
    wpAny (model X.prog X.w) X.A (call (.builtin "min") [.ref a] [(Str.ofString "key", .ref f)]) (EP X pins σ Q) X.xe s := by
  obtain ⟨its, rv, hpl, hz⟩ := I.list (SqL.of (K := X.K) ha)
  have hil := hpl.isList
  obtain ⟨⟨oc, vs, t, hoc, hdc, hvc⟩, _, _⟩ := I.hok c' _ hco
  have hcr : s.heap.CodeRec (.ref c') q := ⟨c', oc, vs, t, rfl, hoc, hdc, hvc⟩
  have hlen := rv.length
  -- what stands at a place
  have at_ : ∀ (i : Nat) (v : Value), its[i]? = some v → ∃ xv, xs[i]? = some xv ∧ ∃ p dx fs t, xv = .ref p ∧ v = .ref p ∧ H p = some (.ins C dx fs) ∧ fs.lookup fld = some (.ref t) ∧ H t = some (.tup ((k xv).map V.int)) := fun i v hv => by
    have hi : i < xs.length := by
      rw [hlen]
      exact (List.getElem?_eq_some_iff.mp hv).1
    have h1 : xs[i]? = some xs[i] := List.getElem?_eq_getElem hi
    obtain ⟨u, hu, h2⟩ := Vals.get rv h1
    rw [hv] at hu
    cases hu
    generalize xs[i] = xv at h1 h2
    obtain ⟨p, dx, fs, t, e, r⟩ := hx xv (List.mem_of_getElem? h1)
    subst e
    obtain rfl : v = Value.ref p := h2
    exact ⟨_, h1, p, dx, fs, t, rfl, rfl, r⟩
  have hh1 : X.A.in1.handled = none := hr.hd
  refine call_min_walkK (PySem.W.iter_listW hh1 hil fun s₂ e2 W st0 hfp hnew hk2 => ?_)
  refine ⟨_, _, _, _, _, _, _, fun s' => ∃ h' tk, s' = { s with heap := h', toks := tk } ∧ ∀ b o, s.heap.get? b = some o → h'.get? b = some o, fun i v s' => ∃ xv t, xs[i]? = some xv ∧ v = .ref t ∧ H t = some (.tup ((k xv).map V.int)), fun i j => HT.lexLt (k ((xs[i]?).getD .non)) (k ((xs[j]?).getD .non)), rfl, W, st0, hfp, by rw [List.size_toArray, ← hlen]; exact h0, ?_, ?_, fun v s' hv hJ => ?_⟩
  · -- the key's run
    have hS : ∀ b o, s.heap.get? b = some o → b ≠ s₂.heap.objs.size := fun b o e z => by
      rw [z] at e
      exact Nat.lt_irrefl _ (Heap.lt_size (hk2 _ o e))
    refine ⟨fun s1 s2 hJ hM => ?_, fun i kv s1 s2 hV _ => hV, fun i v s1 o Q' E' hi hP hJ hSt hSo hq => ?_, fun i j ki kj s1 Q' E' hJ hVi hVj hq => ?_⟩
    · obtain ⟨h', tk, rfl, hk⟩ := hJ
      obtain ⟨h2, g2, d2, t2, o2⟩ := s2
      obtain rfl : g2 = s.gens := hM.gens
      obtain rfl : d2 = s.drawn := hM.drawn
      obtain rfl : o2 = s.os := hM.os
      refine ⟨h2, t2, rfl, fun b o e => hM.heap b o (fun z => ?_) (hk b o e)⟩
      rcases List.mem_cons.mp z with z | z
      · exact hS b o e z
      · exact hnew b o e z
    · obtain ⟨h', tk, rfl, hk⟩ := hJ
      have hP' : its[i]? = some v := by rw [← List.getElem?_toArray]; exact hP
      obtain ⟨xv, hxi, p, dx, fs, tn, rfl, rfl, hp, hfl, htn⟩ := at_ i v hP'
      have I1 : Inv X pins σ H { s with heap := h', toks := tk } := I.kept hk
      obtain ⟨mA, O, r, _, _, _⟩ := ins_get I1.hok hp
      obtain ⟨u, hu, ru⟩ := RelO.some_of (v := V.ref tn) (o := mA fld) (by rw [← hfl]; exact r fld)
      obtain rfl : u = Value.ref tn := ru
      refine wpAny_with_toks (Nat.le_refl _) ?_
      refine lam_attr (K := X.K) (s := { s with heap := h', toks := tk }) I1.kIn I1.nolimit (hr.in1.depth) (hk _ _ hf) (q := q) ⟨c', oc, vs, t, rfl, hk _ _ hoc, hdc, hvc⟩ S hl hbind hb hd O hC hn hu (handed_of (v := V.ref tn) rfl) fun h2 tk2 hk3 hle => ?_
      refine hq _ _ ⟨h2, tk2, rfl, fun b o e => hk3 b o (hk b o e)⟩ ?_ (hk3 _ _ hSo) ⟨_, tn, hxi, rfl, htn⟩ fun j k' hV => hV
      exact W.frame (i + 1) _ h2 tk2 hSt hle fun b _ o e => hk3 b o e
    · obtain ⟨h', tk, rfl, hk⟩ := hJ
      obtain ⟨xi, ti, e1, rfl, hti⟩ := hVi
      obtain ⟨xj, tj, e2, rfl, htj⟩ := hVj
      rw [e1, e2] at hq
      have I1 : Inv X pins σ H { s with heap := h', toks := tk } := I.kept hk
      obtain ⟨_, its1, r1, o1, ho1, hc1, n1, hd1⟩ := I1.hok _ _ hti
      obtain ⟨_, its2, r2, o2, ho2, hc2, n2, hd2⟩ := I1.hok _ _ htj
      exact HT.lt_tupInts (A := X.A.in1) ⟨o1, ho1, hc1, n1, hd1⟩ ⟨o2, ho2, hc2, n2, hd2⟩ (by simpa using r1.ints) (by simpa using r2.ints) hr.in1.units0 hq
  · subst e2
    exact ⟨_, _, rfl, hk2⟩
  · obtain ⟨h', tk, rfl, hk⟩ := hJ
    rw [List.size_toArray] at hv
    have hbst := best_lt (k := fun i => k ((xs[i]?).getD .non)) (its.length - 1)
    have hv' : its[argBest (fun i j => HT.lexLt (k ((xs[i]?).getD .non)) (k ((xs[j]?).getD .non))) (its.length - 1)]? = some v := by rw [← List.getElem?_toArray]; exact hv
    obtain ⟨xv, hxi, p, dx, fs, tn, rfl, rfl, hp, hfl, htn⟩ := at_ _ v hv'
    refine ⟨.ref p, H, I.kept hk, rfl, hQ _ (List.mem_of_getElem? hxi) fun y hy => ?_⟩
    obtain ⟨j, hj, ej⟩ := List.getElem_of_mem hy
    have h2 := hbst.2 j (by omega)
    rw [hxi, List.getElem?_eq_getElem hj, ej] at h2
    exact h2
theorem pe_minL {T : List (Addr × Str)} {C c P : Addr} {x fld : Str} {e : Expr} {ta : TA} {params : Arguments} {scope : Scope} {p p1 p2 lpos kpos pos : Pos} {k : Nat}
    (hcm : X.calm = true) (hg : Gl X "min") (hm : X.mg "min" = none) (TB : TabB X.base X.mg c P) (hcode : X.env.code = .ref c) (hmT : (P, X.env.qual ++ "<lambda>") ∈ T) (hu : ∀ p ∈ T, p.1 = P → p.2 = X.env.qual ++ "<lambda>") (hr : Room (k + 2) X.A)
    (S : FnScope [x] [x] scope) (hl : scope.names.lookup x = some .local) (hdef : defaultsOf params X.env = ([], []))
    (hbind : ∀ (q : Str) (pm cv ctv v : Value), bindArgs (PySem.W.kla_fn "<lambda>" q params (.Attribute (.Name x p1) fld p2) scope [] pm cv ctv) ⟨[v], []⟩ = pure [(x, v)])
    (hb : ∀ env : Env, env.scope = scope → attributeBase (.Name x p1) fld env (eval (.Name x p1) env) = eval (.Name x p1) env) (hd : (x == ("__debug__" : Str)) = false)
    (hC : Cls X.K C) (hn : NoAttr X.K C fld) (ha : PA X [e] ta)
    (hst : backTo pos (starEach [e] X.env) = (false, eval e X.env) :: backTo pos (starEach [] X.env) := by rfl) (hpl : (backTo pos (starEach [e] X.env)).any (·.1) = false := by rfl) (hv : bootBuiltins "min" = some (.builtin "min") := by decide +kernel) :
    PE X (.Call (.Name "min" p) [e] [⟨some "key", .Lambda params (.Attribute (.Name x p1) fld p2) scope lpos, kpos⟩] pos) (tCB (rMinL C fld T) ta) := by
  refine ⟨fun pins s σ H Q I h => ?_⟩
  refine wpAny_Call_Name_kw (ld_blt I hg hm hv ?_ (by decide) (by decide))
  refine PyProof.Rows.callWith_kw (thn (ha.run pos pins s σ H _ I h) fun us s1 ⟨vs, H1, I1, r1, a, xs, k, ev, hx, h0, hT, hA, q⟩ => ?_) hst hpl rfl rfl
  subst ev
  rw [Vals.ref1 r1]
  refine PyProof.Rows.kwAll_cons (lam_make2 I1 TB hcode hmT hu hT hdef (fun y hy e => absurd e (S.nofree y hy)) fun f c' pm ctv H2 s2 I2 eN T2 hf hfn hfr hco => PyProof.Rows.kwAll_nil ?_)
  rw [clo_nil S.nofree] at hf
  have hns : ∀ b o, H1 b = some o → (∀ ps, o ≠ .tbl ps) → H2 b = some o := eN
  exact min_lam hcm hr S hl (fun v => hbind _ _ _ _ v) hb hd hC hn I2 hf hco (hns _ _ hx fun ps z => nomatch z) h0 (fun x hm => by
    obtain ⟨p, dx, fs, t, e1, e2, e3, e4⟩ := hA x hm
    exact ⟨p, dx, fs, t, e1, hns _ _ e2 (fun ps z => nomatch z), e3, hns _ _ e4 (fun ps z => nomatch z)⟩) fun x hm hl => q x H2 hm hl eN T2
end
end Bl

-- part W22
set_option Elab.async false
set_option linter.all false
set_option maxRecDepth 100000
set_option maxHeartbeats 4000000
namespace Bl
open PySem PySem.Spec PyProof.Rows L2 Evl
/-! ### the walks of comparing.py, first part -/
/-- v is a list of texts -/
def IsTs (ts : List (List Nat)) : V → Hp → Prop := fun v H => ∃ q ys, v = .ref q ∧ H q = some (.lst ys) ∧ All2 (fun t v => IsTx t v H) ts ys
theorem IsTs.mono {ts : List (List Nat)} {v : V} {H H' : Hp} (h : IsTs ts v H) (e : Ex H H') : IsTs ts v H' := by
  obtain ⟨q, ys, ev, hx, hA⟩ := h
  exact ⟨q, ys, ev, e _ _ hx, hA.mono mono_tx e⟩
/-- v is a new list -/
def NewL {α : Type} (A : α → V → Hp → Prop) (l : List α) (H : Hp) : V → Hp → Prop := fun v H' => ∃ q ys, v = .ref q ∧ H q = none ∧ H' q = some (.lst ys) ∧ All2 (fun a x => A a x H') l ys
abbrev NewT (ts : List (List Nat)) (H : Hp) : V → Hp → Prop := NewL (fun t v H => IsTx t v H) ts H
theorem NewL.ts {ts : List (List Nat)} {H H' : Hp} {v : V} (h : NewT ts H v H') : IsTs ts v H' := by
  obtain ⟨q, ys, h1, _, h2, h3⟩ := h
  exact ⟨q, ys, h1, h2, h3⟩
def dTs (ts : List (List Nat)) : List PyData := ts.map fun t => PyData.tuple (dInts t)
theorem eqv_ts : ∀ (a b : List (List Nat)), PyData.eqvAll (dTs a) (dTs b) = decide (a = b)
  | [], [] => rfl
  | [], _ :: _ => rfl
  | _ :: _, [] => rfl
  | x :: a, y :: b => by
    show (PyData.eqv (.tuple (dInts x)) (.tuple (dInts y)) && PyData.eqvAll (dTs a) (dTs b)) = _
    rw [eqv_ts a b, eqv_txt]
    by_cases h : x = y <;> by_cases h2 : a = b <;> simp [h, h2]
theorem eqv_tsl (a b : List (List Nat)) : PyData.eqv (.list (dTs a)) (.list (dTs b)) = decide (a = b) := by
  rw [← eqv_ts]
  simp [PyData.eqv]
section
variable {α : Type} {w : World} {K : PySem.W.Frag} {mg : Str → Option Value} {base : Heap} {σ : L2.St} {H H' : Hp} {ta tb tc te tl td ty : TE} {v y z : V} {D : Ends} {tu tz : TS}
theorem dp_ts {ts : List (List Nat)} {ys : List V} (h : All2 (fun t v => IsTx t v H) ts ys) : DpAll K H ys (dTs ts) := by
  induction h with
  | nil => exact .nil
  | cons h1 _ ih =>
    obtain ⟨a, rfl, ha⟩ := h1
    exact .cons (.tup ha.sq (dp_txt _)) ih
theorem can_ts : ∀ ts : List (List Nat), PyData.canLayAll0 (dTs ts) = true
  | [] => rfl
  | t :: ts => by
    show (PyData.canLay0 (.tuple (dInts t)) && PyData.canLayAll0 (dTs ts)) = true
    rw [can_ts ts, Bool.and_true]
    exact can_txt t
theorem depth_ts : ∀ ts : List (List Nat), PyData.depthAll (dTs ts) ≤ 1
  | [] => Nat.zero_le _
  | t :: ts => by
    show max (PyData.depth (.tuple (dInts t))) (PyData.depthAll (dTs ts)) ≤ 1
    have h1 : PyData.depth (.tuple (dInts t)) = 1 := by
      show PyData.depthAll (dInts t) + 1 = 1
      rw [depth_txt]
    have := depth_ts ts
    omega
theorem shaped_ts (ts : List (List Nat)) : SeqAt.shaped (.list (dTs ts)) = true := by
  unfold SeqAt.shaped
  rw [Bool.and_eq_true]
  refine ⟨can_ts ts, decide_eq_true ?_⟩
  show PyData.depthAll (dTs ts) + 1 ≤ 64
  have := depth_ts ts
  omega
theorem ev_eqTs {p q : List (List Nat)} (ha : EvP ta σ H (IsTs p)) (hb : EvP tb σ H (IsTs q)) : Ev (tOp (rEqD K) ta tb) σ H (.bl (decide (p = q))) := evp_v (ep_op ha (fun x H1 e1 _ => hb.mono e1) fun x H1 y H2 e1 px e2 py Q k => by
  obtain ⟨a, xs, rfl, hx, hX⟩ := px
  obtain ⟨b, ys, rfl, hy, hY⟩ := py
  refine ⟨.list (dTs p), .list (dTs q), .lst (sq_of (e2 _ _ hx)) (dp_ts (hX.mono mono_tx e2)), .lst (sq_of hy) (dp_ts hY), shaped_ts p, shaped_ts q, ?_⟩
  rw [eqv_tsl]
  exact k _ H2 (Ex.refl H2) rfl)
theorem filter_yes {l : List α} : l.filter (fun _ => true) = l := List.filter_eq_self.mpr fun _ _ => rfl
end
abbrev sp_find_record (K : PySem.W.Frag) : Sp := spR fun vs H Post => ∃ (a : Addr) (xs : List V) (rs : List Vabldo.Record) (b : Addr) (t : List Nat), vs = [.ref a, .ref b] ∧ H a = some (.lst xs) ∧ All2 (fun r v => RecAt K r v H) rs xs ∧ Tx H b t ∧ Post = OptAt (RecAt K) (recIn rs t)
abbrev sp_names_of (K : PySem.W.Frag) : Sp := spR fun vs H Post => ∃ (a : Addr) (xs : List V) (us : List Vabldo.Used), vs = [.ref a] ∧ H a = some (.lst xs) ∧ All2 (fun u v => FileAt K u v H) us xs ∧ us.length ≤ 40000 ∧ Post = NewT (us.map fun u => u.file) H
abbrev sp_changed_names (K : PySem.W.Frag) : Sp := spR fun vs H Post => ∃ (a b : Addr) (xs ys : List V) (us ws : List Vabldo.Used), vs = [.ref a, .ref b] ∧ H a = some (.lst xs) ∧ All2 (fun u v => FileAt K u v H) us xs ∧ H b = some (.lst ys) ∧ All2 (fun u v => FileAt K u v H) ws ys ∧ us.length ≤ 40000 ∧ us.length = ws.length ∧ Post = NewT (Vabldo.others us ws) H
abbrev sp_is_defined_alike (K : PySem.W.Frag) : Sp := spR fun vs H Post => ∃ (x y : V) (r o : Vabldo.Record), vs = [x, y] ∧ RecAt K r x H ∧ RecAt K o y H ∧ rcN r ≤ 1000 ∧ rcN o ≤ 1000 ∧ Post = fun v _ => v = .bl (Vabldo.alike r o)
def DifAt (K : PySem.W.Frag) (d : Df) (v : V) (H : Hp) : Prop := ∃ (x dx nm ch : Addr) (ys : List V), v = .ref x ∧ H x = some (.ins (He.ga K "Difference") dx [("name", .ref nm), ("way", .int (d.way : Int)), ("changed", .ref ch)]) ∧ Tx H nm d.name ∧ H ch = some (.lst ys) ∧ All2 (fun t v => IsTx t v H) d.changed ys
theorem mono_dif {K : PySem.W.Frag} : Mono (DifAt K) := fun d v H H' e h => by
  obtain ⟨x, dx, nm, ch, ys, h1, h2, h3, h4, h5⟩ := h
  exact ⟨x, dx, nm, ch, ys, h1, e _ _ h2, h3.mono e, e _ _ h4, h5.mono mono_tx e⟩
/-- the same, its list new since H0 -/
def DifN (K : PySem.W.Frag) (H0 : Hp) (d : Df) (v : V) (H : Hp) : Prop := ∃ (x dx nm ch : Addr) (ys : List V), v = .ref x ∧ H x = some (.ins (He.ga K "Difference") dx [("name", .ref nm), ("way", .int (d.way : Int)), ("changed", .ref ch)]) ∧ Tx H nm d.name ∧ H ch = some (.lst ys) ∧ All2 (fun t v => IsTx t v H) d.changed ys ∧ H0 ch = none
theorem DifN.at_ {K : PySem.W.Frag} {H0 H : Hp} {d : Df} {v : V} (h : DifN K H0 d v H) : DifAt K d v H := by
  obtain ⟨x, dx, nm, ch, ys, h1, h2, h3, h4, h5, _⟩ := h
  exact ⟨x, dx, nm, ch, ys, h1, h2, h3, h4, h5⟩
theorem NewL.back {α : Type} {A : α → V → Hp → Prop} {l : List α} {H0 H1 H : Hp} {v : V} (h : NewL A l H1 v H) (e : Ex H0 H1) : NewL A l H0 v H := by
  obtain ⟨q, ys, h1, h2, h3⟩ := h
  exact ⟨q, ys, h1, fresh_back e h2, h3⟩
abbrev sp_Difference (K : PySem.W.Frag) : Sp := spI (He.ga K "Difference") ["name", "way", "changed"]
section
variable {α : Type} {w : World} {K : PySem.W.Frag} {mg : Str → Option Value} {base : Heap} {σ : L2.St} {H H' : Hp} {ta tb tc te tl td ty : TE} {v y z : V} {D : Ends} {tu tz : TS}
theorem sc_Difference_init : FnScope ["self", "name", "way", "changed"] ["self", "name", "way", "changed"] (defScope s_Difference_init) := ⟨rfl, rfl, rfl, by decide +kernel, rfl, by decide +kernel, by decide +kernel⟩
theorem ok_Difference (T : Txt w K mg) : HasC P0 w K mg base "Difference" 1 ["self", "name", "way", "changed"] (sp_Difference K) ["name", "way", "changed"] := by
  refine hasC_of T.f_Difference_init T.m_Difference T.c_Difference T.g_Difference (List.forall_mem_cons.mpr ⟨T.n_Difference_name, (List.forall_mem_cons.mpr ⟨T.n_Difference_way, (List.forall_mem_cons.mpr ⟨T.n_Difference_changed, (fun _ h => absurd h List.not_mem_nil)⟩)⟩)⟩) sc_Difference_init (fun _ _ _ _ _ _ us hl => match us, hl with | [_, _, _, _], _ => rfl) (fun vs H Q E h => spI_len h) (fun cdv A outer s H vs Q E hr h => ⟨_, PSs.nox (pss_cons (ps_fld (pv 0) (pv 1) rfl) (pss_cons (ps_fld (pv 0) (pv 2) rfl) (pss_one (ps_fld (pv 0) (pv 3) rfl)))), ?_⟩)
  obtain ⟨x, dx, as, rfl, hl, hH, k⟩ := h
  obtain ⟨a, b, c, rfl⟩ := len3 hl
  refine st_seq (st_fld (val_var rfl) (val_var rfl) hH T.c_Difference T.n_Difference_name (by decide) ?_)
  refine st_seq (st_fld (val_var rfl) (val_var rfl) upd_same T.c_Difference T.n_Difference_way (show (1 : Nat) < 1000 by decide) ?_)
  refine st_fld (val_var rfl) (val_var rfl) upd_same T.c_Difference T.n_Difference_changed (show (2 : Nat) < 1000 by decide) ?_
  rw [upd_upd, upd_upd]
  exact k
theorem ep_diff {d : Df} {E : XK} {H0 : Hp} (h1 : EvP ta σ H (IsTx d.name)) (h2 : Ev tb σ H (.int (d.way : Int))) (h3 : EvP tc σ H (NewT d.changed H0)) : EvP (tMake (He.ga K "Difference") (sp_Difference K) [] E (tCons ta (tCons tb (tCons tc tNil)))) σ H (DifN K H0 d) := by
  refine EvP.imp (ep_make (PA := fun as H1 => ∃ s ch ys, as = [.ref s, .int (d.way : Int), .ref ch] ∧ Tx H1 s d.name ∧ H1 ch = some (.lst ys) ∧ All2 (fun t v => IsTx t v H1) d.changed ys ∧ H0 ch = none) (fun H1 e Q q => h1 H1 e _ fun v H2 e2 p => h2 H2 (e.trans e2) _ fun H3 e3 => h3 H3 ((e.trans e2).trans e3) _ fun v2 H4 e4 p2 => ?_) ?_ ?_) ?_
  · obtain ⟨s, rfl, hs⟩ := p
    obtain ⟨ch, ys, rfl, h0, hc, hy⟩ := p2
    exact q _ H4 ((e2.trans e3).trans e4) ⟨s, ch, ys, rfl, hs.mono (e3.trans e4), hc, hy, h0⟩
  · rintro as H1 ⟨s, ch, ys, rfl, _⟩
    rfl
  · rintro as H1 H2 e ⟨s, ch, ys, rfl, h, h2, h3, h0⟩
    exact ⟨s, ch, ys, rfl, h.mono e, e _ _ h2, h3.mono mono_tx e, h0⟩
  · rintro v H1 e ⟨x, dx, as, rfl, hx, s, ch, ys, rfl, hs, hc, hy, h0⟩
    exact ⟨x, dx, s, ch, ys, rfl, hx, hs, hc, hy, h0⟩
theorem sc_find_record : FnScope ["records", "name", "record"] ["records", "name"] (defScope s_find_record) := ⟨rfl, rfl, rfl, by decide +kernel, rfl, by decide +kernel, by decide +kernel⟩
theorem ok_find_record (T : Txt w K mg)  : Has P0 w K mg base "find_record" 1 ["records", "name"] (sp_find_record K) := by
  refine has_of T.f_find_record T.g_find_record sc_find_record (fun _ _ _ _ _ _ us hl => match us, hl with | [_, _], _ => rfl) (fun vs H Q E h => by obtain ⟨_, ⟨a, xs, rs, b, t, rfl, hx, hA, hb, rfl⟩, _⟩ := h; rfl) (fun cdv A outer s H vs Q E hr h => ⟨_, PSs.nox (pss_cons (ps_for PassesOwn.never rfl (pi_list (pv 0)) (pg_name (i := 2) sc_find_record.nd rfl (Or.inl rfl)) (pss_one (ps_if (pt_cmpR (op_eqD (by exact hr.units)) (pe_fld (pv 2) rfl) (pv 1) (nomark _)) (pss_one (ps_ret (pv 2))) pss_nil))) (pss_one (ps_ret pe_non))), ?_⟩)
  obtain ⟨_, ⟨a, xs, rs, b, t, rfl, hx, hA, hb, rfl⟩, k⟩ := h
  refine q_forE (l := rs) (A := RecAt K) (it_list (M := []) (ev_var rfl) hx (by rw [minus_nil]; exact hA) mono_rec (by simp)) (fun pre σ' _ => (∃ y, σ' = [some (.ref a), some (.ref b), y]) ∧ ∀ r ∈ pre, (r.name == t) = false) (fun H1 e1 => ⟨⟨_, rfl⟩, by simp⟩) (fun H2 e2 pre r post xr σ' H' hl e3 hP hR => ?_) (fun σ' H' e1 hP => ?_)
  · obtain ⟨⟨y, rfl⟩, hn⟩ := hP
    obtain ⟨s, hs, hsn⟩ := rname T hR
    refine s_when (b := decide (r.name = t)) (et_test (ev_eqTx (ev_tx (hsn (ev_var rfl)) hs) (ev_tx (ev_var rfl) (hb.mono (e2.trans e3))))) (fun hm H4 e4 => ?_) (fun hm H4 e4 => ⟨e3.trans e4, ⟨_, rfl⟩, ?_⟩)
    · refine s_ret (ev_var rfl) fun H5 e5 => k _ H5 ((e2.trans e3).trans (e4.trans e5)) ?_
      have e : recIn rs t = some r := by
        unfold recIn
        rw [hl]
        exact find_at (p := fun r : Vabldo.Record => r.name == t) hn (beq_iff_eq.mpr (of_decide_eq_true hm))
      rw [e]
      exact mono_rec _ _ _ _ (e4.trans e5) hR
    · intro x hx
      rcases List.mem_append.mp hx with hx | hx
      · exact hn x hx
      · rw [List.mem_singleton.mp hx]
        exact beq_eq_false_iff_ne.mpr (of_decide_eq_false hm)
  · obtain ⟨⟨y, rfl⟩, hn⟩ := hP
    refine s_ret ev_c fun H2 e2 => k _ H2 (e1.trans e2) ?_
    have e : recIn rs t = none := find_none hn
    rw [e]
    rfl
theorem txm {t : List Nat} {v : V} {H : Hp} (Dl : Addr) (xs : List V) (h : IsTx t v H) (hD : H Dl = some (.lst xs)) : IsTx t v (minus H [Dl]) := tx_minus h hD
theorem sc_names_of : FnScope ["files", "file"] ["files"] (defScope s_names_of) := ⟨rfl, rfl, rfl, by decide +kernel, rfl, by decide +kernel, by decide +kernel⟩
theorem ok_names_of (T : Txt w K mg)  : Has P0 w K mg base "names_of" 1 ["files"] (sp_names_of K) := by
  refine has_of T.f_names_of T.g_names_of sc_names_of (fun _ _ _ _ _ _ us hl => match us, hl with | [_], _ => rfl) (fun vs H Q E h => by obtain ⟨_, ⟨a, xs, us, rfl, hx, hA, hz, rfl⟩, _⟩ := h; rfl) (fun cdv A outer s H vs Q E hr h => ⟨_, PSs.nox (pss_one (ps_ret (pe_lc (own := [("file", 1)]) (g := gName 1) (te := (tFld K (tVar 1) "name")) rfl sc_names_of.nd (pi_list (pv 0)) (blkOk_by (own := [("file", 1)]) (N := ["files", "file"]) (sc := defScope s_names_of) (by decide +kernel)) (fun _ _ _ _ _ => pg_name (i := 1) sc_names_of.nd rfl (Or.inl rfl)) (fun _ _ _ _ _ => pts_nil) (fun _ _ _ _ _ => (pe_fld (pv 1) rfl))))), ?_⟩)
  obtain ⟨_, ⟨a, xs, us, rfl, hx, hA, hz, rfl⟩, k⟩ := h
  refine em_comp (β := Unit) (l := us) (A := FileAt K) (fun _ => true) (fun u x H => IsTx u.file x H) (fun u x H H' e h => h.mono e) (it_list (M := []) (ev_var rfl) hx (by rw [minus_nil]; exact hA) mono_file (by simp)) hz (fun _ => rfl) (fun t v H D xs h hD => tx_minus h hD) (fun u x H1 _ _ _ => et_yes) (fun u x H1 _ e1 hu _ => ep_fname T (ev_var rfl) hu) _ (Ex.refl _) _ fun q ys H2 hq e2 h2 hB => k _ H2 e2 ⟨q, ys, rfl, hq, h2, ?_⟩
  rw [filter_yes] at hB
  exact all2_map hB
def nilU : Vabldo.Used := ⟨[], 0⟩
theorem zip_range {us ws : List Vabldo.Used} (h : us.length = ws.length) : us.zip ws = (List.range us.length).map fun i => ((us[i]?).getD nilU, (ws[i]?).getD nilU) := by
  refine List.ext_getElem? fun i => ?_
  by_cases hi : i < us.length
  · have hi2 : i < ws.length := by omega
    rw [List.getElem?_map, List.getElem?_range hi, List.getElem?_eq_getElem (by rw [List.length_zip]; omega), List.getElem_zip]
    simp [List.getElem?_eq_getElem hi, List.getElem?_eq_getElem hi2]
  · rw [List.getElem?_eq_none (by rw [List.length_zip]; omega), List.getElem?_eq_none (by rw [List.length_map, List.length_range]; omega)]
theorem others_range {us ws : List Vabldo.Used} (h : us.length = ws.length) : Vabldo.others us ws = ((List.range us.length).filter fun i => ((us[i]?).getD nilU).number != ((ws[i]?).getD nilU).number).map fun i => ((us[i]?).getD nilU).file := by
  unfold Vabldo.others
  rw [zip_range h, List.filter_map, List.map_map]
  rfl
theorem file_at {us : List Vabldo.Used} {xs : List V} {i : Nat} (h : All2 (fun u v => FileAt K u v H) us xs) (hi : i < us.length) : ∃ x, xs[i]? = some x ∧ FileAt K ((us[i]?).getD nilU) x H := by
  have h1 : us[i]? = some us[i] := List.getElem?_eq_getElem hi
  obtain ⟨x, hx, hf⟩ := h.getL h1
  rw [h1]
  exact ⟨x, hx, hf⟩
theorem ev_neN {n m : Nat} (h1 : Ev ta σ H (.int (n : Int))) (h2 : Ev tb σ H (.int (m : Int))) : Ev (tOp rNe ta tb) σ H (.bl (n != m)) := by
  have e : (!decide (V.int (n : Int) = V.int (m : Int))) = (n != m) := by
    by_cases q : n = m
    · subst q
      simp
    · have q2 : ¬ (n : Int) = (m : Int) := by omega
      simp [q, q2]
  rw [← e]
  exact ev_op h1 h2 (rv_ne rfl)
theorem sc_changed_names : FnScope ["files", "others", "i"] ["files", "others"] (defScope s_changed_names) := ⟨rfl, rfl, rfl, by decide +kernel, rfl, by decide +kernel, by decide +kernel⟩
theorem ok_changed_names (T : Txt w K mg)  : Has P0 w K mg base "changed_names" 1 ["files", "others"] (sp_changed_names K) := by
  refine has_of T.f_changed_names T.g_changed_names sc_changed_names (fun _ _ _ _ _ _ us hl => match us, hl with | [_, _], _ => rfl) (fun vs H Q E h => by obtain ⟨_, ⟨a, b, xs, ys, us, ws, rfl, hx, hA, hy, hB, hz, hl, rfl⟩, _⟩ := h; rfl) (fun cdv A outer s H vs Q E hr h => ⟨_, PSs.nox (pss_one (ps_ret (pe_lc (own := [("i", 2)]) (g := gName 2) (te := (tFld K (tOp (rIxL K) (tVar 0) (tVar 2)) "name")) (tt := (tTest (tOp (rNe) (tFld K (tOp (rIxL K) (tVar 0) (tVar 2)) "number") (tFld K (tOp (rIxL K) (tVar 1) (tVar 2)) "number")))) rfl sc_changed_names.nd (pi_range1 rfl T.b_range (pa_cons (pe_callB call_len_seq (by rfl) T.b_len PySem.boot_len (pa_cons (pv 0) pa_nil)) pa_nil)) (blkOk_by (own := [("i", 2)]) (N := ["files", "others", "i"]) (sc := defScope s_changed_names) (by decide +kernel)) (fun _ _ _ _ _ => pg_name (i := 2) sc_changed_names.nd rfl (Or.inl rfl)) (fun _ _ _ _ _ => (pts_one (pt_cmpR op_ne (pe_fld (pe_ix ix_list (pv 0) (pv 2) (fun _ _ => rfl)) rfl) (pe_fld (pe_ix ix_list (pv 1) (pv 2) (fun _ _ => rfl)) rfl) (nomark _)))) (fun _ _ _ _ _ => (pe_fld (pe_ix ix_list (pv 0) (pv 2) (fun _ _ => rfl)) rfl))))), ?_⟩)
  obtain ⟨_, ⟨a, b, xs, ys, us, ws, rfl, hx, hA, hy, hB, hz, hl, rfl⟩, k⟩ := h
  have e0 : ∀ H1, Ex H H1 → EvA (tCons (tCB (rLenQ K) (tCons (tVar 0) tNil)) tNil) [some (.ref a), some (.ref b), none] H1 [.int (us.length : Int)] := fun H1 e1 => ea_cons (by
    have := ev_lenLs (K := K) (σ := [some (V.ref a), some (V.ref b), none]) (ta := tVar 0) (ev_var rfl) (e1 _ _ hx)
    rw [← hA.len] at this
    exact this) ea_nil
  refine em_comp (β := Unit) (l := List.range us.length) (A := fun i x _ => x = .int (i : Int)) (fun i => ((us[i]?).getD nilU).number != ((ws[i]?).getD nilU).number) (fun i x H => IsTx ((us[i]?).getD nilU).file x H) (fun u x H H' e h => h.mono e) (it_rng (e0 H (Ex.refl H)) (by omega)) (by rw [List.length_range]; exact hz) (fun _ => rfl) (fun t v H D xs h hD => tx_minus h hD) (fun i x H1 hi e1 hx1 => ?_) (fun i x H1 hi e1 hx1 _ => ?_) _ (Ex.refl _) _ fun q zs H2 hq e2 h2 hC => k _ H2 e2 ⟨q, zs, rfl, hq, h2, ?_⟩
  · subst hx1
    have hi := List.mem_range.mp hi
    obtain ⟨x1, h1, f1⟩ := file_at (hA.mono mono_file e1) hi
    obtain ⟨x2, h2, f2⟩ := file_at (hB.mono mono_file e1) (i := i) (by omega)
    exact et_test (ev_neN (ev_fnum T (ev_lstAt (ev_var rfl) (ev_var rfl) (e1 _ _ hx) h1) f1) (ev_fnum T (ev_lstAt (ev_var rfl) (ev_var rfl) (e1 _ _ hy) h2) f2))
  · subst hx1
    have hi := List.mem_range.mp hi
    obtain ⟨x1, h1, f1⟩ := file_at (hA.mono mono_file e1) hi
    exact ep_fname T (ev_lstAt (ev_var rfl) (ev_var rfl) (e1 _ _ hx) h1) f1
  · rw [others_range hl]
    exact all2_map hC
theorem ep_names {us : List Vabldo.Used} {b : Addr} {xs : List V} (h : Ev ta σ H (.ref b)) (hx : H b = some (.lst xs)) (hA : All2 (fun u v => FileAt K u v H) us xs) (hz : us.length ≤ 40000) : EvP (tCall (sp_names_of K) [] E0 (tCons ta tNil)) σ H (IsTs (us.map fun u => u.file)) := ep_callW (ea_cons h ea_nil) fun H1 e1 => ⟨_, ⟨b, xs, us, rfl, e1 _ _ hx, hA.mono mono_file e1, hz, rfl⟩, fun v H2 _ hv => hv.ts⟩
theorem sc_is_defined_alike : FnScope ["record", "other"] ["record", "other"] (defScope s_is_defined_alike) := ⟨rfl, rfl, rfl, by decide +kernel, rfl, by decide +kernel, by decide +kernel⟩
theorem ok_is_defined_alike (T : Txt w K mg) (H_names_of : Has P0 w K mg base "names_of" 1 ["files"] (sp_names_of K)) : Has P0 w K mg base "is_defined_alike" 2 ["record", "other"] (sp_is_defined_alike K) := by
  refine has_of T.f_is_defined_alike T.g_is_defined_alike sc_is_defined_alike (fun _ _ _ _ _ _ us hl => match us, hl with | [_, _], _ => rfl) (fun vs H Q E h => by obtain ⟨_, ⟨x, y, r, o, rfl, hR, hO, hz, hz2, rfl⟩, _⟩ := h; rfl) (fun cdv A outer s H vs Q E hr h => ⟨_, PSs.nox (pss_one (ps_ret (pe_and (pe_cmpR (op_eqD (by exact hr.units)) (pe_fld (pv 0) rfl) (pe_fld (pv 1) rfl) (nomark _)) (pe_and (pe_cmpR (op_eqD (by exact hr.units)) (pe_fld (pv 0) rfl) (pe_fld (pv 1) rfl) (nomark _)) (pe_and (pe_cmpR (op_eqD (by exact hr.units)) (pe_h H_names_of (by exact hr.mono (by decide)) (by rfl) (pa_cons (pe_fld (pv 0) rfl) pa_nil)) (pe_h H_names_of (by exact hr.mono (by decide)) (by rfl) (pa_cons (pe_fld (pv 1) rfl) pa_nil)) (nomark _)) (pe_one (pe_cmpR (op_eqD (by exact hr.units)) (pe_h H_names_of (by exact hr.mono (by decide)) (by rfl) (pa_cons (pe_fld (pv 0) rfl) pa_nil)) (pe_h H_names_of (by exact hr.mono (by decide)) (by rfl) (pa_cons (pe_fld (pv 1) rfl) pa_nil)) (nomark _)))))))), ?_⟩)
  obtain ⟨_, ⟨x, y, r, o, rfl, hR, hO, hz, hz2, rfl⟩, k⟩ := h
  obtain ⟨p, dx, nm, tl, a1, a2, a3, xs1, xs2, xs3, rfl, hX⟩ := hR
  obtain ⟨p', dx', nm', tl', b1, b2, b3, ys1, ys2, ys3, rfl, hY⟩ := hO
  unfold rcN at hz hz2
  refine s_ret (v := .bl (Vabldo.alike r o)) (ev_isS (ev_andV (ev_eqTx (ev_tx (ev_fld (ev_var rfl) hX.o T.c_Record T.n_Record_tool rfl) hX.tl) (ev_tx (ev_fld (ev_var rfl) hY.o T.c_Record T.n_Record_tool rfl) hY.tl)) fun _ => ev_andV (ev_eqTs (fun H1 e1 Q q => ev_fld (ev_var rfl) hX.o T.c_Record T.n_Record_arguments rfl H1 e1 Q fun H2 e2 => q _ H2 e2 ⟨a1, xs1, rfl, (e1.trans e2) _ _ hX.l1, hX.ar.mono mono_tx (e1.trans e2)⟩) (fun H1 e1 Q q => ev_fld (ev_var rfl) hY.o T.c_Record T.n_Record_arguments rfl H1 e1 Q fun H2 e2 => q _ H2 e2 ⟨b1, ys1, rfl, (e1.trans e2) _ _ hY.l1, hY.ar.mono mono_tx (e1.trans e2)⟩)) fun _ => ev_andV (ev_eqTs (ep_names (ev_fld (ev_var rfl) hX.o T.c_Record T.n_Record_inputs rfl) hX.l2 hX.i (by omega)) (ep_names (ev_fld (ev_var rfl) hY.o T.c_Record T.n_Record_inputs rfl) hY.l2 hY.i (by omega))) fun _ => ev_eqTs (ep_names (ev_fld (ev_var rfl) hX.o T.c_Record T.n_Record_outputs rfl) hX.l3 hX.ou (by omega)) (ep_names (ev_fld (ev_var rfl) hY.o T.c_Record T.n_Record_outputs rfl) hY.l3 hY.ou (by omega))) ?_) fun H1 e1 => k _ H1 e1 rfl
  unfold Vabldo.alike Vabldo.filesAlike
  simp only [Bool.beq_eq_decide_eq]
end
end Bl

-- part W23
set_option Elab.async false
set_option linter.all false
set_option maxRecDepth 100000
set_option maxHeartbeats 4000000
namespace Bl
open PySem PySem.Spec PyProof.Rows L2 Evl
/-! ### the walks of comparing.py, second part -/
abbrev sp_compare_records (K : PySem.W.Frag) : Sp := spR fun vs H Post => ∃ (x y : V) (r o : Vabldo.Record), vs = [x, y] ∧ RecAt K r x H ∧ RecAt K o y H ∧ rcN r ≤ 1000 ∧ rcN o ≤ 1000 ∧ Post = OptAt (DifN K H) (dfRec r o)
abbrev sp_compare_with_second (K : PySem.W.Frag) : Sp := spR fun vs H Post => ∃ (x : V) (b : Addr) (ys : List V) (r : Vabldo.Record) (bs : List Vabldo.Record), vs = [x, .ref b] ∧ RecAt K r x H ∧ H b = some (.lst ys) ∧ All2 (fun r v => RecAt K r v H) bs ys ∧ rcN r ≤ 1000 ∧ (∀ o ∈ bs, rcN o ≤ 1000) ∧ Post = OptAt (DifN K H) (dfWith bs r)
abbrev sp_find_differences (K : PySem.W.Frag) : Sp := spR fun vs H Post => ∃ (a b : Addr) (xs ys : List V) (as bs : List Vabldo.Record), vs = [.ref a, .ref b] ∧ H a = some (.lst xs) ∧ All2 (fun r v => RecAt K r v H) as xs ∧ H b = some (.lst ys) ∧ All2 (fun r v => RecAt K r v H) bs ys ∧ as.length ≤ 1000 ∧ bs.length ≤ 1000 ∧ (∀ r ∈ as, rcN r ≤ 1000) ∧ (∀ o ∈ bs, rcN o ≤ 1000) ∧ Post = NewL (DifAt K) (dfAll as bs) H
section
variable {α : Type} {w : World} {K : PySem.W.Frag} {mg : Str → Option Value} {base : Heap} {σ : L2.St} {H H' : Hp} {ta tb tc te tl td ty : TE} {v y z : V} {D : Ends} {tu tz : TS}
theorem ep_nilN {H0 : Hp} (h0 : Ex H0 H) : EvP (tLst tNil) σ H (NewT [] H0) := fun H1 e Q q => el_lst ea_nil (by decide) H1 e Q fun p H2 hp e2 h2 => q _ H2 e2 ⟨p, [], rfl, fresh_back (h0.trans e) hp, h2, .nil⟩
theorem ep_chgd {us ws : List Vabldo.Used} {a b : Addr} {xs ys : List V} (h : Ev ta σ H (.ref a)) (hx : H a = some (.lst xs)) (hA : All2 (fun u v => FileAt K u v H) us xs) (h2 : Ev tb σ H (.ref b)) (hy : H b = some (.lst ys)) (hB : All2 (fun u v => FileAt K u v H) ws ys) (hz : us.length ≤ 40000) (hl : us.length = ws.length) {H0 : Hp} (h0 : Ex H0 H) : EvP (tCall (sp_changed_names K) [] E0 (tCons ta (tCons tb tNil))) σ H (NewT (Vabldo.others us ws) H0) :=
  ep_callW (ea_cons h (ea_cons h2 ea_nil)) fun H1 e1 => ⟨_, ⟨a, b, xs, ys, us, ws, rfl, e1 _ _ hx, hA.mono mono_file e1, e1 _ _ hy, hB.mono mono_file e1, hz, hl, rfl⟩, fun v H2 _ hv => NewL.back hv (h0.trans e1)⟩
theorem ev_tsv {ts : List (List Nat)} {q : Addr} {ys : List V} (h : Ev ta σ H (.ref q)) (hq : H q = some (.lst ys)) (hA : All2 (fun t v => IsTx t v H) ts ys) : EvP ta σ H (IsTs ts) := fun H1 e Q k => h H1 e Q fun H2 e2 => k _ H2 e2 ⟨q, ys, rfl, (e.trans e2) _ _ hq, hA.mono mono_tx (e.trans e2)⟩
theorem ev_tsN {ts : List (List Nat)} {q : Addr} {ys : List V} {H0 : Hp} (h : Ev ta σ H (.ref q)) (h0 : H0 q = none) (hq : H q = some (.lst ys)) (hA : All2 (fun t v => IsTx t v H) ts ys) : EvP ta σ H (NewT ts H0) := fun H1 e Q k => h H1 e Q fun H2 e2 => k _ H2 e2 ⟨q, ys, rfl, h0, (e.trans e2) _ _ hq, hA.mono mono_tx (e.trans e2)⟩
theorem alike_len {r o : Vabldo.Record} (h : Vabldo.alike r o = true) : r.ins.length = o.ins.length ∧ r.outs.length = o.outs.length := by
  unfold Vabldo.alike Vabldo.filesAlike at h
  simp only [Bool.and_eq_true, beq_iff_eq] at h
  obtain ⟨_, _, h1, h2⟩ := h
  have h3 := congrArg List.length h1
  have h4 := congrArg List.length h2
  rw [List.length_map, List.length_map] at h3 h4
  exact ⟨h3, h4⟩
theorem len_pos (ts : List (List Nat)) (n : Nat) (h : n = ts.length) : decide ((0 : Int) < (n : Int)) = !ts.isEmpty := by
  subst h
  cases ts with
  | nil => rfl
  | cons t ts =>
    refine decide_eq_true ?_
    rw [List.length_cons]
    omega
theorem sc_compare_records : FnScope ["record", "other", "inputs", "outputs"] ["record", "other"] (defScope s_compare_records) := ⟨rfl, rfl, rfl, by decide +kernel, rfl, by decide +kernel, by decide +kernel⟩
theorem ok_compare_records (T : Txt w K mg) (H_is_defined_alike : Has P0 w K mg base "is_defined_alike" 2 ["record", "other"] (sp_is_defined_alike K)) (H_Difference : HasC P0 w K mg base "Difference" 1 ["self", "name", "way", "changed"] (sp_Difference K) ["name", "way", "changed"]) (H_changed_names : Has P0 w K mg base "changed_names" 1 ["files", "others"] (sp_changed_names K)) : Has P0 w K mg base "compare_records" 3 ["record", "other"] (sp_compare_records K) := by
  refine has_of T.f_compare_records T.g_compare_records sc_compare_records (fun _ _ _ _ _ _ us hl => match us, hl with | [_, _], _ => rfl) (fun vs H Q E h => by obtain ⟨_, ⟨x, y, r, o, rfl, hR, hO, hz, hz2, rfl⟩, _⟩ := h; rfl) (fun cdv A outer s H vs Q E hr h => ⟨_, PSs.nox (pss_cons (ps_if (pt_not (pt_val (pe_h H_is_defined_alike (by exact hr.mono (by decide)) (by rfl) (pa_cons (pv 0) (pa_cons (pv 1) pa_nil))))) (pss_one (ps_ret (pe_hc H_Difference (by exact hr.mono (by decide)) (by rfl) (pa_cons (pe_fld (pv 0) rfl) (pa_cons (pe_gi (by rfl) T.i_DEFINED) (pa_cons (pe_lst pa_nil) pa_nil)))))) pss_nil) (pss_cons (ps_set (i := 2) sc_compare_records.nd rfl (Or.inl rfl) (pe_h H_changed_names (by exact hr.mono (by decide)) (by rfl) (pa_cons (pe_fld (pv 0) rfl) (pa_cons (pe_fld (pv 1) rfl) pa_nil)))) (pss_cons (ps_if (pt_cmpR op_gt (pe_callB call_len_seq (by rfl) T.b_len PySem.boot_len (pa_cons (pv 2) pa_nil)) pe_int (nomark _)) (pss_one (ps_ret (pe_hc H_Difference (by exact hr.mono (by decide)) (by rfl) (pa_cons (pe_fld (pv 0) rfl) (pa_cons (pe_gi (by rfl) T.i_INPUT) (pa_cons (pv 2) pa_nil)))))) pss_nil) (pss_cons (ps_if (pt_cmpR op_ne (pe_fld (pv 0) rfl) (pe_fld (pv 1) rfl) (nomark _)) (pss_one (ps_ret (pe_hc H_Difference (by exact hr.mono (by decide)) (by rfl) (pa_cons (pe_fld (pv 0) rfl) (pa_cons (pe_gi (by rfl) T.i_EXIT) (pa_cons (pe_lst pa_nil) pa_nil)))))) pss_nil) (pss_cons (ps_set (i := 3) sc_compare_records.nd rfl (Or.inl rfl) (pe_h H_changed_names (by exact hr.mono (by decide)) (by rfl) (pa_cons (pe_fld (pv 0) rfl) (pa_cons (pe_fld (pv 1) rfl) pa_nil)))) (pss_cons (ps_if (pt_cmpR op_gt (pe_callB call_len_seq (by rfl) T.b_len PySem.boot_len (pa_cons (pv 3) pa_nil)) pe_int (nomark _)) (pss_one (ps_ret (pe_hc H_Difference (by exact hr.mono (by decide)) (by rfl) (pa_cons (pe_fld (pv 0) rfl) (pa_cons (pe_gi (by rfl) T.i_OUTPUT) (pa_cons (pv 3) pa_nil)))))) pss_nil) (pss_one (ps_ret pe_non)))))))), ?_⟩)
  obtain ⟨_, ⟨x, y, r, o, rfl, hR, hO, hz, hz2, rfl⟩, k⟩ := h
  refine q_when (b := !Vabldo.alike r o) (et_not (et_B (ev_callR (ea_cons (ev_var rfl) (ea_cons (ev_var rfl) ea_nil)) fun H1 e1 => ⟨x, y, r, o, rfl, mono_rec _ _ _ _ e1 hR, mono_rec _ _ _ _ e1 hO, hz, hz2, rfl⟩))) (fun hb H1 e1 => ?_) (fun hb H1 e1 => ?_)
  · have c : Vabldo.alike r o = false := by simpa using hb
    obtain ⟨s, hs, hsn⟩ := rname T (mono_rec _ _ _ _ e1 hR)
    refine s_retP (ep_diff (d := ⟨r.name, 3, []⟩) (ev_tx (hsn (ev_var rfl)) hs) ev_c (ep_nilN e1)) fun v H2 e2 hv => k v H2 (e1.trans e2) ?_
    show OptAt (DifN K H) (dfRec r o) v H2
    unfold dfRec
    rw [if_pos c]
    exact hv
  · have c : Vabldo.alike r o = true := by simpa using hb
    have c' : ¬ Vabldo.alike r o = false := by rw [c]; decide
    obtain ⟨li, lo⟩ := alike_len c
    have hRt := hR
    obtain ⟨p, dx, nm, tl, a1, a2, a3, xs1, xs2, xs3, rfl, hX⟩ := hR
    obtain ⟨p', dx', nm', tl', b1, b2, b3, ys1, ys2, ys3, rfl, hY⟩ := hO
    unfold rcN at hz hz2
    have hX := hX.mono e1 e1
    have hY := hY.mono e1 e1
    refine q_asgP (ep_chgd (ev_fld (ev_var rfl) hX.o T.c_Record T.n_Record_inputs rfl) hX.l2 hX.i (ev_fld (ev_var rfl) hY.o T.c_Record T.n_Record_inputs rfl) hY.l2 hY.i (by omega) li e1) fun v H2 e2 hv => ?_
    obtain ⟨q, zs, rfl, hq0, hq, hA⟩ := hv
    have hX := hX.mono e2 e2
    have hY := hY.mono e2 e2
    refine q_when (b := !(Vabldo.others r.ins o.ins).isEmpty) (et_eq (et_test (ev_gt (ev_lenLs (ev_var rfl) hq) ev_c)) (len_pos _ _ hA.len.symm)) (fun hb2 H3 e3 => ?_) (fun hb2 H3 e3 => ?_)
    · have d : (Vabldo.others r.ins o.ins).isEmpty = false := by simpa using hb2
      have hX := hX.mono e3 e3
      refine s_retP (ep_diff (d := ⟨r.name, 4, Vabldo.others r.ins o.ins⟩) (ev_tx (ev_fld (ev_var rfl) hX.o T.c_Record T.n_Record_name rfl) hX.nm) ev_c (ev_tsN (ev_var rfl) hq0 (e3 _ _ hq) (hA.mono mono_tx e3))) fun v H4 e4 hv => k v H4 ((e1.trans e2).trans (e3.trans e4)) ?_
      show OptAt (DifN K H) (dfRec r o) v H4
      unfold dfRec
      rw [if_neg c', if_pos d]
      exact hv
    · have d' : ¬ (Vabldo.others r.ins o.ins).isEmpty = false := by
        intro z
        rw [z] at hb2
        cases hb2
      have hX := hX.mono e3 e3
      have hY := hY.mono e3 e3
      refine q_when (b := r.exit != o.exit) (et_test (ev_neN (ev_fld (ev_var rfl) hX.o T.c_Record T.n_Record_status rfl) (ev_fld (ev_var rfl) hY.o T.c_Record T.n_Record_status rfl))) (fun hb3 H4 e4 => ?_) (fun hb3 H4 e4 => ?_)
      · have hX := hX.mono e4 e4
        refine s_retP (ep_diff (d := ⟨r.name, 6, []⟩) (ev_tx (ev_fld (ev_var rfl) hX.o T.c_Record T.n_Record_name rfl) hX.nm) ev_c (ep_nilN ((e1.trans e2).trans (e3.trans e4)))) fun v H5 e5 hv => k v H5 ((e1.trans e2).trans (e3.trans (e4.trans e5))) ?_
        show OptAt (DifN K H) (dfRec r o) v H5
        unfold dfRec
        rw [if_neg c', if_neg d', if_pos (bne_iff_ne.mp hb3)]
        exact hv
      · have e' : ¬ r.exit ≠ o.exit := fun z => by
          rw [bne_iff_ne.mpr z] at hb3
          cases hb3
        have hX := hX.mono e4 e4
        have hY := hY.mono e4 e4
        refine q_asgP (ep_chgd (ev_fld (ev_var rfl) hX.o T.c_Record T.n_Record_outputs rfl) hX.l3 hX.ou (ev_fld (ev_var rfl) hY.o T.c_Record T.n_Record_outputs rfl) hY.l3 hY.ou (by omega) lo ((e1.trans e2).trans (e3.trans e4))) fun v H5 e5 hv => ?_
        obtain ⟨q2, zs2, rfl, hq20, hq2, hA2⟩ := hv
        refine q_when (b := !(Vabldo.others r.outs o.outs).isEmpty) (et_eq (et_test (ev_gt (ev_lenLs (ev_var rfl) hq2) ev_c)) (len_pos _ _ hA2.len.symm)) (fun hb4 H6 e6 => ?_) (fun hb4 H6 e6 => ?_)
        · have d : (Vabldo.others r.outs o.outs).isEmpty = false := by simpa using hb4
          have hX := hX.mono (e5.trans e6) (e5.trans e6)
          refine s_retP (ep_diff (d := ⟨r.name, 5, Vabldo.others r.outs o.outs⟩) (ev_tx (ev_fld (ev_var rfl) hX.o T.c_Record T.n_Record_name rfl) hX.nm) ev_c (ev_tsN (ev_var rfl) hq20 (e6 _ _ hq2) (hA2.mono mono_tx e6))) fun v H7 e7 hv => k v H7 ((e1.trans e2).trans ((e3.trans e4).trans (e5.trans (e6.trans e7)))) ?_
          show OptAt (DifN K H) (dfRec r o) v H7
          unfold dfRec
          rw [if_neg c', if_neg d', if_neg e', if_pos d]
          exact hv
        · have f' : ¬ (Vabldo.others r.outs o.outs).isEmpty = false := by
            intro z
            rw [z] at hb4
            cases hb4
          refine s_ret ev_c fun H7 e7 => k _ H7 ((e1.trans e2).trans ((e3.trans e4).trans (e5.trans (e6.trans e7)))) ?_
          show OptAt (DifN K H) (dfRec r o) _ H7
          unfold dfRec
          rw [if_neg c', if_neg d', if_neg e', if_neg f']
          rfl
theorem opt_isN {A : α → V → Hp → Prop} {o : Option α} (hA : ∀ a v H, A a v H → v ≠ .non) (h : OptAt A o v H) : decide (v = .non) = o.isNone := by
  cases o with
  | none =>
    have e : v = .non := h
    rw [e]
    rfl
  | some a =>
    exact decide_eq_false (hA a v H h)
theorem difN_back {o : Option Df} {H0 H1 : Hp} {v : V} (e : Ex H0 H1) (h : OptAt (DifN K H1) o v H) : OptAt (DifN K H0) o v H := by
  cases o with
  | none => exact h
  | some d =>
    obtain ⟨x, dx, nm, ch, ys, h1, h2, h3, h4, h5, h6⟩ := h
    exact ⟨x, dx, nm, ch, ys, h1, h2, h3, h4, h5, fresh_back e h6⟩
theorem dif_ref {d : Df} {v : V} {H : Hp} (h : DifAt K d v H) : v ≠ .non := by
  obtain ⟨x, dx, nm, ch, ys, rfl, _⟩ := h
  intro z
  cases z
theorem ev_isNv (h : Ev ta σ H v) : Ev (tOp (fun x y H Q => y = .non ∧ Q (.bl (decide (x = .non))) H) ta (tC .non)) σ H (.bl (decide (v = .non))) := ep_isN (P := fun x _ => x = v) (fun H1 e Q q => h H1 e Q fun H2 e2 => q v H2 e2 rfl) fun x H1 hx => by rw [hx]
theorem sc_compare_with_second : FnScope ["record", "second", "other"] ["record", "second"] (defScope s_compare_with_second) := ⟨rfl, rfl, rfl, by decide +kernel, rfl, by decide +kernel, by decide +kernel⟩
theorem ok_compare_with_second (T : Txt w K mg) (H_find_record : Has P0 w K mg base "find_record" 1 ["records", "name"] (sp_find_record K)) (H_Difference : HasC P0 w K mg base "Difference" 1 ["self", "name", "way", "changed"] (sp_Difference K) ["name", "way", "changed"]) (H_compare_records : Has P0 w K mg base "compare_records" 3 ["record", "other"] (sp_compare_records K)) : Has P0 w K mg base "compare_with_second" 4 ["record", "second"] (sp_compare_with_second K) := by
  refine has_of T.f_compare_with_second T.g_compare_with_second sc_compare_with_second (fun _ _ _ _ _ _ us hl => match us, hl with | [_, _], _ => rfl) (fun vs H Q E h => by obtain ⟨_, ⟨x, b, ys, r, bs, rfl, hR, hy, hB, hz, hz2, rfl⟩, _⟩ := h; rfl) (fun cdv A outer s H vs Q E hr h => ⟨_, PSs.nox (pss_cons (ps_set (i := 2) sc_compare_with_second.nd rfl (Or.inl rfl) (pe_h H_find_record (by exact hr.mono (by decide)) (by rfl) (pa_cons (pv 1) (pa_cons (pe_fld (pv 0) rfl) pa_nil)))) (pss_cons (ps_if (pt_cmpR op_isN (pv 2) pe_non (nomark _)) (pss_one (ps_ret (pe_hc H_Difference (by exact hr.mono (by decide)) (by rfl) (pa_cons (pe_fld (pv 0) rfl) (pa_cons (pe_gi (by rfl) T.i_ONLY_FIRST) (pa_cons (pe_lst pa_nil) pa_nil)))))) pss_nil) (pss_one (ps_ret (pe_h H_compare_records (by exact hr.mono (by decide)) (by rfl) (pa_cons (pv 0) (pa_cons (pv 2) pa_nil))))))), ?_⟩)
  obtain ⟨_, ⟨x, b, ys, r, bs, rfl, hR, hy, hB, hz, hz2, rfl⟩, k⟩ := h
  obtain ⟨s, hs, hsn⟩ := rname T hR
  refine q_asgP (ep_call (ea_cons (ev_var rfl) (ea_cons (hsn (ev_var rfl)) ea_nil)) fun H1 e1 => ⟨b, ys, bs, s, r.name, rfl, e1 _ _ hy, hB.mono mono_rec e1, hs.mono e1, rfl⟩) fun v H1 e1 hv => ?_
  refine q_when (b := (recIn bs r.name).isNone) (et_eq (et_test (ev_isNv (ev_var rfl))) (opt_isN (fun a v H h => rec_ref h) hv)) (fun hb H2 e2 => ?_) (fun hb H2 e2 => ?_)
  · have e0 : recIn bs r.name = none := Option.isNone_iff_eq_none.mp hb
    obtain ⟨s, hs, hsn⟩ := rname T (mono_rec _ _ _ _ (e1.trans e2) hR)
    refine s_retP (ep_diff (d := ⟨r.name, 1, []⟩) (ev_tx (hsn (ev_var rfl)) hs) ev_c (ep_nilN (e1.trans e2))) fun v H3 e3 hv => k v H3 ((e1.trans e2).trans e3) ?_
    show OptAt (DifN K H) (dfWith bs r) v H3
    unfold dfWith
    rw [e0]
    exact hv
  · cases e0 : recIn bs r.name with
    | none =>
      rw [e0] at hb
      cases hb
    | some o =>
      rw [e0] at hv
      have hO : RecAt K o v H1 := hv
      refine s_retP (ep_callW (ea_cons (ev_var rfl) (ea_cons (ev_var rfl) ea_nil)) fun H3 e3 => ⟨_, ⟨x, v, r, o, rfl, mono_rec _ _ _ _ ((e1.trans e2).trans e3) hR, mono_rec _ _ _ _ (e2.trans e3) hO, hz, hz2 o (rec_name e0).1, rfl⟩, fun v' H4 _ hv' => difN_back ((e1.trans e2).trans e3) hv'⟩) fun v' H3 e3 hv' => k v' H3 ((e1.trans e2).trans e3) ?_
      show OptAt (DifN K H) (dfWith bs r) v' H3
      unfold dfWith
      rw [e0]
      exact hv'
end
end Bl

-- part W24
set_option Elab.async false
set_option linter.all false
set_option maxRecDepth 100000
set_option maxHeartbeats 4000000
namespace Bl
open PySem PySem.Spec PyProof.Rows L2 Evl
/-! ### comprehensions that give objects with lists of their own -/
section
variable {α : Type} {w : World} {K : PySem.W.Frag} {mg : Str → Option Value} {base : Heap} {σ : L2.St} {H H' : Hp} {ta tb tc te tl td ty : TE} {v y z : V} {D : Ends} {tu tz : TS}
/-- an expression that gives a new list of such things, none of them hanging on the list -/
def EvM (te : TE) (σ : L2.St) (H : Hp) (l : List α) (B : α → V → Hp → Prop) : Prop := ∀ H0, Ex H H0 → ∀ Q : VK, (∀ q ys H2, H0 q = none → Ex H0 H2 → H2 q = some (.lst ys) → All2 (fun a v => B a v (minus H2 [q])) l ys → Q (.ref q) H2) → te σ H0 Q
theorem em_comp2 {j : Nat} {vs : List Nat} {l : List α} {A : α → V → Hp → Prop} {wi : TI} {t : TT} (p : α → Bool) (B : α → V → Hp → Prop) (m : Mono B) (hi : ItA [] wi σ H l A) (hz : l.length ≤ 40000) (hw : ∀ x, wipe ((wipe σ vs).set j (some x)) vs = wipe σ vs)
    (ht : ∀ b x H1, b ∈ l → Ex H H1 → A b x H1 → EvT t ((wipe σ vs).set j (some x)) H1 (p b)) (he : ∀ b x H1 Dl xs, b ∈ l → Ex H H1 → A b x H1 → p b = true → H Dl = none → H1 Dl = some (.lst xs) → EvP te ((wipe σ vs).set j (some x)) H1 (fun v H2 => B b v (minus H2 [Dl]))) :
    EvM (tLc wi (gName j) t te vs) σ H (l.filter p) B := fun H0 e0 Q q => hi H0 e0 _ fun J H1 e1 w => by
  intro Dl hD
  refine lc_it w (fun i H' => H1 Dl = none ∧ Ex H1 H' ∧ ∃ ys, H' Dl = some (.lst ys) ∧ All2 (fun a v => B a v (minus H' [Dl])) ((l.take i).filter p) ys) ⟨hD, Ex.new hD, [], upd_same, by rw [List.take_zero]; exact .nil⟩ (fun i H' _ h => by rw [minus_nil]; exact h.2.1) (fun i x H2 H' hlt h y => ?_) (fun H' h => by
    obtain ⟨h1, h2, ys, h3, h4⟩ := h
    rw [List.take_length] at h4
    exact q Dl ys H' (fresh_back e1 h1) (e1.trans h2) h3 h4)
  obtain ⟨eH, b, hb, hA⟩ := y
  subst eH
  obtain ⟨h1, h2, ys, h3, h4⟩ := h
  have hm : b ∈ l := List.mem_of_getElem? hb
  refine ⟨hw x, ht b x H' hm ((e0.trans e1).trans h2) hA H' (Ex.refl H') _ fun H3 e3 => ?_⟩
  rw [take_succ_of hb, List.filter_append]
  cases hp : p b with
  | true =>
    show te _ H3 _
    refine he b x H' Dl ys hm ((e0.trans e1).trans h2) hA hp (fresh_back (e0.trans e1) h1) h3 H3 e3 _ fun z H4 e4 pz => ⟨ys, (e3.trans e4) _ _ h3, ?_, h1, Ex.mut ((h2.trans e3).trans e4) h1, ys ++ [z], upd_same, ?_⟩
    · refine sz_lt ?_
      have := h4.len
      have h5 := List.length_filter_le p (l.take i)
      rw [List.length_take] at h5
      omega
    · rw [List.filter_cons, if_pos hp, minus_upd (by simp)]
      exact (h4.mono m (Ex.minus (e3.trans e4))).app (.one pz)
  | false =>
    show H1 Dl = none ∧ _
    refine ⟨h1, h2.trans e3, ys, e3 _ _ h3, ?_⟩
    rw [List.filter_cons, if_neg (by rw [hp]; exact Bool.false_ne_true), List.filter_nil, List.append_nil]
    exact h4.mono m (Ex.minus e3)
theorem q_asgM {i : Nat} {l : List α} {B : α → V → Hp → Prop} (h : EvM te σ H l B) (k : ∀ q ys H1, H q = none → Ex H H1 → H1 q = some (.lst ys) → All2 (fun a v => B a v (minus H1 [q])) l ys → tz D (σ.set i (some (.ref q))) H1) : tSeq (tAsg te (gName i)) tz D σ H := h H (Ex.refl H) _ k
theorem difN_minus {d : Df} {H1 H2 : Hp} {v : V} {q : Addr} {xs : List V} (h : DifN K H1 d v H2) (h1 : ∃ o, H1 q = some o) (h2 : H2 q = some (.lst xs)) : DifAt K d v (minus H2 [q]) := by
  obtain ⟨x, dx, nm, ch, ys, e, hx, hn, hc, hy, h0⟩ := h
  obtain ⟨o, h1⟩ := h1
  have nc : ch ≠ q := fun z => by
    rw [z, h1] at h0
    cases h0
  exact ⟨x, dx, nm, ch, ys, e, minus_get hx (by rw [List.mem_singleton]; exact ne_of hx h2 (by intro z; cases z)), minus_get hn (by rw [List.mem_singleton]; exact ne_of hn h2 (by intro z; cases z)), minus_get hc (by rw [List.mem_singleton]; exact nc), hy.imp fun _ _ h => tx_minus h h2⟩
theorem ev_notNv (h : Ev ta σ H v) : Ev (tOp (fun x y H Q => y = .non ∧ Q (.bl (!decide (x = .non))) H) ta (tC .non)) σ H (.bl (!decide (v = .non))) := fun H1 e Q q => h H1 e _ fun H2 e2 => ⟨rfl, q H2 e2⟩
theorem opts_all {A : α → V → Hp → Prop} {G : Hp} : ∀ {l : List (Option α)} {ys : List V}, All2 (fun o v => OptAt A o v G) (l.filter fun o => o.isSome) ys → All2 (fun a v => A a v G) (l.filterMap id) ys
  | [], ys, h => by
    cases h
    exact .nil
  | none :: l, ys, h => opts_all (l := l) h
  | some a :: l, ys, h => by
    have h' : All2 (fun o v => OptAt A o v G) (some a :: l.filter fun o => o.isSome) ys := h
    cases h' with
    | cons h1 h2 => exact .cons h1 (opts_all h2)
theorem sc_find_differences : FnScope ["first", "second", "compared", "found", "record", "difference"] ["first", "second"] (defScope s_find_differences) := ⟨rfl, rfl, rfl, by decide +kernel, rfl, by decide +kernel, by decide +kernel⟩
theorem ok_find_differences (T : Txt w K mg) (H_compare_with_second : Has P0 w K mg base "compare_with_second" 4 ["record", "second"] (sp_compare_with_second K)) (H_find_record : Has P0 w K mg base "find_record" 1 ["records", "name"] (sp_find_record K)) (H_Difference : HasC P0 w K mg base "Difference" 1 ["self", "name", "way", "changed"] (sp_Difference K) ["name", "way", "changed"]) : Has P0 w K mg base "find_differences" 5 ["first", "second"] (sp_find_differences K) := by
  refine has_of T.f_find_differences T.g_find_differences sc_find_differences (fun _ _ _ _ _ _ us hl => match us, hl with | [_, _], _ => rfl) (fun vs H Q E h => by obtain ⟨_, ⟨a, b, xs, ys, as, bs, rfl, hx, hA, hy, hB, hza, hzb, hzr, hzo, rfl⟩, _⟩ := h; rfl) (fun cdv A outer s H vs Q E hr h => ⟨_, PSs.nox (pss_cons (ps_setLc (i := 2) (own := [("record", 4)]) (g := gName 4) (te := (tCall _ [] E0 (tCons (tVar 4) (tCons (tVar 1) tNil)))) rfl sc_find_differences.nd rfl rfl (sw_true rfl rfl rfl (by decide +kernel)) (pi_list (pv 0)) (blkOk_by (own := [("record", 4)]) (N := ["first", "second", "compared", "found", "record", "difference"]) (sc := defScope s_find_differences) (by decide +kernel)) (fun _ _ _ _ _ => pg_name (i := 4) sc_find_differences.nd rfl (Or.inl rfl)) (fun _ _ _ _ _ => pts_nil) (fun _ _ _ _ _ => (pe_h H_compare_with_second (by exact hr.mono (by decide)) (by rfl) (pa_cons (pv 4) (pa_cons (pv 1) pa_nil))))) (pss_cons (ps_setLc (i := 3) (own := [("difference", 5)]) (g := gName 5) (te := (tVar 5)) (tt := (tTest (tOp _ (tVar 5) _))) rfl sc_find_differences.nd rfl rfl (sw_true rfl rfl rfl (by decide +kernel)) (pi_list (pv 2)) (blkOk_by (own := [("difference", 5)]) (N := ["first", "second", "compared", "found", "record", "difference"]) (sc := defScope s_find_differences) (by decide +kernel)) (fun _ _ _ _ _ => pg_name (i := 5) sc_find_differences.nd rfl (Or.inl rfl)) (fun _ _ _ _ _ => (pts_one (pt_cmpR op_notN (pv 5) pe_non (nomark _)))) (fun _ _ _ _ _ => (pv 5))) (pss_cons (ps_for PassesOwn.never rfl (pi_list (pv 1)) (pg_name (i := 4) sc_find_differences.nd rfl (Or.inl rfl)) (pss_one (ps_if (pt_cmpR op_isN (pe_h H_find_record (by exact hr.mono (by decide)) (by rfl) (pa_cons (pv 0) (pa_cons (pe_fld (pv 4) rfl) pa_nil))) pe_non (nomark _)) (pss_one (ps_expr (pe_bm PySem.F.plainAttrs_list PySem.F.slot_list_append PySem.F.type_list_append mt_append (pv 3) (pa_cons (pe_hc H_Difference (by exact hr.mono (by decide)) (by rfl) (pa_cons (pe_fld (pv 4) rfl) (pa_cons (pe_gi (by rfl) T.i_ONLY_SECOND) (pa_cons (pe_lst pa_nil) pa_nil)))) pa_nil)))) pss_nil))) (pss_one (ps_ret (pv 3)))))), ?_⟩)
  obtain ⟨_, ⟨a, b, xs, ys, as, bs, rfl, hx, hA, hy, hB, hza, hzb, hzr, hzo, rfl⟩, k⟩ := h
  refine q_asgM (em_comp2 (l := as) (A := RecAt K) (fun _ => true) (fun r v G => OptAt (DifAt K) (dfWith bs r) v G) (fun r x G G' e h => mono_opt mono_dif _ _ _ _ e h) (it_list (M := []) (ev_var rfl) hx (by rw [minus_nil]; exact hA) mono_rec (by simp)) (by omega) (fun _ => rfl) (fun r x H1 _ _ _ => et_yes) (fun r x H1 Dl zs hr e1 hR _ hD0 hD => ?_)) fun q zs H1 hq e1 h1 hZ => ?_
  · refine EvP.imp (ep_callW (Post := fun v H2 => H2 Dl = some (.lst zs) ∧ OptAt (DifN K H1) (dfWith bs r) v H2) (ea_cons (ev_var rfl) (ea_cons (ev_var rfl) ea_nil)) fun H2 e2 => ⟨_, ⟨x, b, ys, r, bs, rfl, mono_rec _ _ _ _ e2 hR, (e1.trans e2) _ _ hy, hB.mono mono_rec (e1.trans e2), hzr r hr, hzo, rfl⟩, fun v H3 e3 hv => ⟨(e2.trans e3) _ _ hD, difN_back e2 hv⟩⟩) fun v H2 e2 hv => ?_
    obtain ⟨h3, hv⟩ := hv
    cases ho : dfWith bs r with
    | none =>
      rw [ho] at hv
      exact hv
    | some d =>
      rw [ho] at hv
      exact difN_minus hv ⟨_, hD⟩ h3
  · rw [filter_yes] at hZ
    have hZ1 : All2 (fun o v => OptAt (DifAt K) o v (minus H1 [q])) (as.map (dfWith bs)) zs := all2_map hZ
    refine q_asgM (em_comp2 (l := as.map (dfWith bs)) (A := fun o x _ => OptAt (DifAt K) o x (minus H1 [q])) (fun o => o.isSome) (fun o v G => OptAt (DifAt K) o v G) (fun r x G G' e h => mono_opt mono_dif _ _ _ _ e h) (it_list (M := []) (ev_var rfl) h1 hZ1 (fun _ _ _ _ _ h => h) (by simp)) (by rw [List.length_map]; omega) (fun _ => rfl) (fun o x H2 _ e2 ho => ?_) (fun o x H2 Dl ws _ e2 ho _ hD0 hD => ?_)) fun q2 zs2 H2 hq2 e2 h2 hZ2 => ?_
    · refine et_eq (et_test (ev_notNv (ev_var rfl))) ?_
      rw [opt_isN (fun d v H h => dif_ref h) ho]
      cases o <;> rfl
    · refine EvP.imp (Ev.p (ev_var rfl)) fun v H3 e3 hv => ?_
      rw [hv]
      exact mono_opt mono_dif _ _ _ _ (ex_minus (minus_ex.trans (e2.trans e3)) fun z hz => by
        rw [List.mem_singleton.mp hz]
        cases hh : minus H1 [q] Dl with
        | none => rfl
        | some o =>
          rw [(minus_some hh).2] at hD0
          cases hD0) ho
    · have hF := opts_all hZ2
      rw [List.filterMap_map] at hF
      have hF : All2 (fun d v => DifAt K d v (minus H2 [q2])) (as.filterMap (dfWith bs)) zs2 := hF
      have e02 : Ex H H2 := e1.trans e2
      have hq20 : H q2 = none := fresh_back e1 hq2
      have hm : ∀ c ∈ [q2], H c = none := fun c hc => by rw [List.mem_singleton.mp hc]; exact hq20
      have eM : Ex H (minus H2 [q2]) := ex_minus e02 hm
      refine q_forA (l := bs) (A := RecAt K) (it_list (M := [q2]) (ev_var rfl) (e02 _ _ hy) (hB.mono mono_rec eM) mono_rec (by rw [List.mem_singleton]; exact ne_of_none hy hq20)) (fun pre σ' H' => (∃ y z, σ' = [some (.ref a), some (.ref b), some (.ref q), some (.ref q2), y, z]) ∧ ∃ zs, H' q2 = some (.lst zs) ∧ All2 (fun d v => DifAt K d v (minus H' [q2])) (as.filterMap (dfWith bs) ++ (pre.filter fun r => (recIn as r.name).isNone).map fun r => (⟨r.name, 2, []⟩ : Df)) zs) (fun H3 e3 => ⟨⟨_, _, rfl⟩, zs2, e3 _ _ h2, by rw [List.filter_nil, List.map_nil, List.append_nil]; exact hF.mono mono_dif (Ex.minus e3)⟩) (fun H3 e3 pre r post xr σ' H' hl e4 hP hR => ?_) (fun σ' H' e3 hP => ?_)
      · obtain ⟨⟨y0, z0, rfl⟩, zs3, h3, hZ3⟩ := hP
        have eH : Ex H H' := (ex_minus (e02.trans e3) hm).trans e4
        obtain ⟨s, hs, hsn⟩ := rname T hR
        have hzl : zs3.length ≤ 2000 := by
          rw [← hZ3.len, List.length_append, List.length_map]
          have l1 := List.length_filterMap_le (dfWith bs) as
          have l2 := List.length_filter_le (fun r => (recIn as r.name).isNone) pre
          have l3 : pre.length ≤ bs.length := by rw [hl, List.length_append]; omega
          omega
        refine s_when (b := (recIn as r.name).isNone) (et_test (ep_isN (ep_call (ea_cons (ev_var rfl) (ea_cons (hsn (ev_var rfl)) ea_nil)) fun H5 e5 => ⟨a, xs, as, s, r.name, rfl, (eH.trans e5) _ _ hx, hA.mono mono_rec (eH.trans e5), hs.mono e5, rfl⟩) fun v G hv => opt_isN (fun r v H h => rec_ref h) hv)) (fun hb H5 e5 => ?_) (fun hb H5 e5 => ⟨Ex.minusT e4 (Ex.m e5), ⟨_, _, rfl⟩, zs3, e5 _ _ h3, ?_⟩)
        · obtain ⟨s, hs, hsn⟩ := rname T (mono_rec _ _ _ _ e5 hR)
          refine s_appP (Post := DifN K H5 ⟨r.name, 2, []⟩) (e5 _ _ h3) (ev_var rfl) (ep_diff (d := ⟨r.name, 2, []⟩) (ev_tx (hsn (ev_var rfl)) hs) ev_c (ep_nilN (Ex.refl H5))) (by omega) fun x H6 e6 hx6 => ⟨Ex.minusT e4 (Ex.minusT (Ex.m (e5.trans e6)) (ex_mut (by simp))), ⟨_, _, rfl⟩, _, upd_same, ?_⟩
          rw [minus_upd (by simp), List.filter_append, List.map_append, ← List.append_assoc, List.filter_cons, if_pos hb]
          exact (hZ3.mono mono_dif (Ex.minus (e5.trans e6))).app (.one (difN_minus hx6 ⟨_, e5 _ _ h3⟩ ((e5.trans e6) _ _ h3)))
        · rw [List.filter_append, List.filter_cons, if_neg (by rw [hb]; exact Bool.false_ne_true), List.filter_nil, List.append_nil]
          exact hZ3.mono mono_dif (Ex.minus e5)
      · obtain ⟨⟨y0, z0, rfl⟩, zs3, h3, hZ3⟩ := hP
        refine s_ret (ev_var rfl) fun H4 e4 => k _ H4 ((eM.trans e3).trans e4) ⟨q2, zs3, rfl, hq20, e4 _ _ h3, ?_⟩
        exact hZ3.mono mono_dif (minus_ex.trans e4)
end
end Bl

-- part W25
set_option Elab.async false
set_option linter.all false
set_option maxRecDepth 100000
set_option maxHeartbeats 4000000
namespace Bl
open PySem PySem.Spec PyProof.Rows L2 Evl
/-! ### the walks of comparing.py, third part -/
def unMk (ds : List Df) (rs : List Vabldo.Record) (f : List Nat) : Option Df := match makerIn rs f with
  | none => none
  | some m => dfNamed ds m.name
def rootB (ds : List Df) (rs : List Vabldo.Record) (d : Df) : Bool := d.way != 4 || d.changed.any fun f => (unMk ds rs f).isNone
def nextB (ds : List Df) (rs : List Vabldo.Record) (d : Df) : Option Df := if d.way = 4 then (d.changed.filterMap (unMk ds rs)).head? else none
abbrev sp_difference_named (K : PySem.W.Frag) : Sp := spR fun vs H Post => ∃ (a : Addr) (xs : List V) (ds : List Df) (b : Addr) (t : List Nat), vs = [.ref a, .ref b] ∧ H a = some (.lst xs) ∧ All2 (fun d v => DifAt K d v H) ds xs ∧ Tx H b t ∧ Post = OptAt (InL ds xs) (dfNamed ds t)
abbrev sp_unlike_maker (K : PySem.W.Frag) : Sp := spR fun vs H Post => ∃ (a : Addr) (xs : List V) (ds : List Df) (b : Addr) (ys : List V) (rs : List Vabldo.Record) (c : Addr) (t : List Nat), vs = [.ref a, .ref b, .ref c] ∧ H a = some (.lst xs) ∧ All2 (fun d v => DifAt K d v H) ds xs ∧ H b = some (.lst ys) ∧ All2 (fun r v => RecAt K r v H) rs ys ∧ Tx H c t ∧ (∀ r ∈ rs, rcN r ≤ 1000) ∧ Post = OptAt (InL ds xs) (unMk ds rs t)
abbrev sp_is_root (K : PySem.W.Frag) : Sp := spR fun vs H Post => ∃ (v : V) (d : Df) (a : Addr) (xs : List V) (ds : List Df) (b : Addr) (ys : List V) (rs : List Vabldo.Record), vs = [v, .ref a, .ref b] ∧ DifAt K d v H ∧ H a = some (.lst xs) ∧ All2 (fun d v => DifAt K d v H) ds xs ∧ H b = some (.lst ys) ∧ All2 (fun r v => RecAt K r v H) rs ys ∧ (∀ r ∈ rs, rcN r ≤ 1000) ∧ d.changed.length ≤ 1000 ∧ Post = fun v _ => v = .bl (rootB ds rs d)
abbrev sp_root_names (K : PySem.W.Frag) : Sp := spR fun vs H Post => ∃ (a : Addr) (xs : List V) (ds : List Df) (b : Addr) (ys : List V) (rs : List Vabldo.Record), vs = [.ref a, .ref b] ∧ H a = some (.lst xs) ∧ All2 (fun d v => DifAt K d v H) ds xs ∧ H b = some (.lst ys) ∧ All2 (fun r v => RecAt K r v H) rs ys ∧ (∀ r ∈ rs, rcN r ≤ 1000) ∧ ds.length ≤ 1000 ∧ (∀ d ∈ ds, d.changed.length ≤ 1000) ∧ Post = NewT ((ds.filter (rootB ds rs)).map fun d => d.name) H
abbrev sp_next_cause (K : PySem.W.Frag) : Sp := spR fun vs H Post => ∃ (v : V) (d : Df) (a : Addr) (xs : List V) (ds : List Df) (b : Addr) (ys : List V) (rs : List Vabldo.Record), vs = [v, .ref a, .ref b] ∧ DifAt K d v H ∧ H a = some (.lst xs) ∧ All2 (fun d v => DifAt K d v H) ds xs ∧ H b = some (.lst ys) ∧ All2 (fun r v => RecAt K r v H) rs ys ∧ (∀ r ∈ rs, rcN r ≤ 1000) ∧ d.changed.length ≤ 1000 ∧ Post = OptAt (InL ds xs) (nextB ds rs d)
section
variable {α : Type} {w : World} {K : PySem.W.Frag} {mg : Str → Option Value} {base : Heap} {σ : L2.St} {H H' : Hp} {ta tb tc te tl td ty : TE} {v y z : V} {D : Ends} {tu tz : TS}
theorem dname {d : Df} (T : Txt w K mg) (h : DifAt K d v H) : ∃ s, Tx H s d.name ∧ ∀ {ta : TE} {σ : L2.St}, Ev ta σ H v → Ev (tFld K ta "name") σ H (.ref s) := by
  obtain ⟨x, dx, nm, ch, ys, rfl, hx, hn, hc, hy⟩ := h
  exact ⟨nm, hn, fun h => ev_fld h hx T.c_Difference T.n_Difference_name rfl⟩
theorem dway {d : Df} (T : Txt w K mg) (h : DifAt K d v H) (hv : Ev ta σ H v) : Ev (tFld K ta "way") σ H (.int (d.way : Int)) := by
  obtain ⟨x, dx, nm, ch, ys, rfl, hx, hn, hc, hy⟩ := h
  exact ev_fld hv hx T.c_Difference T.n_Difference_way rfl
theorem dchg {d : Df} (T : Txt w K mg) (h : DifAt K d v H) : ∃ ch ys, H ch = some (.lst ys) ∧ All2 (fun t v => IsTx t v H) d.changed ys ∧ ∀ {ta : TE} {σ : L2.St}, Ev ta σ H v → Ev (tFld K ta "changed") σ H (.ref ch) := by
  obtain ⟨x, dx, nm, ch, ys, rfl, hx, hn, hc, hy⟩ := h
  exact ⟨ch, ys, hc, hy, fun h => ev_fld h hx T.c_Difference T.n_Difference_changed rfl⟩
theorem sc_difference_named : FnScope ["differences", "name", "difference"] ["differences", "name"] (defScope s_difference_named) := ⟨rfl, rfl, rfl, by decide +kernel, rfl, by decide +kernel, by decide +kernel⟩
theorem ok_difference_named (T : Txt w K mg)  : Has P0 w K mg base "difference_named" 1 ["differences", "name"] (sp_difference_named K) := by
  refine has_of T.f_difference_named T.g_difference_named sc_difference_named (fun _ _ _ _ _ _ us hl => match us, hl with | [_, _], _ => rfl) (fun vs H Q E h => by obtain ⟨_, ⟨a, xs, ds, b, t, rfl, hx, hA, hb, rfl⟩, _⟩ := h; rfl) (fun cdv A outer s H vs Q E hr h => ⟨_, PSs.nox (pss_cons (ps_for PassesOwn.never rfl (pi_list (pv 0)) (pg_name (i := 2) sc_difference_named.nd rfl (Or.inl rfl)) (pss_one (ps_if (pt_cmpR (op_eqD (by exact hr.units)) (pe_fld (pv 2) rfl) (pv 1) (nomark _)) (pss_one (ps_ret (pv 2))) pss_nil))) (pss_one (ps_ret pe_non))), ?_⟩)
  obtain ⟨_, ⟨a, xs, ds, b, t, rfl, hx, hA, hb, rfl⟩, k⟩ := h
  refine q_forE (l := ds) (A := fun d x G => DifAt K d x G ∧ InL ds xs d x G) (it_list (M := []) (ev_var rfl) hx (by rw [minus_nil]; exact (all2_idx hA).imp fun d v h => ⟨h.1, dif_ref h.1, h.2⟩) (fun d v G G' e h => ⟨mono_dif _ _ _ _ e h.1, h.2⟩) (by simp)) (fun pre σ' _ => (∃ y, σ' = [some (.ref a), some (.ref b), y]) ∧ ∀ d ∈ pre, decide (d.name = t) = false) (fun H1 e1 => ⟨⟨_, rfl⟩, by simp⟩) (fun H2 e2 pre d post xr σ' H' hl e3 hP hR => ?_) (fun σ' H' e1 hP => ?_)
  · obtain ⟨⟨y, rfl⟩, hn⟩ := hP
    obtain ⟨hR, hI⟩ := hR
    obtain ⟨s, hs, hsn⟩ := dname T hR
    refine s_when (b := decide (d.name = t)) (et_test (ev_eqTx (ev_tx (hsn (ev_var rfl)) hs) (ev_tx (ev_var rfl) (hb.mono (e2.trans e3))))) (fun hm H4 e4 => ?_) (fun hm H4 e4 => ⟨e3.trans e4, ⟨_, rfl⟩, ?_⟩)
    · refine s_ret (ev_var rfl) fun H5 e5 => k _ H5 ((e2.trans e3).trans (e4.trans e5)) ?_
      have e : dfNamed ds t = some d := by
        unfold dfNamed
        rw [hl]
        exact find_at (p := fun d : Df => decide (d.name = t)) hn hm
      rw [e]
      exact hI
    · intro x hx
      rcases List.mem_append.mp hx with hx | hx
      · exact hn x hx
      · rw [List.mem_singleton.mp hx]
        exact hm
  · obtain ⟨⟨y, rfl⟩, hn⟩ := hP
    refine s_ret ev_c fun H2 e2 => k _ H2 (e1.trans e2) ?_
    have e : dfNamed ds t = none := find_none hn
    rw [e]
    rfl
theorem sc_unlike_maker : FnScope ["differences", "first", "file_name", "maker"] ["differences", "first", "file_name"] (defScope s_unlike_maker) := ⟨rfl, rfl, rfl, by decide +kernel, rfl, by decide +kernel, by decide +kernel⟩
theorem ok_unlike_maker (T : Txt w K mg) (H_find_maker : Has P0 w K mg base "find_maker" 1 ["records", "name"] (sp_find_maker K)) (H_difference_named : Has P0 w K mg base "difference_named" 1 ["differences", "name"] (sp_difference_named K)) : Has P0 w K mg base "unlike_maker" 2 ["differences", "first", "file_name"] (sp_unlike_maker K) := by
  refine has_of T.f_unlike_maker T.g_unlike_maker sc_unlike_maker (fun _ _ _ _ _ _ us hl => match us, hl with | [_, _, _], _ => rfl) (fun vs H Q E h => by obtain ⟨_, ⟨a, xs, ds, b, ys, rs, c, t, rfl, hx, hA, hy, hB, hc, hz, rfl⟩, _⟩ := h; rfl) (fun cdv A outer s H vs Q E hr h => ⟨_, PSs.nox (pss_cons (ps_set (i := 3) sc_unlike_maker.nd rfl (Or.inl rfl) (pe_h H_find_maker (by exact hr.mono (by decide)) (by rfl) (pa_cons (pv 1) (pa_cons (pv 2) pa_nil)))) (pss_cons (ps_if (pt_cmpR op_isN (pv 3) pe_non (nomark _)) (pss_one (ps_ret pe_non)) pss_nil) (pss_one (ps_ret (pe_h H_difference_named (by exact hr.mono (by decide)) (by rfl) (pa_cons (pv 0) (pa_cons (pe_fld (pv 3) rfl) pa_nil))))))), ?_⟩)
  obtain ⟨_, ⟨a, xs, ds, b, ys, rs, c, t, rfl, hx, hA, hy, hB, hc, hz, rfl⟩, k⟩ := h
  refine q_asgP (ep_call (ea_cons (ev_var rfl) (ea_cons (ev_var rfl) ea_nil)) fun H1 e1 => ⟨b, ys, rs, c, t, rfl, e1 _ _ hy, hB.mono mono_rec e1, hc.mono e1, hz, rfl⟩) fun v H1 e1 hv => ?_
  refine q_when (b := (makerIn rs t).isNone) (et_eq (et_test (ev_isNv (ev_var rfl))) (opt_isN (fun a v H h => rec_ref h.1) hv)) (fun hb H2 e2 => ?_) (fun hb H2 e2 => ?_)
  · refine s_ret ev_c fun H3 e3 => k _ H3 ((e1.trans e2).trans e3) ?_
    unfold unMk
    rw [Option.isNone_iff_eq_none.mp hb]
    rfl
  · cases e0 : makerIn rs t with
    | none =>
      rw [e0] at hb
      cases hb
    | some m =>
      rw [e0] at hv
      have hm : RecAt K m v H1 := hv.1
      obtain ⟨s, hs, hsn⟩ := rname T (mono_rec _ _ _ _ e2 hm)
      refine s_retP (ep_call (ea_cons (ev_var rfl) (ea_cons (hsn (ev_var rfl)) ea_nil)) fun H3 e3 => ⟨a, xs, ds, s, m.name, rfl, ((e1.trans e2).trans e3) _ _ hx, hA.mono mono_dif ((e1.trans e2).trans e3), hs.mono e3, rfl⟩) fun v' H3 e3 hv' => k v' H3 ((e1.trans e2).trans e3) ?_
      unfold unMk
      rw [e0]
      exact hv'
theorem in_isN {o : Option Df} {ds : List Df} {xs : List V} (h : OptAt (InL ds xs) o v H) : decide (v = .non) = o.isNone := opt_isN (fun _ _ _ h => h.1) h
theorem sc_is_root : FnScope ["difference", "differences", "first", "name"] ["difference", "differences", "first"] (defScope s_is_root) := ⟨rfl, rfl, rfl, by decide +kernel, rfl, by decide +kernel, by decide +kernel⟩
theorem ok_is_root (T : Txt w K mg) (H_unlike_maker : Has P0 w K mg base "unlike_maker" 2 ["differences", "first", "file_name"] (sp_unlike_maker K)) : Has P0 w K mg base "is_root" 3 ["difference", "differences", "first"] (sp_is_root K) := by
  refine has_of T.f_is_root T.g_is_root sc_is_root (fun _ _ _ _ _ _ us hl => match us, hl with | [_, _, _], _ => rfl) (fun vs H Q E h => by obtain ⟨_, ⟨v, d, a, xs, ds, b, ys, rs, rfl, hd, hx, hA, hy, hB, hz, hz2, rfl⟩, _⟩ := h; rfl) (fun cdv A outer s H vs Q E hr h => ⟨_, PSs.nox (pss_cons (ps_if (pt_cmpR op_ne (pe_fld (pv 0) rfl) (pe_gi (by rfl) T.i_INPUT) (nomark _)) (pss_one (ps_ret pe_bl)) pss_nil) (pss_one (ps_ret (pe_callB (cr_any rfl) (by rfl) T.b_any (by decide +kernel) (pa_cons (pe_lc (own := [("name", 3)]) (g := gName 3) (te := (tOp _ (tCall _ [] E0 (tCons (tVar 1) (tCons (tVar 2) (tCons (tVar 3) tNil)))) _)) rfl sc_is_root.nd (pi_list (pe_fld (pv 0) rfl)) (blkOk_by (own := [("name", 3)]) (N := ["difference", "differences", "first", "name"]) (sc := defScope s_is_root) (by decide +kernel)) (fun _ _ _ _ _ => pg_name (i := 3) sc_is_root.nd rfl (Or.inl rfl)) (fun _ _ _ _ _ => pts_nil) (fun _ _ _ _ _ => (pe_cmpR op_isN (pe_h H_unlike_maker (by exact hr.mono (by decide)) (by rfl) (pa_cons (pv 1) (pa_cons (pv 2) (pa_cons (pv 3) pa_nil)))) pe_non (nomark _)))) pa_nil))))), ?_⟩)
  obtain ⟨_, ⟨v, d, a, xs, ds, b, ys, rs, rfl, hd, hx, hA, hy, hB, hz, hz2, rfl⟩, k⟩ := h
  refine q_when (b := d.way != 4) (et_test (ev_neN (m := 4) (dway T hd (ev_var rfl)) ev_c)) (fun hb H1 e1 => ?_) (fun hb H1 e1 => ?_)
  · refine s_ret ev_c fun H2 e2 => k _ H2 (e1.trans e2) ?_
    unfold rootB
    rw [hb]
    rfl
  · obtain ⟨ch, zs, hc, hC, hcn⟩ := dchg T (mono_dif _ _ _ _ e1 hd)
    refine s_ret (v := .bl (rootB ds rs d)) (ev_isS (ev_any (bs := d.changed.map fun f => (unMk ds rs f).isNone) ?_) ?_) fun H2 e2 => k _ H2 (e1.trans e2) rfl
    · rw [List.map_map]
      refine el_map (l := d.changed) (A := fun t v H => IsTx t v H) (V.bl ∘ fun f => (unMk ds rs f).isNone) (it_list (M := []) (hcn (ev_var rfl)) hc (by rw [minus_nil]; exact hC) mono_tx (by simp)) (by omega) (fun _ => rfl) fun t x H3 _ e3 ht => ?_
      obtain ⟨s, rfl, hs⟩ := ht
      exact ep_isN (ep_call (ea_cons (ev_var rfl) (ea_cons (ev_var rfl) (ea_cons (ev_var rfl) ea_nil))) fun H4 e4 => ⟨a, xs, ds, b, ys, rs, s, t, rfl, ((e1.trans e3).trans e4) _ _ hx, hA.mono mono_dif ((e1.trans e3).trans e4), ((e1.trans e3).trans e4) _ _ hy, hB.mono mono_rec ((e1.trans e3).trans e4), hs.mono e4, hz, rfl⟩) fun v H4 h => in_isN h
    · rw [any_id]
      unfold rootB
      rw [hb]
      rfl
theorem sc_root_names : FnScope ["differences", "first", "difference"] ["differences", "first"] (defScope s_root_names) := ⟨rfl, rfl, rfl, by decide +kernel, rfl, by decide +kernel, by decide +kernel⟩
theorem ok_root_names (T : Txt w K mg) (H_is_root : Has P0 w K mg base "is_root" 3 ["difference", "differences", "first"] (sp_is_root K)) : Has P0 w K mg base "root_names" 4 ["differences", "first"] (sp_root_names K) := by
  refine has_of T.f_root_names T.g_root_names sc_root_names (fun _ _ _ _ _ _ us hl => match us, hl with | [_, _], _ => rfl) (fun vs H Q E h => by obtain ⟨_, ⟨a, xs, ds, b, ys, rs, rfl, hx, hA, hy, hB, hz, hz2, hz3, rfl⟩, _⟩ := h; rfl) (fun cdv A outer s H vs Q E hr h => ⟨_, PSs.nox (pss_one (ps_ret (pe_lc (own := [("difference", 2)]) (g := gName 2) (te := (tFld K (tVar 2) "name")) (tt := (tB (tCall _ [] E0 (tCons (tVar 2) (tCons (tVar 0) (tCons (tVar 1) tNil)))))) rfl sc_root_names.nd (pi_list (pv 0)) (blkOk_by (own := [("difference", 2)]) (N := ["differences", "first", "difference"]) (sc := defScope s_root_names) (by decide +kernel)) (fun _ _ _ _ _ => pg_name (i := 2) sc_root_names.nd rfl (Or.inl rfl)) (fun _ _ _ _ _ => (pts_one (pt_val (pe_h H_is_root (by exact hr.mono (by decide)) (by rfl) (pa_cons (pv 2) (pa_cons (pv 0) (pa_cons (pv 1) pa_nil))))))) (fun _ _ _ _ _ => (pe_fld (pv 2) rfl))))), ?_⟩)
  obtain ⟨_, ⟨a, xs, ds, b, ys, rs, rfl, hx, hA, hy, hB, hz, hz2, hz3, rfl⟩, k⟩ := h
  refine em_comp (β := Unit) (l := ds) (A := DifAt K) (rootB ds rs) (fun d x H => IsTx d.name x H) (fun u x H H' e h => h.mono e) (it_list (M := []) (ev_var rfl) hx (by rw [minus_nil]; exact hA) mono_dif (by simp)) (by omega) (fun _ => rfl) (fun t v H D xs h hD => tx_minus h hD) (fun d x H1 hd e1 hD => et_B (ev_callR (ea_cons (ev_var rfl) (ea_cons (ev_var rfl) (ea_cons (ev_var rfl) ea_nil))) fun H2 e2 => ⟨x, d, a, xs, ds, b, ys, rs, rfl, mono_dif _ _ _ _ e2 hD, (e1.trans e2) _ _ hx, hA.mono mono_dif (e1.trans e2), (e1.trans e2) _ _ hy, hB.mono mono_rec (e1.trans e2), hz, hz3 d hd, rfl⟩)) (fun d x H1 _ e1 hD _ => ?_) _ (Ex.refl _) _ fun q zs H2 hq e2 h2 hC => k _ H2 e2 ⟨q, zs, rfl, hq, h2, all2_map hC⟩
  obtain ⟨s, hs, hsn⟩ := dname T hD
  exact ev_tx (hsn (ev_var rfl)) hs
theorem fm_head {β : Type} {f : α → Option β} : ∀ {pre : List α} {b : α} {post : List α} {y : β}, (∀ x ∈ pre, f x = none) → f b = some y → ((pre ++ b :: post).filterMap f).head? = some y
  | [], b, post, y, _, h => by rw [List.nil_append, List.filterMap_cons_some h]; rfl
  | x :: pre, b, post, y, hn, h => by
    rw [List.cons_append, List.filterMap_cons_none (hn x (List.mem_cons_self ..))]
    exact fm_head (fun z hz => hn z (List.mem_cons_of_mem _ hz)) h
theorem fm_none {β : Type} {f : α → Option β} {l : List α} (h : ∀ x ∈ l, f x = none) : (l.filterMap f).head? = none := by
  rw [List.filterMap_eq_nil_iff.mpr h]
  rfl
theorem sc_next_cause : FnScope ["difference", "differences", "first", "name", "maker"] ["difference", "differences", "first"] (defScope s_next_cause) := ⟨rfl, rfl, rfl, by decide +kernel, rfl, by decide +kernel, by decide +kernel⟩
theorem ok_next_cause (T : Txt w K mg) (H_unlike_maker : Has P0 w K mg base "unlike_maker" 2 ["differences", "first", "file_name"] (sp_unlike_maker K)) : Has P0 w K mg base "next_cause" 3 ["difference", "differences", "first"] (sp_next_cause K) := by
  refine has_of T.f_next_cause T.g_next_cause sc_next_cause (fun _ _ _ _ _ _ us hl => match us, hl with | [_, _, _], _ => rfl) (fun vs H Q E h => by obtain ⟨_, ⟨v, d, a, xs, ds, b, ys, rs, rfl, hd, hx, hA, hy, hB, hz, hz2, rfl⟩, _⟩ := h; rfl) (fun cdv A outer s H vs Q E hr h => ⟨_, PSs.nox (pss_cons (ps_if (pt_cmpR op_eq (pe_fld (pv 0) rfl) (pe_gi (by rfl) T.i_INPUT) (nomark _)) (pss_one (ps_for PassesOwn.never rfl (pi_list (pe_fld (pv 0) rfl)) (pg_name (i := 3) sc_next_cause.nd rfl (Or.inl rfl)) (pss_cons (ps_set (i := 4) sc_next_cause.nd rfl (Or.inl rfl) (pe_h H_unlike_maker (by exact hr.mono (by decide)) (by rfl) (pa_cons (pv 1) (pa_cons (pv 2) (pa_cons (pv 3) pa_nil))))) (pss_one (ps_if (pt_cmpR op_notN (pv 4) pe_non (nomark _)) (pss_one (ps_ret (pv 4))) pss_nil))))) pss_nil) (pss_one (ps_ret pe_non))), ?_⟩)
  obtain ⟨_, ⟨v, d, a, xs, ds, b, ys, rs, rfl, hd, hx, hA, hy, hB, hz, hz2, rfl⟩, k⟩ := h
  refine q_when (b := d.way == 4) (et_test (ev_eqN (m := 4) (dway T hd (ev_var rfl)) ev_c)) (fun hb H1 e1 => ?_) (fun hb H1 e1 => ?_)
  · obtain ⟨ch, zs, hc, hC, hcn⟩ := dchg T (mono_dif _ _ _ _ e1 hd)
    have h4 : d.way = 4 := beq_iff_eq.mp hb
    refine s_forE (l := d.changed) (A := fun t v H => IsTx t v H) (it_list (M := []) (hcn (ev_var rfl)) hc (by rw [minus_nil]; exact hC) mono_tx (by simp)) (fun pre σ' _ => (∃ y z, σ' = [some v, some (.ref a), some (.ref b), y, z]) ∧ ∀ f ∈ pre, unMk ds rs f = none) (fun H2 e2 => ⟨⟨_, _, rfl⟩, by simp⟩) (fun H2 e2 pre t post xt σ' H' hl e3 hP ht => ?_) (fun σ' H' e2 hP => ?_)
    · obtain ⟨⟨y, z, rfl⟩, hn⟩ := hP
      obtain ⟨s, rfl, hs⟩ := ht
      have e13 : Ex H H' := e1.trans (e2.trans e3)
      refine q_asgP (ep_call (ea_cons (ev_var rfl) (ea_cons (ev_var rfl) (ea_cons (ev_var rfl) ea_nil))) fun H4 e4 => ⟨a, xs, ds, b, ys, rs, s, t, rfl, (e13.trans e4) _ _ hx, hA.mono mono_dif (e13.trans e4), (e13.trans e4) _ _ hy, hB.mono mono_rec (e13.trans e4), hs.mono e4, hz, rfl⟩) fun u H4 e4 hu => ?_
      refine s_when (b := !(unMk ds rs t).isNone) (et_eq (et_test (ev_notNv (ev_var rfl))) (by rw [in_isN hu])) (fun hb2 H5 e5 => ?_) (fun hb2 H5 e5 => ⟨e3.trans (e4.trans e5), ⟨_, _, rfl⟩, ?_⟩)
      · refine s_ret (ev_var rfl) fun H6 e6 => k _ H6 ((e13.trans e4).trans (e5.trans e6)) ?_
        cases ho : unMk ds rs t with
        | none =>
          rw [ho] at hb2
          cases hb2
        | some m =>
          rw [ho] at hu
          unfold nextB
          rw [if_pos h4, hl, fm_head hn ho]
          exact hu
      · intro f hf
        rcases List.mem_append.mp hf with hf | hf
        · exact hn f hf
        · rw [List.mem_singleton.mp hf]
          cases ho : unMk ds rs t with
          | none => rfl
          | some m =>
            rw [ho] at hb2
            cases hb2
    · obtain ⟨⟨y, z, rfl⟩, hn⟩ := hP
      show tRet (tC .non) { nx := fun x H' => Q V.non H', rt := Q } [some v, some (V.ref a), some (V.ref b), y, z] H'
      refine s_ret ev_c fun H3 e3 => k _ H3 ((e1.trans e2).trans e3) ?_
      unfold nextB
      rw [if_pos h4, fm_none hn]
      rfl
  · refine s_ret ev_c fun H3 e3 => k _ H3 (e1.trans e3) ?_
    unfold nextB
    rw [if_neg (beq_eq_false_iff_ne.mp hb)]
    rfl
end
end Bl

-- part W26
set_option Elab.async false
set_option linter.all false
set_option maxRecDepth 100000
set_option maxHeartbeats 4000000
namespace Bl
open PySem PySem.Spec PyProof.Rows L2 Evl
/-! ### the chain -/
abbrev dsOf (la lb : Vabldo.Log) : List Df := (Vabldo.unlike la lb).map (dfOf la lb)
theorem unMk_eq (la lb : Vabldo.Log) (f : List Nat) : unMk (dsOf la lb) la.records f = unMaker la lb f := un_maker la lb f
theorem next_eqB (la lb : Vabldo.Log) (d : Df) : nextB (dsOf la lb) la.records d = nextDf la lb d := by
  unfold nextB nextDf
  rw [funext (unMk_eq la lb)]
theorem root_eqB {la lb : Vabldo.Log} {n : List Nat} (h : Vabldo.way la lb n ≠ 0) : rootB (dsOf la lb) la.records (dfOf la lb n) = Vabldo.isRoot la lb n := by
  rw [root_eq h]
  unfold rootB
  rw [funext (unMk_eq la lb)]
  show (Vabldo.way la lb n != 4 || _) = _
  congr 1
  by_cases c : Vabldo.way la lb n = 4 <;> simp [c]
abbrev sp_chain_names (K : PySem.W.Frag) : Sp := spR fun vs H Post => ∃ (v : V) (a : Addr) (xs : List V) (b : Addr) (ys : List V) (la lb : Vabldo.Log) (n : List Nat), vs = [v, .ref a, .ref b] ∧ H a = some (.lst xs) ∧ All2 (fun d v => DifAt K d v H) (dsOf la lb) xs ∧ InL (dsOf la lb) xs (dfOf la lb n) v H ∧ H b = some (.lst ys) ∧ All2 (fun r v => RecAt K r v H) la.records ys ∧ (∀ r ∈ la.records, rcN r ≤ 1000) ∧ (∀ m, (chg la lb m).length ≤ 1000) ∧ Sd la.records ∧ la.records.length ≤ 32 ∧ Post = NewT (Vabldo.chain la lb 33 n) H
section
variable {α : Type} {w : World} {K : PySem.W.Frag} {mg : Str → Option Value} {base : Heap} {σ : L2.St} {H H' : Hp} {ta tb tc te tl td ty : TE} {v y z : V} {D : Ends} {tu tz : TS}
theorem s_asgP {i : Nat} {Post : V → Hp → Prop} (h : EvP te σ H Post) (k : ∀ v H1, Ex H H1 → Post v H1 → D.nx (σ.set i (some v)) H1) : tAsg te (gName i) D σ H := h H (Ex.refl H) _ k
theorem chain_len (la lb : Vabldo.Log) : ∀ (k : Nat) (n : List Nat), (Vabldo.chain la lb k n).length ≤ k + 1
  | 0, n => Nat.le_refl _
  | k + 1, n => by
    unfold Vabldo.chain
    split
    · simp
    · split
      · rename_i m _
        have := chain_len la lb k m
        rw [List.length_cons]
        omega
      · simp
theorem sc_chain_names : FnScope ["difference", "differences", "first", "names", "step"] ["difference", "differences", "first"] (defScope s_chain_names) := ⟨rfl, rfl, rfl, by decide +kernel, rfl, by decide +kernel, by decide +kernel⟩
theorem ok_chain_names (T : Txt w K mg) (H_next_cause : Has P0 w K mg base "next_cause" 3 ["difference", "differences", "first"] (sp_next_cause K)) : Has P0 w K mg base "chain_names" 4 ["difference", "differences", "first"] (sp_chain_names K) := by
  refine has_of T.f_chain_names T.g_chain_names sc_chain_names (fun _ _ _ _ _ _ us hl => match us, hl with | [_, _, _], _ => rfl) (fun vs H Q E h => by obtain ⟨_, ⟨v, a, xs, b, ys, la, lb, n, rfl, hx, hA, hI, hy, hB, hz, hz2, hS, hn, rfl⟩, _⟩ := h; rfl) (fun cdv A outer s H vs Q E hr h => ⟨_, PSs.nox (pss_cons (ps_set (i := 3) sc_chain_names.nd rfl (Or.inl rfl) (pe_lst pa_nil)) (pss_cons (ps_set (i := 4) sc_chain_names.nd rfl (Or.inl rfl) (pv 0)) (pss_cons (ps_while PassesOwn.never (pt_cmpR op_notN (pv 4) pe_non (nomark _)) (pss_cons (ps_expr (pe_bm PySem.F.plainAttrs_list PySem.F.slot_list_append PySem.F.type_list_append mt_append (pv 3) (pa_cons (pe_fld (pv 4) rfl) pa_nil))) (pss_one (ps_set (i := 4) sc_chain_names.nd rfl (Or.inl rfl) (pe_h H_next_cause (by exact hr.mono (by decide)) (by rfl) (pa_cons (pv 4) (pa_cons (pv 1) (pa_cons (pv 2) pa_nil)))))))) (pss_one (ps_ret (pv 3)))))), ?_⟩)
  obtain ⟨_, ⟨v, a, xs, b, ys, la, lb, n, rfl, hx, hA, hI, hy, hB, hz, hz2, hS, hn, rfl⟩, k⟩ := h
  refine q_asgL (el_lst ea_nil (by decide)) fun q H1 hq e1 h1 => ?_
  refine q_asg (ev_var rfl) fun H2 e2 => ?_
  have hL := chain_len la lb 33 n
  refine q_while (fun m σ' H' => ∃ (out : List (List Nat)) (zs : List V) (sv : V), σ' = [some v, some (.ref a), some (.ref b), some (.ref q), some sv] ∧ Ex H H' ∧ H' q = some (.lst zs) ∧ All2 (fun t v => IsTx t v H') out zs ∧ ((m = 0 ∧ sv = .non ∧ out = Vabldo.chain la lb 33 n) ∨ ∃ k n', m = k + 1 ∧ InL (dsOf la lb) xs (dfOf la lb n') sv H ∧ Rnk la lb k n' ∧ out ++ Vabldo.chain la lb k n' = Vabldo.chain la lb 33 n)) 34 ⟨[], [], v, rfl, e1.trans e2, e2 _ _ h1, .nil, Or.inr ⟨33, n, rfl, hI, rnk_top n (by omega), rfl⟩⟩ (fun m σ' H' hw => ?_)
  obtain ⟨out, zs, sv, rfl, e3, h3, hZ, hst⟩ := hw
  refine ⟨!decide (sv = .non), et_test (ev_notNv (ev_var rfl)), fun hb H4 e4 => ?_, fun hb H4 e4 => ?_⟩
  · rcases hst with ⟨_, rfl, _⟩ | ⟨k', n', rfl, hI', hR, hch⟩
    · simp at hb
    · have eH4 : Ex H H4 := e3.trans e4
      have hD := hI'.at_ (hA.mono mono_dif eH4)
      obtain ⟨s, hs, hsn⟩ := dname T hD
      have hol : out.length ≤ 1000 := by
        have := congrArg List.length hch
        rw [List.length_append] at this
        omega
      refine ⟨_, fun _ _ h => h, ?_⟩
      refine q_app' (e4 _ _ h3) (ev_var rfl) (hsn (ev_var rfl)) (by rw [← hZ.len]; omega) fun H5 e5 => ?_
      have eH : Ex H (upd H5 q (.lst (zs ++ [.ref s]))) := Ex.mut (eH4.trans e5) hq
      have hs6 : IsTx n' (.ref s) (upd H5 q (.lst (zs ++ [.ref s]))) := ⟨s, rfl, by
        show upd H5 q _ s = _
        rw [upd_ne (ne_of (hs.mono e5) ((e4.trans e5) _ _ h3) (by intro z; cases z))]
        exact hs.mono e5⟩
      have hZ6 : All2 (fun t v => IsTx t v (upd H5 q (.lst (zs ++ [.ref s])))) (out ++ [n']) (zs ++ [.ref s]) := by
        refine All2.app ?_ (.one hs6)
        refine (hZ.mono mono_tx (e4.trans e5)).imp fun t v h => ?_
        obtain ⟨c, rfl, hc⟩ := h
        exact ⟨c, rfl, by
          show upd H5 q _ c = _
          rw [upd_ne (ne_of hc ((e4.trans e5) _ _ h3) (by intro z; cases z))]
          exact hc⟩
      refine s_asgP (ep_call (ea_cons (ev_var rfl) (ea_cons (ev_var rfl) (ea_cons (ev_var rfl) ea_nil))) fun H6 e6 => ⟨sv, dfOf la lb n', a, xs, dsOf la lb, b, ys, la.records, rfl, hI'.at_ (hA.mono mono_dif (eH.trans e6)), (eH.trans e6) _ _ hx, hA.mono mono_dif (eH.trans e6), (eH.trans e6) _ _ hy, hB.mono mono_rec (eH.trans e6), hz, hz2 n', rfl⟩) fun u H6 e6 hu => ?_
      rw [next_eqB] at hu
      rcases chain_step hS hR with ⟨c1, c2⟩ | ⟨j, m, rfl, c1, c2, c3⟩
      · rw [c1] at hu
        have hu' : u = .non := hu
        refine ⟨0, by omega, out ++ [n'], zs ++ [.ref s], u, rfl, eH.trans e6, e6 _ _ upd_same, hZ6.mono mono_tx e6, Or.inl ⟨rfl, hu', ?_⟩⟩
        rw [← hch, c2]
      · rw [c1] at hu
        refine ⟨j + 1, by omega, out ++ [n'], zs ++ [.ref s], u, rfl, eH.trans e6, e6 _ _ upd_same, hZ6.mono mono_tx e6, Or.inr ⟨j, m, rfl, hu, c3, ?_⟩⟩
        rw [← hch, c2, List.append_assoc]
        rfl
  · rcases hst with ⟨_, rfl, ho⟩ | ⟨k', n', _, hI', _, _⟩
    · refine s_ret (ev_var rfl) fun H5 e5 => k _ H5 ((e3.trans e4).trans e5) ⟨q, zs, rfl, hq, (e4.trans e5) _ _ h3, ?_⟩
      rw [← ho]
      exact hZ.mono mono_tx (e4.trans e5)
    · have := hI'.1
      simp [this] at hb
end
end Bl

-- part W27
set_option Elab.async false
set_option linter.all false
set_option maxRecDepth 100000
set_option maxHeartbeats 4000000
namespace Bl
open PySem PySem.Spec PyProof.Rows L2 Evl
/-! ### the walks of pairs.py -/
/-- v is a new list of ints -/
def AnsI (l : List Int) (H : Hp) : V → Hp → Prop := fun v H' => ∃ p, v = .ref p ∧ H p = none ∧ H' p = some (.lst (l.map V.int))
theorem AnsI.back {l : List Int} {H0 H1 H : Hp} {v : V} (h : AnsI l H1 v H) (e : Ex H0 H1) : AnsI l H0 v H := by
  obtain ⟨q, h1, h2, h3⟩ := h
  exact ⟨q, h1, fresh_back e h2, h3⟩
def waysL : List Str := ["", "only first", "only second", "defined", "input", "output", "exit"]
theorem way_at : ∀ n, 1 ≤ n → n ≤ 6 → ∃ s : Str, ([.str "", .str "only first", .str "only second", .str "defined", .str "input", .str "output", .str "exit"] : List V)[n]? = some (.str s) ∧ ct s = Vabldo.wayText n ∧ (ct s).length ≤ 11
  | 0, h, _ => by omega
  | 1, _, _ => ⟨_, rfl, by decide, by decide⟩
  | 2, _, _ => ⟨_, rfl, by decide, by decide⟩
  | 3, _, _ => ⟨_, rfl, by decide, by decide⟩
  | 4, _, _ => ⟨_, rfl, by decide, by decide⟩
  | 5, _, _ => ⟨_, rfl, by decide, by decide⟩
  | 6, _, _ => ⟨_, rfl, by decide, by decide⟩
  | n + 7, _, h => by omega
def rowD (d : Df) : List Nat := d.name ++ (Vabldo.str ": " ++ Vabldo.wayText d.way)
def firstL : List Df → List Nat
  | [] => [0]
  | d :: _ => d.way :: d.name.length :: (d.name ++ d.changed.headD [])
structure DfOk (d : Df) : Prop where
  n : d.name.length ≤ 32
  w1 : 1 ≤ d.way
  w2 : d.way ≤ 6
  c : d.changed.length ≤ 8
  t : ∀ t ∈ d.changed, t.length ≤ 32
abbrev sp_answer_unlike (K : PySem.W.Frag) : Sp := spR fun vs H Post => ∃ (a : Addr) (xs : List V) (ds : List Df), vs = [.ref a] ∧ H a = some (.lst xs) ∧ All2 (fun d v => DifAt K d v H) ds xs ∧ ds.length ≤ 64 ∧ (∀ d ∈ ds, DfOk d) ∧ Post = AnsI (toI (ds.length :: Vabldo.lines (ds.map rowD))) H
abbrev sp_answer_first (K : PySem.W.Frag) : Sp := spR fun vs H Post => ∃ (a : Addr) (xs : List V) (ds : List Df), vs = [.ref a] ∧ H a = some (.lst xs) ∧ All2 (fun d v => DifAt K d v H) ds xs ∧ ds.length ≤ 64 ∧ (∀ d ∈ ds, DfOk d) ∧ Post = AnsI (toI (firstL ds)) H
abbrev sp_answer_steady (K : PySem.W.Frag) : Sp := spR fun vs H Post => ∃ (a : Addr) (xs : List V) (ds : List Df), vs = [.ref a] ∧ H a = some (.lst xs) ∧ All2 (fun d v => DifAt K d v H) ds xs ∧ ds.length ≤ 64 ∧ Post = AnsI [if (ds.all fun d => d.way != 5 && d.way != 6) = true then 1 else 0] H
theorem lines_le (b : Nat) : ∀ l : List (List Nat), (∀ x ∈ l, x.length ≤ b) → (Vabldo.lines l).length ≤ (b + 1) * l.length
  | [], _ => Nat.zero_le _
  | x :: l, h => by
    have e : Vabldo.lines (x :: l) = x ++ [10] ++ Vabldo.lines l := by simp [Vabldo.lines]
    have h1 := h x (List.mem_cons_self ..)
    have h2 := lines_le b l fun y hy => h y (List.mem_cons_of_mem _ hy)
    rw [e]
    simp only [List.length_append, List.length_cons, List.length_nil, Nat.mul_succ]
    omega
section
variable {α : Type} {w : World} {K : PySem.W.Frag} {mg : Str → Option Value} {base : Heap} {σ : L2.St} {H H' : Hp} {ta tb tc te tl td ty : TE} {v y z : V} {D : Ends} {tu tz : TS}
theorem ans_tv {t : List Nat} {p : Addr} (h0 : H p = none) (h : H' p = some (.lst (tv t))) : AnsI (toI t) H (.ref p) H' := ⟨p, rfl, h0, by rw [toI_tv]; exact h⟩
theorem ep_counted {ns : List (List Nat)} {H0 : Hp} {PA : V → Hp → Prop} (h : EvP ta σ H PA) (hp : ∀ v H1, PA v H1 → IsTs ns v H1) (hz : (Vabldo.lines ns).length ≤ 10000000) (h0 : Ex H0 H) : EvP (tCall (sp_counted_lines K) [] E0 (tCons ta tNil)) σ H (AnsI (toI (ns.length :: Vabldo.lines ns)) H0) := fun H1 e Q q => h H1 e _ fun v H2 e2 pv => by
  obtain ⟨a, xs, rfl, hx, hA⟩ := hp v H2 pv
  exact ⟨_, ⟨a, xs, ns, rfl, hx, hA, hz, rfl⟩, fun v H3 e3 hv => by
    obtain ⟨p, rfl, h1, h2⟩ := hv
    exact q _ H3 (e2.trans e3) (ans_tv (fresh_back ((h0.trans e).trans e2) h1) h2)⟩
theorem str_colon : Vabldo.str ": " = ct ": " := by decide
theorem sc_answer_unlike : FnScope ["differences", "rows", "difference", "way"] ["differences"] (defScope s_answer_unlike) := ⟨rfl, rfl, rfl, by decide +kernel, rfl, by decide +kernel, by decide +kernel⟩
theorem ok_answer_unlike (T : Txt w K mg) (H_codes : Has P0 w K mg base "codes" 1 ["written"] (sp_codes K)) (H_counted_lines : Has P0 w K mg base "counted_lines" 1 ["names"] (sp_counted_lines K)) : Has P0 w K mg base "answer_unlike" 2 ["differences"] (sp_answer_unlike K) := by
  refine has_of T.f_answer_unlike T.g_answer_unlike sc_answer_unlike (fun _ _ _ _ _ _ us hl => match us, hl with | [_], _ => rfl) (fun vs H Q E h => by obtain ⟨_, ⟨a, xs, ds, rfl, hx, hA, hz, hk, rfl⟩, _⟩ := h; rfl) (fun cdv A outer s H vs Q E hr h => ⟨_, PSs.nox (pss_cons (ps_set (i := 1) sc_answer_unlike.nd rfl (Or.inl rfl) (pe_lst pa_nil)) (pss_cons (ps_for PassesOwn.never rfl (pi_list (pv 0)) (pg_name (i := 2) sc_answer_unlike.nd rfl (Or.inl rfl)) (pss_cons (ps_set (i := 3) sc_answer_unlike.nd rfl (Or.inl rfl) (pe_ix ix_tup (pe_gr (by rfl) T.g_WAYS) (pe_fld (pv 2) rfl) (fun _ _ => rfl))) (pss_one (ps_expr (pe_bm PySem.F.plainAttrs_list PySem.F.slot_list_append PySem.F.type_list_append mt_append (pv 1) (pa_cons (pe_op op_catA (pe_fld (pv 2) rfl) (pe_h H_codes (by exact hr.mono (by decide)) (by rfl) (pa_cons (pe_joined (PJ.cons pe_str (PJ.cons (pe_fmt (pv 3)) PJ.nil))) pa_nil))) pa_nil)))))) (pss_one (ps_ret (pe_h H_counted_lines (by exact hr.mono (by decide)) (by rfl) (pa_cons (pv 1) pa_nil)))))), ?_⟩)
  obtain ⟨_, ⟨a, xs, ds, rfl, hx, hA, hz, hk, rfl⟩, k⟩ := h
  refine q_asgL (el_lst ea_nil (by decide)) fun p H1 hp e1 h1 => ?_
  have hm : ∀ b ∈ [p], H b = none := fun b hb => by rw [List.mem_singleton.mp hb]; exact hp
  have eM : Ex H (minus H1 [p]) := ex_minus e1 hm
  refine q_forA (l := ds) (A := DifAt K) (it_list (M := [p]) (ev_var rfl) (e1 _ _ hx) (hA.mono mono_dif eM) mono_dif (by rw [List.mem_singleton]; exact ne_of_none hx hp)) (fun pre σ' H' => (∃ y z, σ' = [some (.ref a), some (.ref p), y, z]) ∧ ∃ zs, H' p = some (.lst zs) ∧ All2 (fun t v => IsTx t v H') (pre.map rowD) zs) (fun H2 e2 => ⟨⟨_, _, rfl⟩, [], e2 _ _ h1, .nil⟩) (fun H2 e2 pre d post xr σ' H' hl e3 hP hD => ?_) (fun σ' H' e2 hP => ?_)
  · obtain ⟨⟨y0, z0, rfl⟩, zs, hpz, hZ⟩ := hP
    have hd := hk d (by rw [hl]; simp)
    obtain ⟨s, e0, e4, e5⟩ := way_at d.way hd.w1 hd.w2
    refine q_asg (ev_op ev_c (dway T hD (ev_var rfl)) (rv_ixT (T.t_WAYS _) (atI_nat e0))) fun H3 e6 => ?_
    obtain ⟨nm, hn, hnn⟩ := dname T (mono_dif _ _ _ _ e6 hD)
    have hzl : zs.length ≤ 64 := by
      rw [← hZ.len, List.length_map]
      have : pre.length ≤ ds.length := by rw [hl, List.length_append]; omega
      omega
    have hln := hd.n
    refine s_appP (Post := IsTx (rowD d)) (e6 _ _ hpz) (ev_var rfl) ?_ (by omega) fun x H4 e7 hx4 => ⟨Ex.minusT e3 (Ex.minusT (Ex.m (e6.trans e7)) (ex_mut (by simp))), ⟨_, _, rfl⟩, _, upd_same, ?_⟩
    · unfold rowD
      rw [str_colon, ← e4]
      have hc2 : (ct ": ").length = 2 := by decide
      refine ep_catTx (ev_tx (hnn (ev_var rfl)) hn) (ep_codes2 ev_c (ev_fmtS (ev_var rfl) ?_) (by omega)) (by rw [List.length_append]; omega)
      show (ct s).length ≤ _
      omega
    · have hp4 := (e6.trans e7) _ _ hpz
      have em : Ex (minus H4 [p]) (upd H4 p (.lst (zs ++ [x]))) := ex_mut (by simp)
      rw [List.map_append]
      exact ((txs_minus (hZ.mono mono_tx (e6.trans e7)) hp4).mono mono_tx em).app (.one (mono_tx _ _ _ _ em (tx_minus hx4 hp4)))
  · obtain ⟨⟨y0, z0, rfl⟩, zs, hpz, hZ⟩ := hP
    have eH : Ex H H' := eM.trans e2
    have hll : (Vabldo.lines (ds.map rowD)).length ≤ 47 * (ds.map rowD).length := lines_le 46 _ fun x hx => by
      obtain ⟨d, hd, rfl⟩ := List.mem_map.mp hx
      obtain ⟨s, e0, e4, e5⟩ := way_at d.way (hk d hd).w1 (hk d hd).w2
      have := (hk d hd).n
      unfold rowD
      rw [← e4, List.length_append, List.length_append]
      have : (Vabldo.str ": ").length = 2 := by decide
      omega
    rw [List.length_map] at hll
    refine s_retP (ep_counted (ns := ds.map rowD) (H0 := H) (PA := IsTs (ds.map rowD)) (ev_tsv (ev_var rfl) hpz hZ) (fun _ _ h => h) (by omega) eH) fun v H3 e3 hv => k v H3 (eH.trans e3) ?_
    rw [List.length_map] at hv
    exact hv
theorem sc_answer_first : FnScope ["differences", "difference", "answered"] ["differences"] (defScope s_answer_first) := ⟨rfl, rfl, rfl, by decide +kernel, rfl, by decide +kernel, by decide +kernel⟩
theorem ok_answer_first (T : Txt w K mg)  : Has P0 w K mg base "answer_first" 1 ["differences"] (sp_answer_first K) := by
  refine has_of T.f_answer_first T.g_answer_first sc_answer_first (fun _ _ _ _ _ _ us hl => match us, hl with | [_], _ => rfl) (fun vs H Q E h => by obtain ⟨_, ⟨a, xs, ds, rfl, hx, hA, hz, hk, rfl⟩, _⟩ := h; rfl) (fun cdv A outer s H vs Q E hr h => ⟨_, PSs.nox (pss_cons (ps_if (pt_cmpR op_eq (pe_callB call_len_seq (by rfl) T.b_len PySem.boot_len (pa_cons (pv 0) pa_nil)) pe_int (nomark _)) (pss_one (ps_ret (pe_lst (pa_cons pe_int pa_nil)))) pss_nil) (pss_cons (ps_set (i := 1) sc_answer_first.nd rfl (Or.inl rfl) (pe_ix ix_list (pv 0) pe_int (fun _ _ => rfl))) (pss_cons (ps_set (i := 2) sc_answer_first.nd rfl (Or.inl rfl) (pe_op op_cat (pe_lst (pa_cons (pe_fld (pv 1) rfl) (pa_cons (pe_callB call_len_seq (by rfl) T.b_len PySem.boot_len (pa_cons (pe_fld (pv 1) rfl) pa_nil)) pa_nil))) (pe_callTy call_list_of (by rfl) T.b_list (by decide +kernel) (pa_cons (pe_fld (pv 1) rfl) pa_nil)))) (pss_cons (ps_if (pt_cmpR op_gt (pe_callB call_len_seq (by rfl) T.b_len PySem.boot_len (pa_cons (pe_fld (pv 1) rfl) pa_nil)) pe_int (nomark _)) (pss_one (ps_expr (pe_bm PySem.F.plainAttrs_list PySem.F.slot_list_extend PySem.F.type_list_extend mt_extendT (pv 2) (pa_cons (pe_ix ix_list (pe_fld (pv 1) rfl) pe_int (fun _ _ => rfl)) pa_nil)))) pss_nil) (pss_one (ps_ret (pv 2))))))), ?_⟩)
  obtain ⟨_, ⟨a, xs, ds, rfl, hx, hA, hz, hk, rfl⟩, k⟩ := h
  have hlen := hA.len
  refine q_when (b := ds.isEmpty) (et_eq (et_test (ev_eqN (m := 0) (ev_lenLs (ev_var rfl) hx) ev_c)) (by rw [← hlen]; cases ds <;> rfl)) (fun hb H1 e1 => ?_) (fun hb H1 e1 => ?_)
  · have e0 : ds = [] := List.isEmpty_iff.mp hb
    subst e0
    exact s_retL (el_lst (ea_cons ev_c ea_nil) (show 1 ≤ 100000 by decide)) fun p H2 hp e2 h2 => k _ H2 (e1.trans e2) ⟨p, rfl, fresh_back e1 hp, h2⟩
  · cases ds with
    | nil => cases hb
    | cons d ds =>
      obtain ⟨x, hx0, hD⟩ := hA.getL (i := 0) (a := d) rfl
      have hd := hk d (List.mem_cons_self ..)
      have hdn := hd.n
      refine q_asg (ev_lstAt (i := 0) (ev_var rfl) ev_c (e1 _ _ hx) hx0) fun H2 e2 => ?_
      have e12 := e1.trans e2
      have hD2 := mono_dif _ _ _ _ e12 hD
      obtain ⟨nm, hn, hnn⟩ := dname T hD2
      have hw : Ev (tFld K (tVar 1) "way") [some (V.ref a), some x, none] H2 (.int (d.way : Int)) := dway T hD2 (ev_var rfl)
      have hnv : Ev (tFld K (tVar 1) "name") [some (V.ref a), some x, none] H2 (.ref nm) := hnn (ev_var rfl)
      have hEL := el_catLL (el_lst (ea_cons hw (ea_cons (ev_lenTx (K := K) hnv hn) ea_nil)) (show 2 ≤ 100000 by decide)) (el_listT (K := K) hnv hn.sq) (by rw [tv_len]; show 2 + _ ≤ _; omega)
      refine q_asgL hEL fun p H3 hp e3 h3 => ?_
      have hD3 := mono_dif _ _ _ _ e3 hD2
      obtain ⟨ch, zs, hc, hC, hcn⟩ := dchg T hD3
      have hp0 : H p = none := fresh_back e12 hp
      refine q_when (b := !d.changed.isEmpty) (et_eq (et_test (ev_gt (ev_lenLs (hcn (ev_var rfl)) hc) ev_c)) (len_pos _ _ hC.len.symm)) (fun hb2 H4 e4 => ?_) (fun hb2 H4 e4 => ?_)
      · cases hcd : d.changed with
        | nil =>
          rw [hcd] at hb2
          cases hb2
        | cons t ts =>
          obtain ⟨ch, zs, hc, hC, hcn⟩ := dchg T (mono_dif _ _ _ _ e4 hD3)
          rw [hcd] at hC
          obtain ⟨xt, hxt, htx⟩ := hC.getL (i := 0) (a := t) rfl
          obtain ⟨s, rfl, hs⟩ := htx
          have hts := hd.t t (by rw [hcd]; exact List.mem_cons_self ..)
          refine s_extT (zs := tv t) (e4 _ _ h3) (ev_var rfl) (ev_lstAt (i := 0) (hcn (ev_var rfl)) ev_c hc hxt) hs (by rw [List.length_append, tv_len, tv_len]; show 2 + _ + _ ≤ _; omega) fun H5 e5 => ?_
          show tRet (tVar 2) _ _ _
          refine s_ret (ev_var rfl) fun H6 e6 => k _ H6 ((Ex.mut (((e12.trans e3).trans e4).trans e5) hp0).trans e6) (ans_tv hp0 (e6 _ _ ?_))
          have e7 : firstL (d :: ds) = d.way :: d.name.length :: (d.name ++ t) := by
            show d.way :: d.name.length :: (d.name ++ d.changed.headD []) = _
            rw [hcd]
            rfl
          rw [e7]
          have e8 : ([.int (d.way : Int), .int (d.name.length : Int)] ++ tv d.name ++ tv t : List V) = tv (d.way :: d.name.length :: (d.name ++ t)) := by
            rw [List.append_assoc, ← tv_app]
            rfl
          rw [← e8]
          exact upd_same
      · have hcd : d.changed = [] := by
          cases h : d.changed with
          | nil => rfl
          | cons t ts =>
            rw [h] at hb2
            cases hb2
        refine s_ret (ev_var rfl) fun H6 e6 => k _ H6 (((e12.trans e3).trans e4).trans e6) (ans_tv hp0 ((e4.trans e6) _ _ ?_))
        have e7 : firstL (d :: ds) = d.way :: d.name.length :: d.name := by
          show d.way :: d.name.length :: (d.name ++ d.changed.headD []) = _
          rw [hcd]
          show _ :: _ :: (d.name ++ []) = _
          rw [List.append_nil]
        rw [e7]
        exact h3
theorem et_len0 {l : List α} {p : Addr} {xs : List V} (h : Ev ta σ H (.ref p)) (hx : H p = some (.lst xs)) (hl : xs.length = l.length) : EvT (tTest (tOp rEq (tCB (rLenQ K) (tCons ta tNil)) (tC (.int 0)))) σ H l.isEmpty := et_eq (et_test (ev_eqN (m := 0) (ev_lenLs h hx) ev_c)) (by rw [hl]; cases l <;> rfl)
theorem sc_answer_steady : FnScope ["differences", "unsteady", "difference"] ["differences"] (defScope s_answer_steady) := ⟨rfl, rfl, rfl, by decide +kernel, rfl, by decide +kernel, by decide +kernel⟩
theorem ok_answer_steady (T : Txt w K mg)  : Has P0 w K mg base "answer_steady" 1 ["differences"] (sp_answer_steady K) := by
  refine has_of T.f_answer_steady T.g_answer_steady sc_answer_steady (fun _ _ _ _ _ _ us hl => match us, hl with | [_], _ => rfl) (fun vs H Q E h => by obtain ⟨_, ⟨a, xs, ds, rfl, hx, hA, hz, rfl⟩, _⟩ := h; rfl) (fun cdv A outer s H vs Q E hr h => ⟨_, PSs.nox (pss_cons (ps_setLc (i := 1) (own := [("difference", 2)]) (g := gName 2) (te := (tVar 2)) (tt := (tOr (tTest (tOp (rEq) (tFld K (tVar 2) "way") _)) (tTest (tOp (rEq) (tFld K (tVar 2) "way") _)))) rfl sc_answer_steady.nd rfl rfl (sw_true rfl rfl rfl (by decide +kernel)) (pi_list (pv 0)) (blkOk_by (own := [("difference", 2)]) (N := ["differences", "unsteady", "difference"]) (sc := defScope s_answer_steady) (by decide +kernel)) (fun _ _ _ _ _ => pg_name (i := 2) sc_answer_steady.nd rfl (Or.inl rfl)) (fun _ _ _ _ _ => (pts_one (PW.pt (pw_or (pt_cmpR op_eq (pe_fld (pv 2) rfl) (pe_gi (by rfl) T.i_OUTPUT) (nomark _)) (pw_or1 (pt_cmpR op_eq (pe_fld (pv 2) rfl) (pe_gi (by rfl) T.i_EXIT) (nomark _))))))) (fun _ _ _ _ _ => (pv 2))) (pss_one (ps_ret (pe_lst (pa_cons (pe_ifExp (pt_cmpR op_eq (pe_callB call_len_seq (by rfl) T.b_len PySem.boot_len (pa_cons (pv 1) pa_nil)) pe_int (nomark _)) pe_int pe_int) pa_nil))))), ?_⟩)
  obtain ⟨_, ⟨a, xs, ds, rfl, hx, hA, hz, rfl⟩, k⟩ := h
  refine q_asgM (em_comp2 (l := ds) (A := DifAt K) (fun d => d.way == 5 || d.way == 6) (fun _ _ _ => True) (fun _ _ _ _ _ _ => trivial) (it_list (M := []) (ev_var rfl) hx (by rw [minus_nil]; exact hA) mono_dif (by simp)) (by omega) (fun _ => rfl) (fun d x H1 _ e1 hD => et_or (et_test (ev_eqN (m := 5) (dway T hD (ev_var rfl)) ev_c)) fun _ => et_test (ev_eqN (m := 6) (dway T hD (ev_var rfl)) ev_c)) (fun d x H1 Dl zs _ e1 hD _ _ _ => EvP.imp (Ev.p (ev_var rfl)) fun _ _ _ _ => trivial)) fun q zs H1 hq e1 h1 hZ => ?_
  have hlen := hZ.len
  refine s_retL (xs := [.int (if (ds.all fun d => d.way != 5 && d.way != 6) = true then 1 else 0)]) (el_lst (ea_cons (ev_if (et_len0 (l := ds.filter fun d => d.way == 5 || d.way == 6) (ev_var rfl) h1 hlen.symm) (fun hb => ev_is ev_c ?_) (fun hb => ev_is ev_c ?_)) ea_nil) (show 1 ≤ 100000 by decide)) fun p H2 hp e2 h2 => k _ H2 (e1.trans e2) ⟨p, rfl, fresh_back e1 hp, h2⟩
  · have h0 := List.isEmpty_iff.mp hb
    rw [List.filter_eq_nil_iff] at h0
    have : (ds.all fun d => d.way != 5 && d.way != 6) = true := List.all_eq_true.mpr fun d hd => by
      have := h0 d hd
      simpa using this
    rw [if_pos this]
  · have : ¬ (ds.all fun d => d.way != 5 && d.way != 6) = true := fun z => by
      have h0 : (ds.filter fun d => d.way == 5 || d.way == 6) = [] := List.filter_eq_nil_iff.mpr fun d hd => by
        have := List.all_eq_true.mp z d hd
        simpa using this
      rw [h0] at hb
      cases hb
    rw [if_neg this]
end
end Bl

-- part W28
set_option Elab.async false
set_option linter.all false
set_option maxRecDepth 100000
set_option maxHeartbeats 4000000
namespace Bl
open PySem PySem.Spec PyProof.Rows L2 Evl
open VabldoNeutral (encode)
/-! ### the walks of pairs.py, second part -/
structure PrOk (la lb : Vabldo.Log) : Prop where
  ka : LogOk la
  kb : LogOk lb
  sa : Sd la.records
  sb : Sd lb.records
theorem name_len {t : List Nat} (h : Vabldo.isName t = true) : t.length ≤ 32 := by
  unfold Vabldo.isName at h
  simp only [Bool.and_eq_true, decide_eq_true_eq] at h
  exact h.2.2.1
theorem name_ne {t : List Nat} (h : Vabldo.isName t = true) : t ≠ [] := by
  intro e
  subst e
  cases h
theorem way_le (la lb : Vabldo.Log) (n : List Nat) : Vabldo.way la lb n ≤ 6 := by
  unfold Vabldo.way
  cases Vabldo.recordOf la n with
  | none => cases Vabldo.recordOf lb n <;> (dsimp only; omega)
  | some x =>
    cases Vabldo.recordOf lb n with
    | none => dsimp only; omega
    | some y =>
      dsimp only
      split
      · decide
      split
      · decide
      split
      · decide
      split <;> decide
theorem others_len (x y : List Vabldo.Used) : (Vabldo.others x y).length ≤ x.length := by
  unfold Vabldo.others
  rw [List.length_map]
  have := List.length_filter_le (fun p : Vabldo.Used × Vabldo.Used => p.1.number != p.2.number) (x.zip y)
  rw [List.length_zip] at this
  omega
theorem chg_cases (la lb : Vabldo.Log) (n : List Nat) : chg la lb n = [] ∨ ∃ x ∈ la.records, ∃ y, chg la lb n = Vabldo.others x.ins y ∨ chg la lb n = Vabldo.others x.outs y := by
  cases q1 : recIn la.records n with
  | none => exact Or.inl (chg_none1 q1)
  | some x =>
    cases q2 : recIn lb.records n with
    | none => exact Or.inl (chg_none2 q2)
    | some y =>
      rw [chg_both q1 q2]
      by_cases c : Vabldo.way la lb n = 4
      · rw [if_pos c]
        exact Or.inr ⟨x, (rec_name q1).1, y.ins, Or.inl rfl⟩
      · rw [if_neg c]
        by_cases c : Vabldo.way la lb n = 5
        · rw [if_pos c]
          exact Or.inr ⟨x, (rec_name q1).1, y.outs, Or.inr rfl⟩
        · rw [if_neg c]
          exact Or.inl rfl
theorem chg_ok {la lb : Vabldo.Log} (k : LogOk la) (n : List Nat) : (chg la lb n).length ≤ 8 ∧ ∀ t ∈ chg la lb n, t.length ≤ 32 := by
  obtain ⟨_, _, hr⟩ := k.prt
  rcases chg_cases la lb n with e | ⟨x, hx, y, e | e⟩
  · rw [e]
    exact ⟨Nat.zero_le _, fun t ht => by cases ht⟩
  · rw [e]
    have := hr x hx
    have hl := others_len x.ins y
    have hi := this.i
    refine ⟨by omega, fun t ht => ?_⟩
    obtain ⟨u, hu, e⟩ := others_mem ht
    rw [← e]
    exact name_len (this.nm.2.2.2.1 u hu)
  · rw [e]
    have := hr x hx
    have hl := others_len x.outs y
    have hi := this.o
    refine ⟨by omega, fun t ht => ?_⟩
    obtain ⟨u, hu, e⟩ := others_mem ht
    rw [← e]
    exact name_len (this.nm.2.2.2.2 u hu)
theorem all_name {la lb : Vabldo.Log} (h : PrOk la lb) {n : List Nat} (hn : n ∈ Vabldo.allNames la lb) : n.length ≤ 32 := by
  unfold Vabldo.allNames Vabldo.names at hn
  rcases List.mem_append.mp hn with hn | hn
  · obtain ⟨r, hr, e⟩ := List.mem_map.mp hn
    rw [← e]
    exact name_len (h.ka.nm r hr).1
  · obtain ⟨r, hr, e⟩ := List.mem_map.mp (List.mem_filter.mp hn).1
    rw [← e]
    exact name_len (h.kb.nm r hr).1
theorem df_ok {la lb : Vabldo.Log} (h : PrOk la lb) {n : List Nat} (hn : n ∈ Vabldo.unlike la lb) : DfOk (dfOf la lb n) := by
  obtain ⟨h1, h2⟩ := List.mem_filter.mp hn
  have hw : Vabldo.way la lb n ≠ 0 := bne_iff_ne.mp h2
  obtain ⟨c1, c2⟩ := chg_ok (lb := lb) h.ka n
  exact ⟨all_name h h1, by show 1 ≤ Vabldo.way la lb n; omega, way_le la lb n, c1, c2⟩
theorem ds_ok {la lb : Vabldo.Log} (h : PrOk la lb) : (dsOf la lb).length ≤ 64 ∧ ∀ d ∈ dsOf la lb, DfOk d := by
  refine ⟨?_, fun d hd => ?_⟩
  · have h1 := h.ka.prt.2.1
    have h2 := h.kb.prt.2.1
    unfold dsOf Vabldo.unlike
    rw [List.length_map]
    refine Nat.le_trans (List.length_filter_le ..) ?_
    unfold Vabldo.allNames Vabldo.names
    rw [List.length_append]
    have h3 := List.length_filter_le (fun n => !(List.map (fun r => r.name) la.records).contains n) (lb.records.map fun r => r.name)
    rw [List.length_map] at h3 ⊢
    omega
  · obtain ⟨n, hn, rfl⟩ := List.mem_map.mp hd
    exact df_ok h hn
theorem roots_eq (la lb : Vabldo.Log) : ((dsOf la lb).filter (rootB (dsOf la lb) la.records)).map (fun d => d.name) = Vabldo.roots la lb := by
  unfold Vabldo.roots
  rw [List.filter_map, List.map_map]
  have e : (Vabldo.unlike la lb).filter (rootB (dsOf la lb) la.records ∘ dfOf la lb) = (Vabldo.unlike la lb).filter (Vabldo.isRoot la lb) := List.filter_congr fun n hn => root_eqB (bne_iff_ne.mp (List.mem_filter.mp hn).2)
  rw [e]
  exact List.map_id _
theorem rows_eq (la lb : Vabldo.Log) : (dsOf la lb).map rowD = (Vabldo.unlike la lb).map fun n => n ++ (Vabldo.str ": " ++ Vabldo.wayText (Vabldo.way la lb n)) := by
  unfold dsOf
  rw [List.map_map]
  rfl
theorem beside_eq (la lb : Vabldo.Log) (n : List Nat) : Vabldo.fileBeside la lb n = (chg la lb n).headD [] := by
  unfold Vabldo.fileBeside chg
  cases Vabldo.recordOf la n with
  | none => rfl
  | some x =>
    cases Vabldo.recordOf lb n with
    | none => rfl
    | some y =>
      dsimp only
      split
      · rfl
      split <;> rfl
theorem first_eq (la lb : Vabldo.Log) : toI (firstL (dsOf la lb)) = encode (Vabldo.firstAnswer la lb) := by
  unfold dsOf Vabldo.firstAnswer
  cases Vabldo.unlike la lb with
  | nil => rfl
  | cons n l =>
    show toI (Vabldo.way la lb n :: n.length :: (n ++ (chg la lb n).headD [])) = _
    rw [← beside_eq]
    rfl
theorem steady_eq (la lb : Vabldo.Log) : ((dsOf la lb).all fun d => d.way != 5 && d.way != 6) = Vabldo.steady la lb := by
  unfold dsOf Vabldo.steady
  rw [List.all_map]
  rfl
def pairAns (c : Nat) (la lb : Vabldo.Log) (t : List Nat) : Vabldo.Answer :=
  if c = 7 then Vabldo.num (Vabldo.unlike la lb).length (Vabldo.lines ((Vabldo.unlike la lb).map fun n => n ++ (Vabldo.str ": " ++ Vabldo.wayText (Vabldo.way la lb n))))
  else if c = 8 then Vabldo.firstAnswer la lb
  else if c = 9 then Vabldo.listed (Vabldo.roots la lb)
  else if c = 10 then Vabldo.whyAnswer la lb t
  else Vabldo.num (if Vabldo.steady la lb = true then 1 else 0) []
abbrev sp_answer_why (K : PySem.W.Frag) : Sp := spR fun vs H Post => ∃ (a : Addr) (xs : List V) (b c : Addr) (ys zs : List V) (e : Addr) (t : List Nat) (la lb : Vabldo.Log), vs = [.ref a, .ref b, .ref c, .ref e] ∧ H a = some (.lst xs) ∧ All2 (fun d v => DifAt K d v H) (dsOf la lb) xs ∧ H b = some (.lst ys) ∧ All2 (fun r v => RecAt K r v H) la.records ys ∧ H c = some (.lst zs) ∧ All2 (fun r v => RecAt K r v H) lb.records zs ∧ Tx H e t ∧ t.length ≤ 40000 ∧ PrOk la lb ∧ Post = AnsI (encode (Vabldo.whyAnswer la lb t)) H
abbrev sp_answer_of_pair (K : PySem.W.Frag) : Sp := spR fun vs H Post => ∃ (cl : Nat) (b c : Addr) (ys zs : List V) (e : Addr) (t : List Nat) (la lb : Vabldo.Log), vs = [.int (cl : Int), .ref b, .ref c, .ref e] ∧ H b = some (.lst ys) ∧ All2 (fun r v => RecAt K r v H) la.records ys ∧ H c = some (.lst zs) ∧ All2 (fun r v => RecAt K r v H) lb.records zs ∧ Tx H e t ∧ t.length ≤ 40000 ∧ PrOk la lb ∧ Post = AnsI (encode (pairAns cl la lb t)) H
theorem rec_le {l : Vabldo.Log} (k : LogOk l) : ∀ r ∈ l.records, rcN r ≤ 1000 := fun r hr => by
  have := k.prt.2.2 r hr
  have h1 := this.a
  have h2 := this.i
  have h3 := this.o
  unfold rcN
  omega
theorem contains_all (la lb : Vabldo.Log) (n : List Nat) : (Vabldo.allNames la lb).contains n = !((recIn la.records n).isNone && (recIn lb.records n).isNone) := by
  cases q1 : recIn la.records n with
  | some x =>
    obtain ⟨h1, h2⟩ := rec_name q1
    have : n ∈ Vabldo.allNames la lb := List.mem_append_left _ (List.mem_map.mpr ⟨x, h1, h2⟩)
    rw [List.contains_iff_mem.mpr this]
    rfl
  | none =>
    cases q2 : recIn lb.records n with
    | some y =>
      obtain ⟨h1, h2⟩ := rec_name q2
      have : n ∈ Vabldo.allNames la lb := List.mem_append_right _ (List.mem_filter.mpr ⟨List.mem_map.mpr ⟨y, h1, h2⟩, by
        have := rec_none.mp q1
        unfold Vabldo.names
        simpa using this⟩)
      rw [List.contains_iff_mem.mpr this]
      rfl
    | none =>
      cases hc : (Vabldo.allNames la lb).contains n with
      | false => rfl
      | true =>
        have hm := List.contains_iff_mem.mp hc
        rcases List.mem_append.mp hm with hm | hm
        · exact absurd hm (rec_none.mp q1)
        · exact absurd (List.mem_filter.mp hm).1 (rec_none.mp q2)
section
variable {α : Type} {w : World} {K : PySem.W.Frag} {mg : Str → Option Value} {base : Heap} {σ : L2.St} {H H' : Hp} {ta tb tc te tl td ty : TE} {v y z : V} {D : Ends} {tu tz : TS}
/-- return [x] -/
theorem s_no {x : Int} (k : ∀ p H1, H p = none → Ex H H1 → H1 p = some (.lst [.int x]) → D.rt (.ref p) H1) : tRet (tLst (tCons (tC (.int x)) tNil)) D σ H := s_retL (el_lst (ea_cons ev_c ea_nil) (show 1 ≤ 100000 by decide)) k
theorem et_name {e : Addr} {t : List Nat} (h : Ev ta σ H (.ref e)) (ht : Tx H e t) (hz : t.length ≤ 40000) : EvT (tNot (tB (tCall (sp_is_name K) [] E0 (tCons ta tNil)))) σ H (!Vabldo.isName t) := et_not (et_B (ev_callR (ea_cons h ea_nil) fun H1 e1 => ⟨e, t, rfl, ht.mono e1, hz, rfl⟩))
theorem sc_answer_why : FnScope ["differences", "first", "second", "name", "difference"] ["differences", "first", "second", "name"] (defScope s_answer_why) := ⟨rfl, rfl, rfl, by decide +kernel, rfl, by decide +kernel, by decide +kernel⟩
theorem ok_answer_why (T : Txt w K mg) (H_is_name : Has P0 w K mg base "is_name" 4 ["text"] (sp_is_name K)) (H_find_record : Has P0 w K mg base "find_record" 1 ["records", "name"] (sp_find_record K)) (H_difference_named : Has P0 w K mg base "difference_named" 1 ["differences", "name"] (sp_difference_named K)) (H_chain_names : Has P0 w K mg base "chain_names" 4 ["difference", "differences", "first"] (sp_chain_names K)) (H_counted_lines : Has P0 w K mg base "counted_lines" 1 ["names"] (sp_counted_lines K)) : Has P0 w K mg base "answer_why" 5 ["differences", "first", "second", "name"] (sp_answer_why K) := by
  refine has_of T.f_answer_why T.g_answer_why sc_answer_why (fun _ _ _ _ _ _ us hl => match us, hl with | [_, _, _, _], _ => rfl) (fun vs H Q E h => by obtain ⟨_, ⟨a, xs, b, c, ys, zs, e, t, la, lb, rfl, hx, hA, hy, hB, hc, hC, he, hz, hk, rfl⟩, _⟩ := h; rfl) (fun cdv A outer s H vs Q E hr h => ⟨_, PSs.nox (pss_cons (ps_if (pt_not (pt_val (pe_h H_is_name (by exact hr.mono (by decide)) (by rfl) (pa_cons (pv 3) pa_nil)))) (pss_one (ps_ret (pe_lst (pa_cons (pe_gi (by rfl) T.i_NAME) pa_nil)))) pss_nil) (pss_cons (ps_if (PW.pt (pw_and (pt_cmpR op_isN (pe_h H_find_record (by exact hr.mono (by decide)) (by rfl) (pa_cons (pv 1) (pa_cons (pv 3) pa_nil))) pe_non (nomark _)) (pw_and1 (pt_cmpR op_isN (pe_h H_find_record (by exact hr.mono (by decide)) (by rfl) (pa_cons (pv 2) (pa_cons (pv 3) pa_nil))) pe_non (nomark _))))) (pss_one (ps_ret (pe_lst (pa_cons (pe_gi (by rfl) T.i_ABSENT) pa_nil)))) pss_nil) (pss_cons (ps_set (i := 4) sc_answer_why.nd rfl (Or.inl rfl) (pe_h H_difference_named (by exact hr.mono (by decide)) (by rfl) (pa_cons (pv 0) (pa_cons (pv 3) pa_nil)))) (pss_cons (ps_if (pt_cmpR op_isN (pv 4) pe_non (nomark _)) (pss_one (ps_ret (pe_lst (pa_cons (pe_gi (by rfl) T.i_ALIKE) pa_nil)))) pss_nil) (pss_one (ps_ret (pe_h H_counted_lines (by exact hr.mono (by decide)) (by rfl) (pa_cons (pe_h H_chain_names (by exact hr.mono (by decide)) (by rfl) (pa_cons (pv 4) (pa_cons (pv 0) (pa_cons (pv 1) pa_nil)))) pa_nil)))))))), ?_⟩)
  obtain ⟨_, ⟨a, xs, b, c, ys, zs, e, t, la, lb, rfl, hx, hA, hy, hB, hc, hC, he, hz, hk, rfl⟩, k⟩ := h
  obtain ⟨d1, d2⟩ := ds_ok hk
  refine q_when (b := !Vabldo.isName t) (et_name (ev_var rfl) he hz) (fun hb H1 e1 => ?_) (fun hb H1 e1 => ?_)
  · refine s_no fun p H2 hp e2 h2 => k _ H2 (e1.trans e2) ⟨p, rfl, fresh_back e1 hp, ?_⟩
    have hn : Vabldo.isName t = false := by simpa using hb
    unfold Vabldo.whyAnswer
    rw [if_pos hn]
    exact h2
  · have hn : ¬ Vabldo.isName t = false := by
      intro z
      rw [z] at hb
      cases hb
    refine q_when (b := (recIn la.records t).isNone && (recIn lb.records t).isNone) (et_and (et_test (ep_isN (ep_call (ea_cons (ev_var rfl) (ea_cons (ev_var rfl) ea_nil)) fun H2 e2 => ⟨b, ys, la.records, e, t, rfl, (e1.trans e2) _ _ hy, hB.mono mono_rec (e1.trans e2), he.mono (e1.trans e2), rfl⟩) fun v G h => opt_isN (fun _ _ _ h => rec_ref h) h)) fun _ => et_test (ep_isN (ep_call (ea_cons (ev_var rfl) (ea_cons (ev_var rfl) ea_nil)) fun H2 e2 => ⟨c, zs, lb.records, e, t, rfl, (e1.trans e2) _ _ hc, hC.mono mono_rec (e1.trans e2), he.mono (e1.trans e2), rfl⟩) fun v G h => opt_isN (fun _ _ _ h => rec_ref h) h)) (fun hb2 H2 e2 => ?_) (fun hb2 H2 e2 => ?_)
    · refine s_no fun p H3 hp e3 h3 => k _ H3 ((e1.trans e2).trans e3) ⟨p, rfl, fresh_back (e1.trans e2) hp, ?_⟩
      have hcn : (Vabldo.allNames la lb).contains t = false := by rw [contains_all, hb2]; rfl
      unfold Vabldo.whyAnswer
      rw [if_neg hn, if_pos hcn]
      exact h3
    · have hcn : ¬ (Vabldo.allNames la lb).contains t = false := by rw [contains_all, hb2]; decide
      have e12 := e1.trans e2
      refine q_asgP (ep_call (ea_cons (ev_var rfl) (ea_cons (ev_var rfl) ea_nil)) fun H3 e3 => ⟨a, xs, dsOf la lb, e, t, rfl, (e12.trans e3) _ _ hx, hA.mono mono_dif (e12.trans e3), he.mono (e12.trans e3), rfl⟩) fun u H3 e3 hu => ?_
      rw [df_named] at hu
      refine q_when (b := decide (Vabldo.way la lb t = 0)) (et_eq (et_test (ev_isNv (ev_var rfl))) ?_) (fun hb3 H4 e4 => ?_) (fun hb3 H4 e4 => ?_)
      · rw [in_isN hu]
        by_cases z : Vabldo.way la lb t = 0 <;> simp [z]
      · refine s_no fun p H5 hp e5 h5 => k _ H5 ((e12.trans e3).trans (e4.trans e5)) ⟨p, rfl, fresh_back ((e12.trans e3).trans e4) hp, ?_⟩
        unfold Vabldo.whyAnswer
        rw [if_neg hn, if_neg hcn, if_pos (of_decide_eq_true hb3)]
        exact h5
      · have hw := of_decide_eq_false hb3
        rw [if_neg hw] at hu
        have e14 := (e12.trans e3).trans e4
        have hcl := chain_len la lb 33 t
        have hlines : (Vabldo.lines (Vabldo.chain la lb 33 t)).length ≤ 40001 * (Vabldo.chain la lb 33 t).length := by
          refine lines_le 40000 _ ?_
          have hch : ∀ (k : Nat) (m : List Nat), m.length ≤ 40000 → ∀ x ∈ Vabldo.chain la lb k m, x.length ≤ 40000 := by
            intro k
            induction k with
            | zero =>
              intro m hm x hx
              rw [List.mem_singleton.mp hx]
              exact hm
            | succ k ih =>
              intro m hm x hx
              unfold Vabldo.chain at hx
              split at hx
              · rw [List.mem_singleton.mp hx]
                exact hm
              · split at hx
                · rename_i m' hm'
                  rcases List.mem_cons.mp hx with hx | hx
                  · rw [hx]
                    exact hm
                  · refine ih m' ?_ x hx
                    obtain ⟨f, hf, hc⟩ := List.mem_filterMap.mp (List.mem_of_mem_head? hm')
                    unfold Vabldo.culprit at hc
                    cases q : Vabldo.makerOf la f with
                    | none =>
                      rw [q] at hc
                      cases hc
                    | some r =>
                      rw [q] at hc
                      dsimp only at hc
                      split at hc
                      · cases hc
                      · cases hc
                        have := name_len (hk.ka.nm r (maker_of_mem q).1).1
                        omega
                · rw [List.mem_singleton.mp hx]
                  exact hm
          exact hch 33 t hz
        refine s_retP (ep_counted (ns := Vabldo.chain la lb 33 t) (H0 := H) (PA := IsTs (Vabldo.chain la lb 33 t)) (ep_callW (ea_cons (ev_var rfl) (ea_cons (ev_var rfl) (ea_cons (ev_var rfl) ea_nil))) fun H5 e5 => ⟨_, ⟨u, a, xs, b, ys, la, lb, t, rfl, (e14.trans e5) _ _ hx, hA.mono mono_dif (e14.trans e5), hu, (e14.trans e5) _ _ hy, hB.mono mono_rec (e14.trans e5), rec_le hk.ka, fun m => Nat.le_trans (chg_ok hk.ka m).1 (by decide), hk.sa, hk.ka.prt.2.1, rfl⟩, fun v H6 _ hv => hv.ts⟩) (fun _ _ h => h) (by omega) e14) fun v H5 e5 hv => k v H5 (e14.trans e5) ?_
        show AnsI (encode (Vabldo.whyAnswer la lb t)) H v H5
        unfold Vabldo.whyAnswer
        rw [if_neg hn, if_neg hcn, if_neg hw]
        exact hv
theorem et_call {c m : Nat} (h : Ev ta σ H (.int (c : Int))) : EvT (tTest (tOp rEq ta (tC (.int (m : Int))))) σ H (c == m) := et_test (ev_eqN h ev_c)
theorem ans_imp {l l' : List Int} {v : V} (e : l = l') (h : AnsI l H v H') : AnsI l' H v H' := by rw [← e]; exact h
theorem sc_answer_of_pair : FnScope ["call", "first", "second", "text", "differences"] ["call", "first", "second", "text"] (defScope s_answer_of_pair) := ⟨rfl, rfl, rfl, by decide +kernel, rfl, by decide +kernel, by decide +kernel⟩
theorem ok_answer_of_pair (T : Txt w K mg) (H_find_differences : Has P0 w K mg base "find_differences" 5 ["first", "second"] (sp_find_differences K)) (H_answer_unlike : Has P0 w K mg base "answer_unlike" 2 ["differences"] (sp_answer_unlike K)) (H_answer_first : Has P0 w K mg base "answer_first" 1 ["differences"] (sp_answer_first K)) (H_root_names : Has P0 w K mg base "root_names" 4 ["differences", "first"] (sp_root_names K)) (H_counted_lines : Has P0 w K mg base "counted_lines" 1 ["names"] (sp_counted_lines K)) (H_answer_why : Has P0 w K mg base "answer_why" 5 ["differences", "first", "second", "name"] (sp_answer_why K)) (H_answer_steady : Has P0 w K mg base "answer_steady" 1 ["differences"] (sp_answer_steady K)) : Has P0 w K mg base "answer_of_pair" 6 ["call", "first", "second", "text"] (sp_answer_of_pair K) := by
  refine has_of T.f_answer_of_pair T.g_answer_of_pair sc_answer_of_pair (fun _ _ _ _ _ _ us hl => match us, hl with | [_, _, _, _], _ => rfl) (fun vs H Q E h => by obtain ⟨_, ⟨cl, b, c, ys, zs, e, t, la, lb, rfl, hy, hB, hc, hC, he, hz, hk, rfl⟩, _⟩ := h; rfl) (fun cdv A outer s H vs Q E hr h => ⟨_, PSs.nox (pss_cons (ps_set (i := 4) sc_answer_of_pair.nd rfl (Or.inl rfl) (pe_h H_find_differences (by exact hr.mono (by decide)) (by rfl) (pa_cons (pv 1) (pa_cons (pv 2) pa_nil)))) (pss_cons (ps_if (pt_cmpR op_eq (pv 0) (pe_gi (by rfl) T.i_UNLIKE) (nomark _)) (pss_one (ps_ret (pe_h H_answer_unlike (by exact hr.mono (by decide)) (by rfl) (pa_cons (pv 4) pa_nil)))) pss_nil) (pss_cons (ps_if (pt_cmpR op_eq (pv 0) (pe_gi (by rfl) T.i_FIRST) (nomark _)) (pss_one (ps_ret (pe_h H_answer_first (by exact hr.mono (by decide)) (by rfl) (pa_cons (pv 4) pa_nil)))) pss_nil) (pss_cons (ps_if (pt_cmpR op_eq (pv 0) (pe_gi (by rfl) T.i_ROOTS) (nomark _)) (pss_one (ps_ret (pe_h H_counted_lines (by exact hr.mono (by decide)) (by rfl) (pa_cons (pe_h H_root_names (by exact hr.mono (by decide)) (by rfl) (pa_cons (pv 4) (pa_cons (pv 1) pa_nil))) pa_nil)))) pss_nil) (pss_cons (ps_if (pt_cmpR op_eq (pv 0) (pe_gi (by rfl) T.i_WHY) (nomark _)) (pss_one (ps_ret (pe_h H_answer_why (by exact hr.mono (by decide)) (by rfl) (pa_cons (pv 4) (pa_cons (pv 1) (pa_cons (pv 2) (pa_cons (pv 3) pa_nil))))))) pss_nil) (pss_one (ps_ret (pe_h H_answer_steady (by exact hr.mono (by decide)) (by rfl) (pa_cons (pv 4) pa_nil))))))))), ?_⟩)
  obtain ⟨_, ⟨cl, b, c, ys, zs, e, t, la, lb, rfl, hy, hB, hc, hC, he, hz, hk, rfl⟩, k⟩ := h
  obtain ⟨d1, d2⟩ := ds_ok hk
  refine q_asgP (ep_callW (Post := NewL (DifAt K) (dfAll la.records lb.records) H) (ea_cons (ev_var rfl) (ea_cons (ev_var rfl) ea_nil)) fun H1 e1 => ⟨_, ⟨b, c, ys, zs, la.records, lb.records, rfl, e1 _ _ hy, hB.mono mono_rec e1, e1 _ _ hc, hC.mono mono_rec e1, Nat.le_trans hk.ka.prt.2.1 (by decide), Nat.le_trans hk.kb.prt.2.1 (by decide), rec_le hk.ka, rec_le hk.kb, rfl⟩, fun v H2 _ hv => NewL.back hv e1⟩) fun u H1 e1 hu => ?_
  rw [df_all hk.sa hk.sb] at hu
  obtain ⟨q, xs, rfl, hq0, hq, hA⟩ := hu
  refine q_when (b := cl == 7) (et_call (m := 7) (ev_var rfl)) (fun hb H2 e2 => ?_) (fun hb H2 e2 => ?_)
  · refine s_retP (ep_callW (Post := AnsI (toI ((dsOf la lb).length :: Vabldo.lines ((dsOf la lb).map rowD))) H) (ea_cons (ev_var rfl) ea_nil) fun H3 e3 => ⟨_, ⟨q, xs, dsOf la lb, rfl, (e2.trans e3) _ _ hq, hA.mono mono_dif (e2.trans e3), d1, d2, rfl⟩, fun v H4 _ hv => hv.back ((e1.trans e2).trans e3)⟩) fun v H3 e3 hv => k v H3 ((e1.trans e2).trans e3) (ans_imp ?_ hv)
    unfold pairAns
    rw [if_pos (beq_iff_eq.mp hb), rows_eq]
    have : (dsOf la lb).length = (Vabldo.unlike la lb).length := List.length_map ..
    rw [this]
    rfl
  · have n7 := beq_eq_false_iff_ne.mp hb
    refine q_when (b := cl == 8) (et_call (m := 8) (ev_var rfl)) (fun hb H3 e3 => ?_) (fun hb H3 e3 => ?_)
    · refine s_retP (ep_callW (Post := AnsI (toI (firstL (dsOf la lb))) H) (ea_cons (ev_var rfl) ea_nil) fun H4 e4 => ⟨_, ⟨q, xs, dsOf la lb, rfl, ((e2.trans e3).trans e4) _ _ hq, hA.mono mono_dif ((e2.trans e3).trans e4), d1, d2, rfl⟩, fun v H5 _ hv => hv.back (e1.trans ((e2.trans e3).trans e4))⟩) fun v H4 e4 hv => k v H4 (e1.trans ((e2.trans e3).trans e4)) (ans_imp ?_ hv)
      unfold pairAns
      rw [if_neg n7, if_pos (beq_iff_eq.mp hb)]
      exact first_eq la lb
    · have n8 := beq_eq_false_iff_ne.mp hb
      have e13 := e1.trans (e2.trans e3)
      refine q_when (b := cl == 9) (et_call (m := 9) (ev_var rfl)) (fun hb H4 e4 => ?_) (fun hb H4 e4 => ?_)
      · have hlr : (Vabldo.lines (Vabldo.roots la lb)).length ≤ 33 * (Vabldo.roots la lb).length := lines_le 32 _ fun x hx => by
          have h1 := (List.mem_filter.mp hx).1
          exact all_name hk (List.mem_filter.mp h1).1
        have hrl : (Vabldo.roots la lb).length ≤ 64 := by
          refine Nat.le_trans (List.length_filter_le ..) ?_
          have : (dsOf la lb).length = (Vabldo.unlike la lb).length := List.length_map ..
          omega
        refine s_retP (ep_counted (ns := Vabldo.roots la lb) (H0 := H) (PA := IsTs (Vabldo.roots la lb)) (ep_callW (ea_cons (ev_var rfl) (ea_cons (ev_var rfl) ea_nil)) fun H5 e5 => ⟨_, ⟨q, xs, dsOf la lb, b, ys, la.records, rfl, (((e2.trans e3).trans e4).trans e5) _ _ hq, hA.mono mono_dif (((e2.trans e3).trans e4).trans e5), ((e13.trans e4).trans e5) _ _ hy, hB.mono mono_rec ((e13.trans e4).trans e5), rec_le hk.ka, Nat.le_trans d1 (by decide), fun d hd => Nat.le_trans (d2 d hd).c (by decide), rfl⟩, fun v H6 _ hv => by rw [roots_eq] at hv; exact hv.ts⟩) (fun _ _ h => h) (by omega) (e13.trans e4)) fun v H5 e5 hv => k v H5 ((e13.trans e4).trans e5) (ans_imp ?_ hv)
        unfold pairAns
        rw [if_neg n7, if_neg n8, if_pos (beq_iff_eq.mp hb)]
        rfl
      · have n9 := beq_eq_false_iff_ne.mp hb
        refine q_when (b := cl == 10) (et_call (m := 10) (ev_var rfl)) (fun hb H5 e5 => ?_) (fun hb H5 e5 => ?_)
        · have e15 := (e13.trans e4).trans e5
          refine s_retP (ep_callW (Post := AnsI (encode (Vabldo.whyAnswer la lb t)) H) (ea_cons (ev_var rfl) (ea_cons (ev_var rfl) (ea_cons (ev_var rfl) (ea_cons (ev_var rfl) ea_nil)))) fun H6 e6 => ⟨_, ⟨q, xs, b, c, ys, zs, e, t, la, lb, rfl, ((e2.trans e3).trans (e4.trans (e5.trans e6))) _ _ hq, hA.mono mono_dif ((e2.trans e3).trans (e4.trans (e5.trans e6))), (e15.trans e6) _ _ hy, hB.mono mono_rec (e15.trans e6), (e15.trans e6) _ _ hc, hC.mono mono_rec (e15.trans e6), he.mono (e15.trans e6), hz, hk, rfl⟩, fun v H7 _ hv => hv.back (e15.trans e6)⟩) fun v H6 e6 hv => k v H6 (e15.trans e6) (ans_imp ?_ hv)
          unfold pairAns
          rw [if_neg n7, if_neg n8, if_neg n9, if_pos (beq_iff_eq.mp hb)]
        · have n10 := beq_eq_false_iff_ne.mp hb
          have e15 := (e13.trans e4).trans e5
          refine s_retP (ep_callW (Post := AnsI [if ((dsOf la lb).all fun d => d.way != 5 && d.way != 6) = true then 1 else 0] H) (ea_cons (ev_var rfl) ea_nil) fun H6 e6 => ⟨_, ⟨q, xs, dsOf la lb, rfl, ((e2.trans e3).trans (e4.trans (e5.trans e6))) _ _ hq, hA.mono mono_dif ((e2.trans e3).trans (e4.trans (e5.trans e6))), d1, rfl⟩, fun v H7 _ hv => hv.back (e15.trans e6)⟩) fun v H6 e6 hv => k v H6 (e15.trans e6) (ans_imp ?_ hv)
          unfold pairAns
          rw [if_neg n7, if_neg n8, if_neg n9, if_neg n10, steady_eq]
          cases Vabldo.steady la lb <;> rfl
end
end Bl

-- part M7
set_option linter.all false
namespace Bl
open Vabldo (makes makerOf)
/-! ### what is reached, and what is waiting -/
structure RW (l : Vabldo.Log) (nI : List (List Nat)) (f : List Nat) (R W : List (List Nat)) : Prop where
  ok : ∀ h ∈ R, ∃ j, PathN l (j + 1) f h
  cl : ∀ g, (g = f ∨ g ∈ R) → g ∈ W ∨ ∀ h ∈ insOf l g, h ∈ R
  wt : ∀ g ∈ W, g = f ∨ g ∈ R
  sb : ∀ h ∈ R, h ∈ nI
  nd : R.Nodup
  le : R.length ≤ 256
structure RI (nI R0 W0 pre R W : List (List Nat)) : Prop where
  sub : ∀ h ∈ R0, h ∈ R
  pr : ∀ h ∈ pre, h ∈ R
  up : ∀ h ∈ R, h ∈ R0 ∨ h ∈ pre
  wsub : ∀ h ∈ W0, h ∈ W
  wup : ∀ h ∈ W, h ∈ W0 ∨ h ∈ R
  new : ∀ h ∈ R, h ∈ R0 ∨ h ∈ W
  sb : ∀ h ∈ R, h ∈ nI
  nd : R.Nodup
  le : R.length ≤ 256
  ms : 2 * (256 - R.length) + W.length ≤ 2 * (256 - R0.length) + W0.length
theorem rch_start (l : Vabldo.Log) (nI : List (List Nat)) (f : List Nat) : RW l nI f [] [f] := by
  refine ⟨fun h hh => (by cases hh), fun g hg => ?_, fun g hg => Or.inl (List.mem_singleton.mp hg), fun h hh => (by cases hh), List.nodup_nil, by simp⟩
  rcases hg with rfl | hg
  · exact Or.inl (List.mem_singleton.mpr rfl)
  · cases hg
theorem rch_end {l : Vabldo.Log} {nI : List (List Nat)} {f : List Nat} {R : List (List Nat)} (h : RW l nI f R []) : Rchd l f R := by
  have c : ∀ g, (g = f ∨ g ∈ R) → ∀ h ∈ insOf l g, h ∈ R := fun g hg => by
    rcases h.cl g hg with z | z
    · cases z
    · exact z
  exact ⟨h.ok, c f (Or.inl rfl), fun g hg => c g (Or.inr hg)⟩
theorem ri_start {l : Vabldo.Log} {nI : List (List Nat)} {f : List Nat} {R W W0 : List (List Nat)} (h : RW l nI f R W) : RI nI R W0 [] R W0 :=
  ⟨fun _ h => h, fun h hh => (by cases hh), fun _ h => Or.inl h, fun _ h => h, fun _ h => Or.inl h, fun _ h => Or.inl h, h.sb, h.nd, h.le, Nat.le_refl _⟩
theorem ri_old {nI R0 W0 pre R W : List (List Nat)} {x : List Nat} (h : RI nI R0 W0 pre R W) (hx : x ∈ R) : RI nI R0 W0 (pre ++ [x]) R W := by
  refine ⟨h.sub, fun y hy => ?_, fun y hy => ?_, h.wsub, h.wup, h.new, h.sb, h.nd, h.le, h.ms⟩
  · rcases List.mem_append.mp hy with hy | hy
    · exact h.pr y hy
    · rw [List.mem_singleton.mp hy]
      exact hx
  · rcases h.up y hy with z | z
    · exact Or.inl z
    · exact Or.inr (List.mem_append_left _ z)
theorem ri_new {nI R0 W0 pre R W : List (List Nat)} {x : List Nat} (h : RI nI R0 W0 pre R W) (hx : x ∉ R) (hn : x ∈ nI) (hl : (R ++ [x]).length ≤ 256) : RI nI R0 W0 (pre ++ [x]) (R ++ [x]) (W ++ [x]) := by
  refine ⟨fun y hy => List.mem_append_left _ (h.sub y hy), fun y hy => ?_, fun y hy => ?_, fun y hy => List.mem_append_left _ (h.wsub y hy), fun y hy => ?_, fun y hy => ?_, fun y hy => ?_, ?_, hl, ?_⟩
  · rcases List.mem_append.mp hy with hy | hy
    · exact List.mem_append_left _ (h.pr y hy)
    · exact List.mem_append_right _ hy
  · rcases List.mem_append.mp hy with hy | hy
    · rcases h.up y hy with z | z
      · exact Or.inl z
      · exact Or.inr (List.mem_append_left _ z)
    · exact Or.inr (List.mem_append_right _ hy)
  · rcases List.mem_append.mp hy with hy | hy
    · rcases h.wup y hy with z | z
      · exact Or.inl z
      · exact Or.inr (List.mem_append_left _ z)
    · exact Or.inr (List.mem_append_right _ hy)
  · rcases List.mem_append.mp hy with hy | hy
    · rcases h.new y hy with z | z
      · exact Or.inl z
      · exact Or.inr (List.mem_append_left _ z)
    · exact Or.inr (List.mem_append_right _ hy)
  · rcases List.mem_append.mp hy with hy | hy
    · exact h.sb y hy
    · rw [List.mem_singleton.mp hy]
      exact hn
  · rw [List.nodup_append]
    refine ⟨h.nd, by simp, fun a ha b hb e => ?_⟩
    rw [List.mem_singleton.mp hb] at e
    exact hx (e ▸ ha)
  · have := h.ms
    rw [List.length_append, List.length_singleton] at hl ⊢
    rw [List.length_append, List.length_singleton]
    omega
/-- one is popped, and what makes it is looked at -/
theorem rch_step {l : Vabldo.Log} {nI : List (List Nat)} {f g : List Nat} {R W0 R' W' : List (List Nat)} (h : RW l nI f R (W0 ++ [g])) (i : RI nI R W0 (insOf l g) R' W') : RW l nI f R' W' := by
  have hg : g = f ∨ g ∈ R := h.wt g (List.mem_append_right _ (List.mem_singleton.mpr rfl))
  refine ⟨fun x hx => ?_, fun y hy => ?_, fun y hy => ?_, i.sb, i.nd, i.le⟩
  · rcases i.up x hx with z | z
    · exact h.ok x z
    · rcases hg with rfl | hg
      · exact ⟨0, x, z, rfl⟩
      · obtain ⟨j, hj⟩ := h.ok g hg
        exact ⟨j + 1, path_snoc z hj⟩
  · by_cases e : y = g
    · rw [e]
      exact Or.inr i.pr
    · have old : (y = f ∨ y ∈ R) → y ∈ W' ∨ ∀ h ∈ insOf l y, h ∈ R' := fun hy => by
        rcases h.cl y hy with z | z
        · rcases List.mem_append.mp z with z | z
          · exact Or.inl (i.wsub y z)
          · exact absurd (List.mem_singleton.mp z) e
        · exact Or.inr fun x hx => i.sub x (z x hx)
      rcases hy with hy | hy
      · exact old (Or.inl hy)
      · rcases i.new y hy with z | z
        · exact old (Or.inr z)
        · exact Or.inl z
  · rcases i.wup y hy with z | z
    · rcases h.wt y (List.mem_append_left _ z) with z | z
      · exact Or.inl z
      · exact Or.inr (i.sub y z)
    · exact Or.inr z
end Bl

-- part W29
set_option Elab.async false
set_option linter.all false
set_option maxRecDepth 100000
set_option maxHeartbeats 4000000
namespace Bl
open PySem PySem.Spec PyProof.Rows L2 Evl
/-! ### on what a file rests -/
theorem lex_tb : ∀ a b : List Nat, HT.lexLt (toI a) (toI b) = Vabldo.textBefore a b
  | [], [] => rfl
  | [], _ :: _ => rfl
  | _ :: _, [] => rfl
  | x :: a, y :: b => by
    show HT.lexLt ((x : Int) :: toI a) ((y : Int) :: toI b) = (decide (x < y) || (x == y && Vabldo.textBefore a b))
    rw [HT.lexLt_cons, lex_tb a b]
    by_cases h : x = y
    · subst h
      simp
    · have h2 : ¬ (x : Int) = (y : Int) := by omega
      rw [if_neg h2]
      by_cases h3 : x < y
      · have : (x : Int) < (y : Int) := by omega
        simp [h3, this]
      · have : ¬ (x : Int) < (y : Int) := by omega
        simp [h3, this, h]
/-- what stands in a tuple of ints -/
def kOf (H : Hp) : V → List Int
  | .ref t => (match H t with
    | some (.tup vs) => vs.map fun v => (match v with
      | .int i => i
      | _ => 0)
    | _ => [])
  | _ => []
def tOf (H : Hp) (v : V) : List Nat := (kOf H v).map Int.toNat
theorem k_of {t : List Nat} {v : V} {H : Hp} (h : IsTx t v H) : kOf H v = toI t := by
  obtain ⟨a, rfl, ha⟩ := h
  have ha' : H a = some (.tup (tv t)) := ha
  show (match H a with
    | some (.tup vs) => vs.map fun v => (match v with
      | .int i => i
      | _ => 0)
    | _ => []) = toI t
  rw [ha']
  show (tv t).map _ = toI t
  unfold tv toI
  rw [List.map_map]
  rfl
theorem t_of {t : List Nat} {v : V} {H : Hp} (h : IsTx t v H) : tOf H v = t := by
  unfold tOf
  rw [k_of h]
  unfold toI
  rw [List.map_map]
  have : (Int.toNat ∘ fun (n : Nat) => (n : Int)) = id := funext fun n => Int.toNat_natCast n
  rw [this, List.map_id]
theorem all2_txs {ts : List (List Nat)} {ys : List V} {H : Hp} (h : All2 (fun t v => IsTx t v H) ts ys) : ts = ys.map (tOf H) := by
  induction h with
  | nil => rfl
  | cons h1 _ ih => rw [List.map_cons, t_of h1, ← ih]
theorem all2_of {ys : List V} {H : Hp} : ∀ {zs : List V}, (∀ z ∈ zs, ∃ t, IsTx t z H) → All2 (fun t v => IsTx t v H) (zs.map (tOf H)) zs
  | [], _ => .nil
  | z :: zs, h => by
    obtain ⟨t, ht⟩ := h z (List.mem_cons_self ..)
    refine .cons ?_ (all2_of (ys := ys) fun x hx => h x (List.mem_cons_of_mem _ hx))
    rw [t_of ht]
    exact ht
theorem all2_memR {ts : List (List Nat)} {ys : List V} {H : Hp} (h : All2 (fun t v => IsTx t v H) ts ys) : ∀ y ∈ ys, ∃ t ∈ ts, IsTx t y H := by
  induction h with
  | nil => intro y hy; cases hy
  | cons h1 _ ih =>
    intro y hy
    rcases List.mem_cons.mp hy with rfl | hy
    · exact ⟨_, List.mem_cons_self .., h1⟩
    · obtain ⟨t, ht, r⟩ := ih y hy
      exact ⟨t, List.mem_cons_of_mem _ ht, r⟩
/-- texts sorted are texts in order -/
theorem sorted_texts {ts : List (List Nat)} {ys zs : List V} {H : Hp} (hA : All2 (fun t v => IsTx t v H) ts ys) (hn : ts.Nodup) (hs : SrtO.Srtd (fun x y => HT.lexLt (kOf H x) (kOf H y)) zs) (hb : SrtO.Stb (fun x y => HT.lexLt (kOf H x) (kOf H y)) zs ys) : All2 (fun t v => IsTx t v H) (Vabldo.inOrder ts) zs := by
  have hm : ∀ z ∈ zs, ∃ t, IsTx t z H := fun z hz => by
    obtain ⟨t, _, ht⟩ := all2_memR hA z (hb.perm.mem_iff.mp hz)
    exact ⟨t, ht⟩
  have hz := all2_of (ys := ys) hm
  have e1 := all2_txs hA
  have hp : (zs.map (tOf H)).Perm ts := by rw [e1]; exact hb.perm.map _
  have hnd : (zs.map (tOf H)).Nodup := hp.nodup_iff.mpr hn
  have hst : SortT (zs.map (tOf H)) := by
    have h1 : zs.Pairwise fun x y => Vabldo.textBefore (tOf H y) (tOf H x) = false := by
      refine List.Pairwise.imp_of_mem (fun {x y} hx hy h => ?_) hs
      obtain ⟨t, ht⟩ := hm x hx
      obtain ⟨u, hu⟩ := hm y hy
      have h : HT.lexLt (kOf H y) (kOf H x) = false := h
      rw [k_of ht, k_of hu, lex_tb] at h
      rw [t_of ht, t_of hu]
      exact h
    have h2 : (zs.map (tOf H)).Pairwise fun a b => Vabldo.textBefore b a = false := List.pairwise_map.mpr h1
    exact (h2.and hnd).imp fun {a b} h => tb_tot (fun z => h.2 z.symm) h.1
  have e2 : zs.map (tOf H) = Vabldo.inOrder ts := sortT_ext hst (inOrder_sort _) fun x => by rw [inOrder_mem, hp.mem_iff]
  rw [e2] at hz
  exact hz
abbrev sp_sources_below (K : PySem.W.Frag) : Sp := spR fun vs H Post => ∃ (a : Addr) (xs : List V) (l : Vabldo.Log) (b : Addr) (t : List Nat), vs = [.ref a, .ref b] ∧ H a = some (.lst xs) ∧ All2 (fun r v => RecAt K r v H) l.records xs ∧ Tx H b t ∧ LogOk l ∧ Sd l.records ∧ Post = NewT (Vabldo.rests l t) H
section
variable {α : Type} {w : World} {K : PySem.W.Frag} {mg : Str → Option Value} {base : Heap} {σ : L2.St} {H H' : Hp} {ta tb tc te tl td ty : TE} {v y z : V} {D : Ends} {tu tz : TS}
theorem tx_upd {t : List Nat} {v : V} {q : Addr} {o o' : HO} (h : IsTx t v H) (hq : H q = some o') (ho : ∀ vs, o' ≠ .tup vs) : IsTx t v (upd H q o) := by
  obtain ⟨c, rfl, hc⟩ := h
  refine ⟨c, rfl, ?_⟩
  show upd H q o c = _
  rw [upd_ne (ne_of hc hq fun z => ho _ z.symm)]
  exact hc
theorem file_updD {u : Vabldo.Used} {d : Addr} {kvs : List (List L2.Key × V)} {o : HO} (h : FileAt K u v H) (hd : H d = some (.dT kvs)) : FileAt K u v (upd H d o) := by
  obtain ⟨x, dx, s, e, hx, hs⟩ := h
  refine ⟨x, dx, s, e, ?_, ?_⟩
  · rw [upd_ne (ne_of hx hd (by intro z; cases z))]
    exact hx
  · show upd H d o s = _
    rw [upd_ne (ne_of hs hd (by intro z; cases z))]
    exact hs
theorem q_dput {d b : Addr} {kvs : List (List L2.Key × V)} {t : List Nat} (hv : Ev te σ H v) (h2 : Ev td σ H (.ref d)) (h1 : Ev ty σ H (.ref b)) (hb : Tx H b t) (hd : H d = some (.dT kvs)) (hz : kvs.length ≤ 1000000) (k : ∀ H1, Ex H H1 → tz D σ (upd H1 d (.dT (putK kvs (kt t) v)))) : tSeq (sDPut td ty te) tz D σ H := s_dput (D := { D with nx := tz D }) hv h2 h1 hb hd hz k
theorem ep_sorted {ts : List (List Nat)} {H0 : Hp} (h : EvP ta σ H (IsTs ts)) (hn : ts.Nodup) (hne : ∀ t ∈ ts, t ≠ []) (h0 : Ex H0 H) : EvP (tCB (rSortedX K) (tCons ta tNil)) σ H (NewT (Vabldo.inOrder ts) H0) := fun H1 e Q q => h H1 e _ fun v H2 e2 pv => by
  obtain ⟨a, ys, rfl, ha, hA⟩ := pv
  refine ⟨a, ys, kOf H2, rfl, sq_of ha, fun x hx => ?_, fun zs p hs hb hp => q _ _ (e2.trans (Ex.new hp)) ⟨p, zs, rfl, fresh_back ((h0.trans e).trans e2) hp, upd_same, (sorted_texts hA hn hs hb).mono mono_tx (Ex.new hp)⟩⟩
  obtain ⟨t, ht, r⟩ := all2_memR hA x hx
  have hk := k_of r
  obtain ⟨c, rfl, hc⟩ := r
  refine ⟨c, rfl, ?_, ?_⟩
  · rw [hk, toI_tv]
    exact hc
  · rw [hk]
    intro z
    exact hne t ht (List.map_eq_nil_iff.mp z)
theorem names_mem {rs : List Vabldo.Record} {r : Vabldo.Record} {u : Vabldo.Used} (hr : r ∈ rs) (hu : u ∈ r.ins) : u.file ∈ namesI rs := List.mem_flatMap.mpr ⟨r, hr, List.mem_map.mpr ⟨u, hu, rfl⟩⟩
theorem sc_sources_below : FnScope ["records", "name", "reached", "waiting", "maker", "file"] ["records", "name"] (defScope s_sources_below) := ⟨rfl, rfl, rfl, by decide +kernel, rfl, by decide +kernel, by decide +kernel⟩
theorem ok_sources_below (T : Txt w K mg) (H_find_maker : Has P0 w K mg base "find_maker" 1 ["records", "name"] (sp_find_maker K)) (H_sources_among : Has P0 w K mg base "sources_among" 2 ["records", "names"] (sp_sources_among K)) : Has P0 w K mg base "sources_below" 3 ["records", "name"] (sp_sources_below K) := by
  refine has_of T.f_sources_below T.g_sources_below sc_sources_below (fun _ _ _ _ _ _ us hl => match us, hl with | [_, _], _ => rfl) (fun vs H Q E h => by obtain ⟨_, ⟨a, xs, l, b, t, rfl, hx, hA, hb, hk, hS, rfl⟩, _⟩ := h; rfl) (fun cdv A outer s H vs Q E hr h => ⟨_, PSs.nox (pss_cons (ps_set (i := 2) sc_sources_below.nd rfl (Or.inl rfl) pe_dnewT) (pss_cons (ps_set (i := 3) sc_sources_below.nd rfl (Or.inl rfl) (pe_lst (pa_cons (pv 1) pa_nil))) (pss_cons (ps_while PassesOwn.never (pt_cmpR op_gt (pe_callB call_len_seq (by rfl) T.b_len PySem.boot_len (pa_cons (pv 3) pa_nil)) pe_int (nomark _)) (pss_cons (ps_set (i := 4) sc_sources_below.nd rfl (Or.inl rfl) (pe_h H_find_maker (by exact hr.mono (by decide)) (by rfl) (pa_cons (pv 0) (pa_cons (pe_bm0 PySem.F.plainAttrs_list PySem.F.slot_list_pop PySem.F.type_list_pop mt_pop (pv 3)) pa_nil)))) (pss_one (ps_if (pt_cmpR op_notN (pv 4) pe_non (nomark _)) (pss_one (ps_for PassesOwn.never rfl (pi_list (pe_fld (pv 4) rfl)) (pg_name (i := 5) sc_sources_below.nd rfl (Or.inl rfl)) (pss_one (ps_if (pt_cmp (pc_dnotin (by exact hu_of hr) (pe_fld (pv 5) rfl) (pv 2))) (pss_cons (ps_dput (by exact hu_of hr) (pv 2) (pe_fld (pv 5) rfl) pe_bl rfl) (pss_one (ps_expr (pe_bm PySem.F.plainAttrs_list PySem.F.slot_list_append PySem.F.type_list_append mt_append (pv 3) (pa_cons (pe_fld (pv 5) rfl) pa_nil))))) pss_nil)))) pss_nil)))) (pss_one (ps_ret (pe_callB cr_sortedX (by rfl) T.b_sorted (by decide +kernel) (pa_cons (pe_h H_sources_among (by exact hr.mono (by decide)) (by rfl) (pa_cons (pv 0) (pa_cons (pv 2) pa_nil))) pa_nil))))))), ?_⟩)
  obtain ⟨_, ⟨a, xs, l, b, t, rfl, hx, hA, hb, hk, hS, rfl⟩, k⟩ := h
  obtain ⟨_, hn32, hrok⟩ := hk.prt
  have hnI : (namesI l.records).length ≤ 256 := by
    have := sumT_le (fun r : Vabldo.Record => r.ins.map fun u => u.file) 8 l.records fun r hr => by rw [List.length_map]; exact (hrok r hr).i
    unfold namesI
    omega
  refine q_dnew fun d H1 hd e1 h1 => ?_
  refine q_asgL (el_lst (ea_cons (ev_var rfl) ea_nil) (show 1 ≤ 100000 by decide)) fun q H2 hq e2 h2 => ?_
  have hq0 : H q = none := fresh_back e1 hq
  have ndq : d ≠ q := fun z => by
    rw [← z, h1] at hq
    cases hq
  refine q_while (fun m σ' H' => ∃ (y z : Option V) (R W : List (List Nat)) (kvs : List (List L2.Key × V)) (ws : List V), σ' = [some (.ref a), some (.ref b), some (.ref d), some (.ref q), y, z] ∧ Ex H H' ∧ H' d = some (.dT kvs) ∧ Keys R kvs ∧ H' q = some (.lst ws) ∧ All2 (fun t v => IsTx t v H') W ws ∧ RW l (namesI l.records) t R W ∧ m = 2 * (256 - R.length) + W.length ∧ m ≤ 513) 513 ⟨_, _, [], [t], [], [.ref b], rfl, e1.trans e2, e2 _ _ h1, rfl, h2, .one ⟨b, rfl, hb.mono (e1.trans e2)⟩, rch_start _ _ _, rfl, Nat.le_refl _⟩ (fun m σ' H' hw => ?_)
  obtain ⟨y0, z0, R, W, kvs, ws, rfl, eH, hdk, hkk, hqw, hW, hRW, hm, hm5⟩ := hw
  have hwl := hW.len
  refine ⟨!W.isEmpty, et_eq (et_test (ev_gt (ev_lenLs (ev_var rfl) hqw) ev_c)) (len_pos _ _ hwl.symm), fun hbt H3 e3 => ?_, fun hbt H3 e3 => ?_⟩
  · -- one is popped
    obtain ⟨W0, g, rfl⟩ : ∃ W0 g, W = W0 ++ [g] := by
      rcases List.eq_nil_or_concat W with e | ⟨W0, g, e⟩
      · rw [e] at hbt
        cases hbt
      · exact ⟨W0, g, by rw [e, List.concat_eq_append]⟩
    rw [List.length_append, List.length_singleton] at hwl hm
    have hlast : ∃ xg, ws[ws.length - 1]? = some xg ∧ IsTx g xg H3 := by
      have e : (W0 ++ [g])[ws.length - 1]? = some g := by
        have : ws.length - 1 = W0.length := by omega
        rw [this]
        simp
      obtain ⟨xg, h1, h2⟩ := hW.getL e
      exact ⟨xg, h1, h2.mono e3⟩
    obtain ⟨xg, hxg, hgx⟩ := hlast
    have hW0 : All2 (fun t v => IsTx t v H3) W0 ws.dropLast := by
      have := (hW.mono mono_tx e3).take W0.length
      have e5 : ws.take W0.length = ws.dropLast := by
        rw [List.dropLast_eq_take]
        congr 1
        omega
      rw [List.take_left, e5] at this
      exact this
    obtain ⟨cg, rfl, hcg⟩ := hgx
    refine ⟨_, fun _ _ h => h, ?_⟩
    -- maker = find_maker(records, waiting.pop())
    have hq3 := e3 _ _ hqw
    have eH3 : Ex H H3 := eH.trans e3
    have eU : Ex H (upd H3 q (.lst ws.dropLast)) := Ex.mut eH3 hq0
    have hd4 : upd H3 q (.lst ws.dropLast) d = some (.dT kvs) := by rw [upd_ne ndq]; exact e3 _ _ hdk
    refine (show tSeq (tAsg (tCall (sp_find_maker K) [] E0 (tCons (tVar 0) (tCons (tBM0 K "list" rPop (tVar 3)) tNil))) (gName 4)) _ _ _ H3 from ?_)
    refine ⟨_, rfl, _, rfl, Or.inl ⟨rfl, ws, sq_of hq3⟩, q, ws, .ref cg, rfl, rfl, hq3, hxg, ?_⟩
    have hgU : Tx (upd H3 q (.lst ws.dropLast)) cg g := by
      show upd H3 q _ cg = _
      rw [upd_ne (ne_of hcg hq3 (by intro z; cases z))]
      exact hcg
    refine ⟨_, ⟨a, xs, l.records, cg, g, rfl, eU _ _ hx, hA.mono mono_rec eU, hgU, rec_le hk, rfl⟩, fun u H5 e5 hu => ?_⟩
    have eH5 : Ex H H5 := eU.trans e5
    have hW5 : All2 (fun t v => IsTx t v H5) W0 ws.dropLast := (hW0.imp fun t v h => tx_upd h hq3 (by intro vs z; cases z)).mono mono_tx e5
    have hwd : ws.dropLast.length = W0.length := by rw [List.length_dropLast]; omega
    refine s_when (b := !(makerIn l.records g).isNone) (et_eq (et_test (ev_notNv (ev_var rfl))) (by rw [opt_isN (fun _ _ _ h => rec_ref h.1) hu])) (fun hb2 H6 e6 => ?_) (fun hb2 H6 e6 => ?_)
    · cases hmk : makerIn l.records g with
      | none =>
        rw [hmk] at hb2
        cases hb2
      | some r =>
        rw [hmk] at hu
        have hmo : Vabldo.makerOf l g = some r := hmk
        have hins : insOf l g = r.ins.map fun u => u.file := by
          unfold insOf
          rw [hmo]
          rfl
        obtain ⟨hrr, _⟩ := maker_of_mem hmo
        have hm2 : ∀ m ∈ [d, q], H m = none := fun m hm => by
          rcases List.mem_cons.mp hm with z | z
          · rw [z]; exact hd
          · rw [List.mem_singleton.mp z]; exact hq0
        have eM6 : Ex H (minus H6 [d, q]) := ex_minus (eH5.trans e6) hm2
        have hRM : RecAt K r u (minus H6 [d, q]) := hu.2.at_ (hA.mono mono_rec eM6)
        have hd6 : H6 d = some (.dT kvs) := (e5.trans e6) _ _ hd4
        have hq6 : H6 q = some (.lst ws.dropLast) := (e5.trans e6) _ _ upd_same
        obtain ⟨p, dx, nm, tl, a1, a2, a3, xs1, xs2, xs3, rfl, hX⟩ := hRM
        refine s_forA (l := r.ins) (A := FileAt K) (it_list (M := [d, q]) (ev_fld (ev_var rfl) (minus_some hX.o).2 T.c_Record T.n_Record_inputs rfl) (minus_some hX.l2).2 hX.i mono_file (minus_some hX.l2).1) (fun pre σ' H7 => (∃ z, σ' = [some (.ref a), some (.ref b), some (.ref d), some (.ref q), some (.ref p), z]) ∧ ∃ R' W' kvs' ws', Ex H H7 ∧ H7 d = some (.dT kvs') ∧ Keys R' kvs' ∧ H7 q = some (.lst ws') ∧ All2 (fun t v => IsTx t v H7) W' ws' ∧ RI (namesI l.records) R W0 (pre.map fun u => u.file) R' W') (fun H7 e7 => ⟨⟨_, rfl⟩, R, W0, kvs, ws.dropLast, (eH5.trans e6).trans e7, e7 _ _ hd6, hkk, e7 _ _ hq6, hW5.mono mono_tx (e6.trans e7), ri_start hRW⟩) (fun H7 e7 pre uf post xu σ' H8 hl e8 hP hF => ?_) (fun σ' H7 e7 hP => ?_)
        · obtain ⟨⟨z1, rfl⟩, R', W', kvs', ws', eH8, hd8, hk8, hq8, hW8, hRI⟩ := hP
          obtain ⟨s, hs, hsn⟩ := file_name T hF
          have huf : uf ∈ r.ins := by rw [hl]; simp
          have hnm : uf.file ∈ namesI l.records := names_mem hrr huf
          have hkm := keys_mem hk8 uf.file
          have hkl := keys_len hk8
          have hRle := hRI.le
          have hms := hRI.ms
          have hwl8 := hW8.len
          refine s_when (b := !decide (uf.file ∈ R')) (et_eq (et_B (ev_dnotin (hsn (ev_var rfl)) hs (ev_var rfl) hd8)) ?_) (fun hb3 H9 e9 => ?_) (fun hb3 H9 e9 => ?_)
          · congr 1
            by_cases z : uf.file ∈ R'
            · rw [decide_eq_true z]
              exact hkm.mp z
            · rw [decide_eq_false z]
              cases zz : (valV kvs' (kt uf.file)).isSome with
              | false => rfl
              | true => exact absurd (hkm.mpr zz) z
          · have hnin : uf.file ∉ R' := by
              intro z
              rw [decide_eq_true z] at hb3
              cases hb3
            have hF9 := mono_file _ _ _ _ e9 hF
            obtain ⟨s, hs, hsn⟩ := file_name T hF9
            have hlen : (R' ++ [uf.file]).length ≤ 256 := by
              refine Nat.le_trans (len_sub (l2 := namesI l.records) ?_ ?_) hnI
              · rw [List.nodup_append]
                refine ⟨hRI.nd, by simp, fun x hx y hy e => ?_⟩
                rw [List.mem_singleton.mp hy] at e
                exact hnin (e ▸ hx)
              · intro x hx
                rcases List.mem_append.mp hx with hx | hx
                · exact hRI.sb x hx
                · rw [List.mem_singleton.mp hx]
                  exact hnm
            refine q_dput (v := .bl true) ev_c (ev_var rfl) (hsn (ev_var rfl)) hs (e9 _ _ hd8) (by omega) fun H10 e10 => ?_
            have hd10 := (e9.trans e10) _ _ hd8
            have hF11 : FileAt K uf xu (upd H10 d (.dT (putK kvs' (kt uf.file) (.bl true)))) := file_updD (mono_file _ _ _ _ e10 hF9) hd10
            obtain ⟨s2, hs2, hsn2⟩ := file_name T hF11
            have hq11 : upd H10 d (.dT (putK kvs' (kt uf.file) (.bl true))) q = some (.lst ws') := by
              rw [upd_ne ndq.symm]
              exact (e9.trans e10) _ _ hq8
            refine s_app' hq11 (ev_var rfl) (hsn2 (ev_var rfl)) (by omega) fun H12 e12 => ⟨?_, ⟨_, rfl⟩, R' ++ [uf.file], W' ++ [uf.file], putK kvs' (kt uf.file) (.bl true), ws' ++ [.ref s2], ?_, ?_, ?_, upd_same, ?_, ?_⟩
            · exact Ex.minusT e8 (Ex.minusT (Ex.m (e9.trans e10)) (Ex.minusT (H' := upd H10 d (.dT (putK kvs' (kt uf.file) (.bl true)))) (ex_mut (by simp)) (Ex.minusT (Ex.m e12) (ex_mut (by simp)))))
            · exact Ex.mut ((Ex.mut (eH8.trans (e9.trans e10)) hd).trans e12) hq0
            · rw [upd_ne ndq]
              exact e12 _ _ upd_same
            · have := keys_put hk8 uf.file (.bl true)
              unfold putT at this
              rw [if_neg hnin] at this
              exact this
            · have h1 : All2 (fun t v => IsTx t v (upd H10 d (.dT (putK kvs' (kt uf.file) (.bl true))))) W' ws' := (hW8.mono mono_tx (e9.trans e10)).imp fun t v h => tx_upd h hd10 (by intro vs z; cases z)
              have hq12 := e12 _ _ hq11
              exact ((h1.mono mono_tx e12).imp fun t v h => tx_upd h hq12 (by intro vs z; cases z)).app (.one (tx_upd ⟨s2, rfl, hs2.mono e12⟩ hq12 (by intro vs z; cases z)))
            · rw [List.map_append]
              exact ri_new hRI hnin hnm hlen
          · have hin : uf.file ∈ R' := by
              have : decide (uf.file ∈ R') = true := by simpa using hb3
              exact of_decide_eq_true this
            refine ⟨Ex.minusT e8 (Ex.m e9), ⟨_, rfl⟩, R', W', kvs', ws', eH8.trans e9, e9 _ _ hd8, hk8, e9 _ _ hq8, hW8.mono mono_tx e9, ?_⟩
            rw [List.map_append]
            exact ri_old hRI hin
        · obtain ⟨⟨z1, rfl⟩, R', W', kvs', ws', eH8, hd8, hk8, hq8, hW8, hRI⟩ := hP
          rw [← hins] at hRI
          have hms := hRI.ms
          exact ⟨_, by omega, _, _, R', W', kvs', ws', rfl, eH8, hd8, hk8, hq8, hW8, rch_step hRW hRI, rfl, by omega⟩
    · have hmo : Vabldo.makerOf l g = none := by
        cases hmk : makerIn l.records g with
        | none => exact hmk
        | some r =>
          rw [hmk] at hb2
          cases hb2
      have hins : insOf l g = [] := by
        unfold insOf
        rw [hmo]
        rfl
      have hRI : RI (namesI l.records) R W0 (insOf l g) R W0 := by rw [hins]; exact ri_start hRW
      exact ⟨2 * (256 - R.length) + W0.length, by omega, _, _, R, W0, kvs, ws.dropLast, rfl, eH5.trans e6, (e5.trans e6) _ _ hd4, hkk, (e5.trans e6) _ _ upd_same, hW5.mono mono_tx e6, rch_step hRW hRI, rfl, by omega⟩
  · have hW0 : W = [] := by
      cases W with
      | nil => rfl
      | cons x W => cases hbt
    subst hW0
    have hRc := rch_end hRW
    have hRle := hRW.le
    rw [rests_eq hS hn32 hRc] at k
    refine s_retP (ep_sorted (ts := R.filter fun g => (Vabldo.makerOf l g).isNone) (H0 := H) (ep_callW (ea_cons (ev_var rfl) (ea_cons (ev_var rfl) ea_nil)) fun H4 e4 => ⟨_, ⟨a, xs, l.records, d, kvs, R, rfl, ((eH.trans e3).trans e4) _ _ hx, hA.mono mono_rec ((eH.trans e3).trans e4), (e3.trans e4) _ _ hdk, hkk, by omega, rec_le hk, rfl⟩, fun v H5 _ hv => by
      obtain ⟨q', ys, h1, _, h2, h3⟩ := hv
      exact ⟨q', ys, h1, h2, h3⟩⟩) (hRW.nd.filter _) (fun x hx => ?_) (eH.trans e3)) fun v H4 e4 hv => k v H4 ((eH.trans e3).trans e4) hv
    obtain ⟨r, hr, hx⟩ := List.mem_flatMap.mp (hRW.sb x (List.mem_filter.mp hx).1)
    obtain ⟨u, hu, rfl⟩ := List.mem_map.mp hx
    exact name_ne ((hk.nm r hr).2.2.2.1 u hu)
end
end Bl

-- part W30
set_option Elab.async false
set_option linter.all false
set_option maxRecDepth 100000
set_option maxHeartbeats 4000000
namespace Bl
open PySem PySem.Spec PyProof.Rows L2 Evl
open LamX (ExtN Tabs TabB)
/-! ### the walks of ordering.py -/
def tabsOf (K : PySem.W.Frag) : List (Addr × Str) := [((He.cT K ("sorted_records", none)).2, (("sorted_records" : Str) ++ ".<locals>.") ++ "<lambda>")]
def makersI (rs : List Vabldo.Record) (r : Vabldo.Record) : List (List Nat) := (r.ins.filterMap fun u => makerIn rs u.file).map fun m => m.name
def readyB (rs : List Vabldo.Record) (ns : List (List Nat)) (r : Vabldo.Record) : Bool := (makersI rs r).all fun n => decide (n ∈ ns)
theorem ready_P (l : Vabldo.Log) (ns : List (List Nat)) (r : Vabldo.Record) : readyB l.records ns r = readyP l ns r := by
  unfold readyB makersI readyP
  rw [List.all_map]
  have key : ∀ us : List Vabldo.Used, ((us.filterMap fun u => makerIn l.records u.file).all ((fun n => decide (n ∈ ns)) ∘ fun m => m.name)) = us.all fun u => match Vabldo.makerOf l u.file with
    | none => true
    | some m => decide (m.name ∈ ns) := by
    intro us
    induction us with
    | nil => rfl
    | cons u us ih =>
      cases q : makerIn l.records u.file with
      | none =>
        have q' : Vabldo.makerOf l u.file = none := q
        rw [List.filterMap_cons_none (f := fun u : Vabldo.Used => makerIn l.records u.file) q, ih, List.all_cons, q']
        rfl
      | some m =>
        have q' : Vabldo.makerOf l u.file = some m := q
        rw [List.filterMap_cons_some (f := fun u : Vabldo.Used => makerIn l.records u.file) q, List.all_cons, List.all_cons, ih, q']
        rfl
  exact key r.ins
abbrev sp_makers_of_inputs (K : PySem.W.Frag) : Sp := spR fun vs H Post => ∃ (a : Addr) (xs : List V) (rs : List Vabldo.Record) (x : V) (r : Vabldo.Record), vs = [.ref a, x] ∧ H a = some (.lst xs) ∧ All2 (fun r v => RecAt K r v H) rs xs ∧ RecAt K r x H ∧ (∀ r ∈ rs, rcN r ≤ 1000) ∧ rcN r ≤ 1000 ∧ Post = NewT (makersI rs r) H
abbrev sp_is_ready (K : PySem.W.Frag) : Sp := spR fun vs H Post => ∃ (a : Addr) (xs : List V) (rs : List Vabldo.Record) (x : V) (r : Vabldo.Record) (d : Addr) (kvs : List (List L2.Key × V)) (ns : List (List Nat)), vs = [.ref a, x, .ref d] ∧ H a = some (.lst xs) ∧ All2 (fun r v => RecAt K r v H) rs xs ∧ RecAt K r x H ∧ (∀ r ∈ rs, rcN r ≤ 1000) ∧ rcN r ≤ 1000 ∧ H d = some (.dT kvs) ∧ Keys ns kvs ∧ Post = fun v _ => v = .bl (readyB rs ns r)
section
variable {α : Type} {w : World} {K : PySem.W.Frag} {mg : Str → Option Value} {base : Heap} {σ : L2.St} {H H' : Hp} {ta tb tc te tl td ty : TE} {v y z : V} {D : Ends} {tu tz : TS}
theorem has_ofC {x : Str} {st : Stmt} {k : Nat} {N ps : List Str} {sp : Sp} (hf : ∃ fd, FnP K x st (He.ga K x) fd) (hg : mg x = some (.ref (He.ga K x))) (S : FnScope N ps (defScope st))
    (hb : ∀ (kV doc pm : Value) (an : Option Addr) (cdv ct : Value) (us : List Value), us.length = ps.length → bindArgs (PySem.W.fnOf x x (defArgs st) (defBody st) (defScope st) .none kV doc pm an cdv ct) ⟨us, []⟩ = pure (ps.zip us))
    (len : ∀ vs H Q E, sp vs H Q E → vs.length = ps.length)
    (body : ∀ (cdv : Value), cdv = .ref (He.cT K (x, none)).1 → ∀ (A : Around) (outer : List Env) (s : Shared) (H : Hp) (vs : List V) (Q : VK) (E : XK), Room k (A.deeper (envOfC x (defScope st) s.heap.objs.size (He.ga K x) cdv)) → sp vs H Q E →
      ∃ t, PSs (cxOf CX0 P0 w K mg base N x (defScope st) (He.ga K x) cdv A outer s H E) (defBody st) t ∧ t { nx := fun _ H' => Q .non H', rt := Q } (L2.start N vs) H) : Has P0 w K mg base x (k + 1) ps sp := by
  obtain ⟨fd, F⟩ := hf
  refine ⟨⟨fd, ?_, F.bindsN hb⟩, F.kp, hg⟩
  obtain ⟨oc, od, dV, kV, doc, pm, an, cdv, ct, osl, rfl, lk, hcd, _, _⟩ := F.ex
  obtain ⟨c, rfl⟩ := He.codeIn_ref hcd
  have e : He.codeOf K (x, none) = c := He.codeOf_eq (p := (x, none)) lk rfl
  exact fn_of lk hcd S len fun A outer s H vs Q E hr hsp => body (.ref c) (by show Value.ref c = .ref (He.codeOf K (x, none)); rw [e]) A outer s H vs Q E hr hsp
theorem opt_in {rs : List Vabldo.Record} {xs : List V} {o : Option Vabldo.Record} (h : OptAt (fun r v H' => RecAt K r v H' ∧ InL rs xs r v H') o v H) : OptAt (InL rs xs) o v H := by
  cases o with
  | none => exact h
  | some a => exact (And.right h)
theorem sc_makers_of_inputs : FnScope ["records", "record", "makers", "file", "maker"] ["records", "record"] (defScope s_makers_of_inputs) := ⟨rfl, rfl, rfl, by decide +kernel, rfl, by decide +kernel, by decide +kernel⟩
theorem ok_makers_of_inputs (T : Txt w K mg) (H_find_maker : Has P0 w K mg base "find_maker" 1 ["records", "name"] (sp_find_maker K)) : Has P0 w K mg base "makers_of_inputs" 2 ["records", "record"] (sp_makers_of_inputs K) := by
  refine has_of T.f_makers_of_inputs T.g_makers_of_inputs sc_makers_of_inputs (fun _ _ _ _ _ _ us hl => match us, hl with | [_, _], _ => rfl) (fun vs H Q E h => by obtain ⟨_, ⟨a, xs, rs, x, r, rfl, hx, hA, hR, hz, hz2, rfl⟩, _⟩ := h; rfl) (fun cdv A outer s H vs Q E hr h => ⟨_, PSs.nox (pss_cons (ps_setLc (i := 2) (own := [("file", 3)]) (g := gName 3) (te := (tCall _ [] E0 (tCons (tVar 0) (tCons (tFld K (tVar 3) "name") tNil)))) rfl sc_makers_of_inputs.nd rfl rfl (sw_true rfl rfl rfl (by decide +kernel)) (pi_list (pe_fld (pv 1) rfl)) (blkOk_by (own := [("file", 3)]) (N := ["records", "record", "makers", "file", "maker"]) (sc := defScope s_makers_of_inputs) (by decide +kernel)) (fun _ _ _ _ _ => pg_name (i := 3) sc_makers_of_inputs.nd rfl (Or.inl rfl)) (fun _ _ _ _ _ => pts_nil) (fun _ _ _ _ _ => (pe_h H_find_maker (by exact hr.mono (by decide)) (by rfl) (pa_cons (pv 0) (pa_cons (pe_fld (pv 3) rfl) pa_nil))))) (pss_one (ps_ret (pe_lc (own := [("maker", 4)]) (g := gName 4) (te := (tFld K (tVar 4) "name")) (tt := (tTest (tOp _ (tVar 4) _))) rfl sc_makers_of_inputs.nd (pi_list (pv 2)) (blkOk_by (own := [("maker", 4)]) (N := ["records", "record", "makers", "file", "maker"]) (sc := defScope s_makers_of_inputs) (by decide +kernel)) (fun _ _ _ _ _ => pg_name (i := 4) sc_makers_of_inputs.nd rfl (Or.inl rfl)) (fun _ _ _ _ _ => (pts_one (pt_cmpR op_notN (pv 4) pe_non (nomark _)))) (fun _ _ _ _ _ => (pe_fld (pv 4) rfl)))))), ?_⟩)
  obtain ⟨_, ⟨a, xs, rs, x, r, rfl, hx, hA, hR, hz, hz2, rfl⟩, k⟩ := h
  have hRt := hR
  obtain ⟨p, dx, nm, tl, a1, a2, a3, xs1, xs2, xs3, rfl, hX⟩ := hR
  unfold rcN at hz2
  refine q_asgM (em_comp2 (l := r.ins) (A := FileAt K) (fun _ => true) (fun u v G => OptAt (InL rs xs) (makerIn rs u.file) v G) (fun u x G G' e h => mono_opt mono_in _ _ _ _ e h) (it_list (M := []) (ev_fld (ev_var rfl) hX.o T.c_Record T.n_Record_inputs rfl) hX.l2 (by rw [minus_nil]; exact hX.i) mono_file (by simp)) (by omega) (fun _ => rfl) (fun u x H1 _ _ _ => et_yes) (fun u x H1 Dl zs hu e1 hF _ hD0 hD => ?_)) fun q zs H1 hq e1 h1 hZ => ?_
  · obtain ⟨s, hs, hsn⟩ := file_name T hF
    exact ep_callW (ea_cons (ev_var rfl) (ea_cons (hsn (ev_var rfl)) ea_nil)) fun H2 e2 => ⟨_, ⟨a, xs, rs, s, u.file, rfl, (e1.trans e2) _ _ hx, hA.mono mono_rec (e1.trans e2), hs.mono e2, hz, rfl⟩, fun v H3 _ hv => mono_opt (A := InL rs xs) (fun _ _ _ _ _ h => h) _ _ _ _ (Ex.refl _) (by
      have := opt_in hv
      cases ho : makerIn rs u.file with
      | none => rw [ho] at this; exact this
      | some m => rw [ho] at this; exact this)⟩
  · rw [filter_yes] at hZ
    have hZ1 : All2 (fun o v => OptAt (InL rs xs) o v H1) (r.ins.map fun u => makerIn rs u.file) zs := all2_map (hZ.imp fun u v h => by
      cases ho : makerIn rs u.file with
      | none => rw [ho] at h; exact h
      | some m => rw [ho] at h; exact h)
    refine em_comp (β := Unit) (l := r.ins.map fun u => makerIn rs u.file) (A := fun o x _ => OptAt (InL rs xs) o x H1) (fun o => o.isSome) (fun o v G => ∃ m, o = some m ∧ IsTx m.name v G) (fun o v G G' e h => by
      obtain ⟨m, h1, h2⟩ := h
      exact ⟨m, h1, h2.mono e⟩) (it_list (M := []) (ev_var rfl) h1 hZ1 (fun _ _ _ _ _ h => h) (by simp)) (by rw [List.length_map]; omega) (fun _ => rfl) (fun o v G D ws h hD => by
      obtain ⟨m, h1, h2⟩ := h
      exact ⟨m, h1, tx_minus h2 hD⟩) (fun o x H2 _ e2 ho => ?_) (fun o x H2 _ e2 ho hp => ?_) _ (Ex.refl _) _ fun q2 zs2 H2 hq2 e2 h2 hZ2 => k _ H2 (e1.trans e2) ⟨q2, zs2, rfl, fresh_back e1 hq2, h2, ?_⟩
    · refine et_eq (et_test (ev_notNv (ev_var rfl))) ?_
      rw [opt_isN (fun d v H h => h.1) ho]
      cases o <;> rfl
    · cases o with
      | none => cases hp
      | some m =>
        have hm : RecAt K m x H2 := InL.at_ (A := RecAt K) (H := H1) ho (hA.mono mono_rec (e1.trans e2))
        obtain ⟨s, hs, hsn⟩ := rname T hm
        exact EvP.imp (ev_tx (hsn (ev_var rfl)) hs) fun v H3 _ hv => ⟨m, rfl, hv⟩
    · unfold makersI
      have key : ∀ {os : List (Option Vabldo.Record)} {ys : List V}, All2 (fun o v => ∃ m, o = some m ∧ IsTx m.name v H2) (os.filter fun o => o.isSome) ys → All2 (fun t v => IsTx t v H2) ((os.filterMap id).map fun m => m.name) ys := by
        intro os
        induction os with
        | nil =>
          intro ys h
          cases h
          exact .nil
        | cons o os ih =>
          intro ys h
          cases o with
          | none => exact ih h
          | some m =>
            have h' : All2 (fun o v => ∃ m, o = some m ∧ IsTx m.name v H2) (some m :: os.filter fun o => o.isSome) ys := h
            cases h' with
            | cons h1 h2 =>
              obtain ⟨m', e, hm⟩ := h1
              cases e
              exact .cons hm (ih h2)
      have := key hZ2
      rw [List.filterMap_map] at this
      exact this
theorem sc_is_ready : FnScope ["records", "record", "standing", "name"] ["records", "record", "standing"] (defScope s_is_ready) := ⟨rfl, rfl, rfl, by decide +kernel, rfl, by decide +kernel, by decide +kernel⟩
theorem ok_is_ready (T : Txt w K mg) (H_makers_of_inputs : Has P0 w K mg base "makers_of_inputs" 2 ["records", "record"] (sp_makers_of_inputs K)) : Has P0 w K mg base "is_ready" 3 ["records", "record", "standing"] (sp_is_ready K) := by
  refine has_of T.f_is_ready T.g_is_ready sc_is_ready (fun _ _ _ _ _ _ us hl => match us, hl with | [_, _, _], _ => rfl) (fun vs H Q E h => by obtain ⟨_, ⟨a, xs, rs, x, r, d, kvs, ns, rfl, hx, hA, hR, hz, hz2, hd, hk, rfl⟩, _⟩ := h; rfl) (fun cdv A outer s H vs Q E hr h => ⟨_, PSs.nox (pss_one (ps_ret (pe_callB (cr_all rfl) (by rfl) T.b_all (by decide +kernel) (pa_cons (pe_lc (own := [("name", 3)]) (g := gName 3) (te := (tDIn (tVar 3) (tVar 2))) rfl sc_is_ready.nd (pi_list (pe_h H_makers_of_inputs (by exact hr.mono (by decide)) (by rfl) (pa_cons (pv 0) (pa_cons (pv 1) pa_nil)))) (blkOk_by (own := [("name", 3)]) (N := ["records", "record", "standing", "name"]) (sc := defScope s_is_ready) (by decide +kernel)) (fun _ _ _ _ _ => pg_name (i := 3) sc_is_ready.nd rfl (Or.inl rfl)) (fun _ _ _ _ _ => pts_nil) (fun _ _ _ _ _ => (pe_cmp (pc_din (by exact hu_of hr) (pv 3) (pv 2))))) pa_nil)))), ?_⟩)
  obtain ⟨_, ⟨a, xs, rs, x, r, d, kvs, ns, rfl, hx, hA, hR, hz, hz2, hd, hk, rfl⟩, k⟩ := h
  have hlen : (makersI rs r).length ≤ 1000 := by
    unfold makersI
    rw [List.length_map]
    have := List.length_filterMap_le (fun u : Vabldo.Used => makerIn rs u.file) r.ins
    unfold rcN at hz2
    omega
  refine s_ret (v := .bl (readyB rs ns r)) (ev_isS (ev_all (bs := (makersI rs r).map fun n => decide (n ∈ ns)) ?_) ?_) fun H1 e1 => k _ H1 e1 rfl
  · rw [List.map_map]
    refine el_map (l := makersI rs r) (A := fun t v H => IsTx t v H) (V.bl ∘ fun n => decide (n ∈ ns)) (it_new (fun H1 e1 Q q => ?_) mono_tx (by simp)) (by omega) (fun _ => rfl) fun t x H1 _ e1 ht => ?_
    · refine ep_callW (Post := NewT (makersI rs r) H1) (ea_cons (ev_var rfl) (ea_cons (ev_var rfl) ea_nil)) (fun H2 e2 => ⟨_, ⟨a, xs, rs, x, r, rfl, (e1.trans e2) _ _ hx, hA.mono mono_rec (e1.trans e2), mono_rec _ _ _ _ (e1.trans e2) hR, hz, hz2, rfl⟩, fun v H3 _ hv => NewL.back hv e2⟩) H1 (Ex.refl H1) _ fun v H2 e2 hv => ?_
      obtain ⟨p, ys, rfl, h1, h2, h3⟩ := hv
      exact q p ys H2 h1 e2 h2 (by rw [minus_nil]; exact h3)
    · obtain ⟨s, rfl, hs⟩ := ht
      have hkm := keys_mem hk t
      refine ev_isS (ev_din (ev_var rfl) hs (ev_var rfl) (e1 _ _ hd)) ?_
      show (valV kvs (kt t)).isSome = decide (t ∈ ns)
      by_cases z : t ∈ ns
      · rw [decide_eq_true z]
        exact hkm.mp z
      · rw [decide_eq_false z]
        cases zz : (valV kvs (kt t)).isSome with
        | false => rfl
        | true => exact absurd (hkm.mpr zz) z
  · rw [all_id]
    rfl
end
end Bl

-- part W31
set_option Elab.async false
set_option linter.all false
set_option maxRecDepth 100000
set_option maxHeartbeats 4000000
namespace Bl
open PySem PySem.Spec PyProof.Rows L2 Evl
open LamX (ExtN Tabs TabB)
/-! ### tables of code objects -/
/-- the heap without its tables -/
def noT (H : Hp) : Hp := fun a => match H a with
  | some (.tbl _) => none
  | o => o
theorem noT_get {H : Hp} {a : Addr} {o : HO} (h : H a = some o) (n : ∀ ps, o ≠ .tbl ps) : noT H a = some o := by
  unfold noT
  rw [h]
  cases o <;> first | rfl | exact absurd rfl (n _)
theorem noT_some {H : Hp} {a : Addr} {o : HO} (h : noT H a = some o) : H a = some o ∧ ∀ ps, o ≠ .tbl ps := by
  unfold noT at h
  cases q : H a with
  | none =>
    rw [q] at h
    cases h
  | some u =>
    rw [q] at h
    cases u <;> first | (cases h; exact ⟨rfl, fun ps z => nomatch z⟩) | cases h
theorem extN_ex {H H' : Hp} (e : ExtN H H') : Ex (noT H) H' := fun a o h => e a o (noT_some h).1 (noT_some h).2
theorem exN {H H' : Hp} (e : Ex H H') : ExtN H H' := fun a o h _ => e a o h
theorem extN_mut {H H' : Hp} {p : Addr} {o : HO} (e : ExtN H H') (h : H p = none) : ExtN H (upd H' p o) := fun a u ha n => by
  have : a ≠ p := fun z => by rw [z, h] at ha; cases ha
  rw [upd_ne this]
  exact e a u ha n
theorem freshN {H H' : Hp} {p : Addr} (e : ExtN H H') (h : H' p = none) : H p = none ∨ ∃ ps, H p = some (.tbl ps) := by
  cases q : H p with
  | none => exact Or.inl rfl
  | some o =>
    cases o with
    | tbl ps => exact Or.inr ⟨ps, rfl⟩
    | _ =>
      rw [e p _ q (fun ps z => nomatch z)] at h
      cases h
section
variable {K : PySem.W.Frag} {H H' : Hp} {v : V}
theorem tx_noT {t : List Nat} (h : IsTx t v H) : IsTx t v (noT H) := by
  obtain ⟨a, e, ha⟩ := h
  exact ⟨a, e, noT_get ha (fun ps z => nomatch z)⟩
theorem file_noT {u : Vabldo.Used} (h : FileAt K u v H) : FileAt K u v (noT H) := by
  obtain ⟨x, dx, s, e, hx, hs⟩ := h
  exact ⟨x, dx, s, e, noT_get hx (fun ps z => nomatch z), noT_get hs (fun ps z => nomatch z)⟩
theorem rec_noT {r : Vabldo.Record} (h : RecAt K r v H) : RecAt K r v (noT H) := by
  obtain ⟨p, dx, nm, tl, a1, a2, a3, xs1, xs2, xs3, e, hX⟩ := h
  exact ⟨p, dx, nm, tl, a1, a2, a3, xs1, xs2, xs3, e, noT_get hX.o (fun ps z => nomatch z), noT_get hX.l1 (fun ps z => nomatch z), noT_get hX.l2 (fun ps z => nomatch z), noT_get hX.l3 (fun ps z => nomatch z), noT_get hX.nm (fun ps z => nomatch z), noT_get hX.tl (fun ps z => nomatch z), hX.ar.imp fun _ _ h => tx_noT h, hX.i.imp fun _ _ h => file_noT h, hX.ou.imp fun _ _ h => file_noT h⟩
theorem recs_ext {rs : List Vabldo.Record} {xs : List V} (h : All2 (fun r v => RecAt K r v H) rs xs) (e : ExtN H H') : All2 (fun r v => RecAt K r v H') rs xs := (h.imp fun _ _ h => rec_noT h).mono mono_rec (extN_ex e)
theorem log_noT {l : Vabldo.Log} (h : LogAt K l v H) : LogAt K l v (noT H) := by
  obtain ⟨x, dx, rl, rs, e, hx, hr, hA⟩ := h
  exact ⟨x, dx, rl, rs, e, noT_get hx (fun ps z => nomatch z), noT_get hr (fun ps z => nomatch z), hA.imp fun _ _ h => rec_noT h⟩
theorem log_ext {l : Vabldo.Log} (h : LogAt K l v H) (e : ExtN H H') : LogAt K l v H' := mono_log _ _ _ _ (extN_ex e) (log_noT h)
end
/-- what a record's name is, as ints -/
def kRec (H : Hp) : V → List Int
  | .ref p => (match H p with
    | some (.ins _ _ fs) => (match fs.lookup ("name" : Str) with
      | some v => kOf H v
      | none => [])
    | _ => [])
  | _ => []
theorem k_rec {K : PySem.W.Frag} {r : Vabldo.Record} {v : V} {H : Hp} (h : RecAt K r v H) : kRec H v = toI r.name ∧ ∃ p dx fs t, v = .ref p ∧ H p = some (.ins (He.ga K "Record") dx fs) ∧ fs.lookup ("name" : Str) = some (V.ref t) ∧ H t = some (.tup ((kRec H v).map V.int)) := by
  obtain ⟨p, dx, nm, tl, a1, a2, a3, xs1, xs2, xs3, rfl, hX⟩ := h
  have ho := hX.o
  have e : kRec H (.ref p) = toI r.name := by
    show (match H p with
    | some (.ins _ _ fs) => (match fs.lookup ("name" : Str) with
      | some v => kOf H v
      | none => [])
    | _ => []) = _
    rw [ho]
    show kOf H (.ref nm) = _
    exact k_of ⟨nm, rfl, hX.nm⟩
  refine ⟨e, p, dx, _, nm, rfl, ho, rfl, ?_⟩
  rw [e, toI_tv]
  exact hX.nm
abbrev sp_sorted_records (K : PySem.W.Frag) : Sp := fun vs H Q _ => ∃ (a : Addr) (xs : List V) (l : Vabldo.Log), vs = [.ref a] ∧ H a = some (.lst xs) ∧ All2 (fun r v => RecAt K r v H) l.records xs ∧ LogOk l ∧ Sd l.records ∧ Tabs (tabsOf K) H ∧ ∀ v H', ExtN H H' → Tabs (tabsOf K) H' → NewL (RecAt K) (Vabldo.sortedLog l).records H v H' → Q v H'
section
variable {α : Type} {w : World} {K : PySem.W.Frag} {mg : Str → Option Value} {base : Heap} {σ : L2.St} {H H' : Hp} {ta tb tc te tl td ty : TE} {v y z : V} {D : Ends} {tu tz : TS}
theorem tabs_mut {T : List (Addr × Str)} {q : Addr} {o o' : HO} (h : Tabs T H) (hq : H q = some o') (h1 : ∀ ps, o' ≠ .tbl ps) (h2 : ∀ c s, o' ≠ LamX.CodeO c s) : Tabs T (upd H q o) := fun p hp => by
  obtain ⟨ps, e1, e2, e3⟩ := h p hp
  refine ⟨ps, ?_, e2, fun pos cv hc => ?_⟩
  · rw [upd_ne (fun z => by rw [z, hq] at e1; exact h1 ps (Option.some.inj e1))]
    exact e1
  · obtain ⟨c, z1, z2⟩ := e3 pos cv hc
    refine ⟨c, z1, ?_⟩
    rw [upd_ne (fun z => by rw [z, hq] at z2; exact h2 _ _ (Option.some.inj z2))]
    exact z2
theorem code_lst (xs : List V) (c : Addr) (s : Str) : HO.lst xs ≠ LamX.CodeO c s := fun z => by
  unfold LamX.CodeO at z
  cases z
theorem code_dT (kvs : List (List L2.Key × V)) (c : Addr) (s : Str) : HO.dT kvs ≠ LamX.CodeO c s := fun z => by
  unfold LamX.CodeO at z
  cases z
theorem in_all {rs ls : List Vabldo.Record} {xs ys : List V} {G H : Hp} (h : All2 (fun r v => InL rs xs r v H) ls ys) (hA : All2 (fun r v => RecAt K r v G) rs xs) : All2 (fun r v => RecAt K r v G) ls ys := h.imp fun _ _ h => InL.at_ (A := RecAt K) h hA
theorem all2_mR {β : Type} {R : α → β → Prop} {as : List α} {bs : List β} (h : All2 R as bs) : ∀ b ∈ bs, ∃ a ∈ as, R a b := by
  induction h with
  | nil => intro y hy; cases hy
  | cons h1 _ ih =>
    intro y hy
    rcases List.mem_cons.mp hy with rfl | hy
    · exact ⟨_, List.mem_cons_self .., h1⟩
    · obtain ⟨t, ht, r⟩ := ih y hy
      exact ⟨t, List.mem_cons_of_mem _ ht, r⟩
theorem all2_mL {β : Type} {R : α → β → Prop} {as : List α} {bs : List β} (h : All2 R as bs) : ∀ a ∈ as, ∃ b ∈ bs, R a b := by
  induction h with
  | nil => intro y hy; cases hy
  | cons h1 _ ih =>
    intro y hy
    rcases List.mem_cons.mp hy with rfl | hy
    · exact ⟨_, List.mem_cons_self .., h1⟩
    · obtain ⟨t, ht, r⟩ := ih y hy
      exact ⟨t, List.mem_cons_of_mem _ ht, r⟩
theorem q_asgC {i : Nat} {l : List α} {B : α → V → Hp → Prop} (h : ∀ H0, Ex H H0 → ∀ Q : VK, (∀ q ys H2, H0 q = none → Ex H0 H2 → H2 q = some (.lst ys) → All2 (fun a v => B a v H2) l ys → Q (.ref q) H2) → te σ H0 Q) (k : ∀ q ys H1, H q = none → Ex H H1 → H1 q = some (.lst ys) → All2 (fun a v => B a v H1) l ys → tz D (σ.set i (some (.ref q))) H1) : tSeq (tAsg te (gName i)) tz D σ H := h H (Ex.refl H) _ k
theorem sc_sorted_records : FnScope ["records", "placed", "standing", "waiting", "ready", "smallest", "record"] ["records"] (defScope s_sorted_records) := ⟨rfl, rfl, rfl, by decide +kernel, rfl, by decide +kernel, by decide +kernel⟩
theorem ok_sorted_records (T : Txt w K mg) (TB : LamX.TabB base mg (He.cT K ("sorted_records", none)).1 (He.cT K ("sorted_records", none)).2) (H_is_ready : Has P0 w K mg base "is_ready" 3 ["records", "record", "standing"] (sp_is_ready K)) : Has P0 w K mg base "sorted_records" 4 ["records"] (sp_sorted_records K) := by
  refine has_ofC T.f_sorted_records T.g_sorted_records sc_sorted_records (fun _ _ _ _ _ _ us hl => match us, hl with | [_], _ => rfl) (fun vs H Q E h => by obtain ⟨a, xs, l, rfl, hx, hA, hk, hS, hT, k⟩ := h; rfl) (fun cdv hcd A outer s H vs Q E hr h => ⟨_, PSs.nox (pss_cons (ps_set (i := 1) sc_sorted_records.nd rfl (Or.inl rfl) (pe_lst pa_nil)) (pss_cons (ps_set (i := 2) sc_sorted_records.nd rfl (Or.inr rfl) pe_dnewT) (pss_cons (ps_while PassesOwn.never (pt_cmpR op_lt (pe_callB call_len_seq (by rfl) T.b_len PySem.boot_len (pa_cons (pv 1) pa_nil)) (pe_callB call_len_seq (by rfl) T.b_len PySem.boot_len (pa_cons (pv 0) pa_nil)) (nomark _)) (pss_cons (ps_setLc (i := 3) (own := [("record", 6)]) (g := gName 6) (te := (tVar 6)) (tt := (tB (tDNotIn (tFld K (tVar 6) "name") (tVar 2)))) rfl sc_sorted_records.nd rfl rfl (sw_true rfl rfl rfl (by decide +kernel)) (pi_list (pv 0)) (blkOk_by (own := [("record", 6)]) (N := ["records", "placed", "standing", "waiting", "ready", "smallest", "record"]) (sc := defScope s_sorted_records) (by decide +kernel)) (fun _ _ _ _ _ => pg_name (i := 6) sc_sorted_records.nd rfl (Or.inl rfl)) (fun _ _ _ _ _ => (pts_one (pt_cmp (pc_dnotin (by exact hu_of hr) (pe_fld (pv 6) rfl) (pv 2))))) (fun _ _ _ _ _ => (pv 6))) (pss_cons (ps_setLc (i := 4) (own := [("record", 6)]) (g := gName 6) (te := (tVar 6)) (tt := (tB (tCall _ [] E0 (tCons (tVar 0) (tCons (tVar 6) (tCons (tVar 2) tNil)))))) rfl sc_sorted_records.nd rfl rfl (sw_true rfl rfl rfl (by decide +kernel)) (pi_list (pv 3)) (blkOk_by (own := [("record", 6)]) (N := ["records", "placed", "standing", "waiting", "ready", "smallest", "record"]) (sc := defScope s_sorted_records) (by decide +kernel)) (fun _ _ _ _ _ => pg_name (i := 6) sc_sorted_records.nd rfl (Or.inl rfl)) (fun _ _ _ _ _ => (pts_one (pt_val (pe_h H_is_ready (by exact hr.mono (by decide)) (by rfl) (pa_cons (pv 0) (pa_cons (pv 6) (pa_cons (pv 2) pa_nil))))))) (fun _ _ _ _ _ => (pv 6))) (pss_cons (ps_set (i := 5) sc_sorted_records.nd rfl (Or.inl rfl) (pe_minL (k := 0) (C := He.ga K "Record") (T := tabsOf K) rfl (by rfl) T.b_min TB hcd (List.mem_singleton.mpr rfl) (fun p hp _ => by rw [List.mem_singleton.mp hp]; rfl) (by exact hr.mono (by decide)) ⟨rfl, rfl, rfl, by decide +kernel, rfl, by decide +kernel, by decide +kernel⟩ rfl rfl (fun _ _ _ _ _ => rfl) (fun _ _ => rfl) rfl T.c_Record T.n_Record_name (pa_cons (pv 4) pa_nil))) (pss_cons (ps_expr (pe_bm PySem.F.plainAttrs_list PySem.F.slot_list_append PySem.F.type_list_append mt_append (pv 1) (pa_cons (pv 5) pa_nil))) (pss_one (ps_dput (by exact hu_of hr) (pv 2) (pe_fld (pv 5) rfl) pe_bl rfl))))))) (pss_one (ps_ret (pv 1)))))), ?_⟩)
  obtain ⟨a, xs, l, rfl, hx, hA, hk, hS, hT, k⟩ := h
  obtain ⟨_, hn32, hrok⟩ := hk.prt
  refine q_asgL (el_lst ea_nil (by decide)) fun p H1 hp e1 h1 => ?_
  refine q_dnew fun d H2 hd e2 h2 => ?_
  have hd0 : H d = none := fresh_back e1 hd
  have npd : p ≠ d := fun z => by
    rw [← z, h1] at hd
    cases hd
  refine q_while (fun m σ' H' => ∃ (s1 s2 s3 s4 : Option V) (dn : List Vabldo.Record) (ps : List V) (kvs : List (List L2.Key × V)), σ' = [some (.ref a), some (.ref p), some (.ref d), s1, s2, s3, s4] ∧ ExtN H H' ∧ Tabs (tabsOf K) H' ∧ H' p = some (.lst ps) ∧ All2 (fun r v => InL l.records xs r v H) dn ps ∧ H' d = some (.dT kvs) ∧ Keys (dn.map fun r => r.name) kvs ∧ Arr l dn ∧ m = l.records.length - dn.length) l.records.length ⟨_, _, _, _, [], [], [], rfl, exN (e1.trans e2), hT.ext (e1.trans e2), e2 _ _ h1, .nil, h2, rfl, arr_nil l, rfl⟩ (fun m σ' H' hw => ?_)
  obtain ⟨s1, s2, s3, s4, dn, ps, kvs, rfl, eN, hT', hp', hI, hd', hkk, hAr, rfl⟩ := hw
  have hpl := hI.len
  have hxl := hA.len
  have hA' := recs_ext hA eN
  have hx' : H' a = some (.lst xs) := eN _ _ hx (fun ps z => nomatch z)
  refine ⟨decide (dn.length < l.records.length), et_eq (et_test (ev_lt (ev_lenLs (ev_var rfl) hp') (ev_lenLs (ev_var rfl) hx'))) (by rw [← hpl, ← hxl]; exact dec_lt _ _), fun hb H3 e3 => ?_, fun hb H3 e3 => ?_⟩
  · have hlt := of_decide_eq_true hb
    refine ⟨_, fun _ _ h => h, ?_⟩
    have hA3 := hA'.mono mono_rec e3
    have hAI : All2 (fun r v => RecAt K r v H3 ∧ InL l.records xs r v H3) l.records xs := (all2_idx hA3).imp fun r v h => ⟨h.1, rec_ref h.1, h.2⟩
    -- waiting
    refine q_asgC (em_comp (β := Unit) (l := l.records) (A := fun r x G => RecAt K r x G ∧ InL l.records xs r x G) (fun r => !decide (r.name ∈ dn.map fun r => r.name)) (fun r v G => InL l.records xs r v G) mono_in (it_list (M := []) (ev_var rfl) (e3 _ _ hx') (by rw [minus_nil]; exact hAI) (fun r v G G' e h => ⟨mono_rec _ _ _ _ e h.1, h.2⟩) (by simp)) (by omega) (fun _ => rfl) (fun _ _ _ _ _ h _ => h) (fun r x H4 _ e4 hr => ?_) (fun r x H4 _ e4 hr _ => EvP.imp (Ev.p (ev_var rfl)) fun v G _ hv => by rw [hv]; exact hr.2)) fun q1 ys1 H4 hq1 e4 h4 hY1 => ?_
    · obtain ⟨s, hs, hsn⟩ := rname T hr.1
      have hkm := keys_mem hkk r.name
      refine et_eq (et_B (ev_dnotin (hsn (ev_var rfl)) hs (ev_var rfl) ((e3.trans e4) _ _ hd'))) ?_
      show (!_) = !_
      congr 1
      by_cases z : r.name ∈ dn.map fun r => r.name
      · rw [decide_eq_true z]
        exact hkm.mp z
      · rw [decide_eq_false z]
        cases zz : (valV kvs (kt r.name)).isSome with
        | false => rfl
        | true => exact absurd (hkm.mpr zz) z
    -- ready
    have hA4 := hA3.mono mono_rec e4
    have hlf : (leftOf l.records dn).length ≤ 32 := Nat.le_trans (List.length_filter_le ..) hn32
    have hY1 : All2 (fun r v => InL l.records xs r v H4) (leftOf l.records dn) ys1 := hY1
    have hd4 := (e3.trans e4) _ _ hd'
    refine q_asgC (em_comp (β := Unit) (l := leftOf l.records dn) (A := fun r x G => RecAt K r x G ∧ InL l.records xs r x G) (readyB l.records (dn.map fun r => r.name)) (fun r v G => InL l.records xs r v G) mono_in (it_list (M := []) (ev_var rfl) h4 (by rw [minus_nil]; exact hY1.imp fun r v h => ⟨InL.at_ (A := RecAt K) h hA4, h⟩) (fun r v G G' e h => ⟨mono_rec _ _ _ _ e h.1, h.2⟩) (by simp)) (by omega) (fun _ => rfl) (fun _ _ _ _ _ h _ => h) (fun r x H5 hm e5 hr => ?_) (fun r x H5 _ e5 hr _ => EvP.imp (Ev.p (ev_var rfl)) fun v G _ hv => by rw [hv]; exact hr.2)) fun q2 ys2 H5 hq2 e5 h5 hY2 => ?_
    · exact et_B (ev_callR (ea_cons (ev_var rfl) (ea_cons (ev_var rfl) (ea_cons (ev_var rfl) ea_nil))) fun H6 e6 => ⟨a, xs, l.records, x, r, d, kvs, dn.map fun r => r.name, rfl, ((e3.trans e4).trans (e5.trans e6)) _ _ hx', hA4.mono mono_rec (e5.trans e6), mono_rec _ _ _ _ e6 hr.1, rec_le hk, rec_le hk r (List.mem_filter.mp hm).1, (e5.trans e6) _ _ hd4, hkk, rfl⟩)
    have ecan : (leftOf l.records dn).filter (readyB l.records (dn.map fun r => r.name)) = canNow l dn (leftOf l.records dn) := by
      rw [← ready_eq hS hAr.sub]
      exact List.filter_congr fun r _ => ready_P l _ r
    rw [ecan] at hY2
    have hA5 := hA4.mono mono_rec e5
    have hne : leftOf l.records dn ≠ [] := fun z => by
      have := hAr.len
      rw [z, List.length_nil] at this
      omega
    have hcan := can_some hS hAr.sub hne
    have hY2l := hY2.len
    have e35 : Ex H' H5 := e3.trans (e4.trans e5)
    -- smallest
    have hT5 := hT'.ext e35
    refine ⟨_, rfl, q2, ys2, kRec H5, rfl, h5, ?_, hT5, fun x hx => ?_, fun x H6 hxm hmin eN6 hT6 => ?_⟩
    · rw [← hY2l]
      exact List.length_pos_iff.mpr hcan
    · obtain ⟨r, _, hI2⟩ := all2_mR hY2 x hx
      exact (k_rec (InL.at_ (A := RecAt K) hI2 hA5)).2
    · obtain ⟨r, hrc, hIx⟩ := all2_mR hY2 x hxm
      have hrx := (k_rec (InL.at_ (A := RecAt K) hIx hA5)).1
      have hmn : ∀ y ∈ canNow l dn (leftOf l.records dn), Vabldo.textBefore y.name r.name = false := fun y hy => by
        obtain ⟨yv, hyv, hIy⟩ := all2_mL hY2 y hy
        have h := hmin yv hyv
        rw [hrx, (k_rec (InL.at_ (A := RecAt K) hIy hA5)).1, lex_tb] at h
        exact h
      have hAr2 := arr_step hS hAr hrc hmn
      have hrl : r ∈ leftOf l.records dn := (List.mem_filter.mp hrc).1
      have hnotin : r.name ∉ dn.map fun r => r.name := by
        have := (List.mem_filter.mp hrl).2
        simpa using this
      have hp6 : H6 p = some (.lst ps) := eN6 _ _ (e35 _ _ hp') (fun ps z => nomatch z)
      have hd6 : H6 d = some (.dT kvs) := eN6 _ _ (e35 _ _ hd') (fun ps z => nomatch z)
      have eN06 : ExtN H H6 := LamX.ExtN.trans (LamX.ExtN.trans eN (exN e35)) eN6
      refine q_app' hp6 (ev_var rfl) (ev_var rfl) (by omega) fun H7 e7 => ?_
      have eN8 : ExtN H (upd H7 p (.lst (ps ++ [x]))) := extN_mut (LamX.ExtN.trans eN06 (exN e7)) hp
      have hA8 := recs_ext hA eN8
      have hIxH : InL l.records xs r x H := hIx
      obtain ⟨s, hs, hsn⟩ := rname T (InL.at_ (A := RecAt K) hIxH hA8)
      have hd8 : upd H7 p (.lst (ps ++ [x])) d = some (.dT kvs) := by
        rw [upd_ne npd.symm]
        exact e7 _ _ hd6
      have hkl := keys_len hkk
      rw [List.length_map] at hkl
      refine s_dput (v := .bl true) ev_c (ev_var rfl) (hsn (ev_var rfl)) hs hd8 (by omega) fun H9 e9 => ⟨l.records.length - (dn ++ [r]).length, ?_, _, _, _, _, dn ++ [r], ps ++ [x], putK kvs (kt r.name) (.bl true), rfl, ?_, ?_, ?_, ?_, upd_same, ?_, hAr2, rfl⟩
      · rw [List.length_append, List.length_singleton]
        omega
      · exact extN_mut (LamX.ExtN.trans eN8 (exN e9)) hd0
      · exact tabs_mut ((tabs_mut (hT6.ext e7) (e7 _ _ hp6) (fun ps z => nomatch z) (code_lst _)).ext e9) (e9 _ _ hd8) (fun ps z => nomatch z) (code_dT _)
      · rw [upd_ne npd]
        exact e9 _ _ upd_same
      · exact hI.app (.one hIxH)
      · have := keys_put hkk r.name (.bl true)
        unfold putT at this
        rw [if_neg hnotin] at this
        rw [List.map_append]
        exact this
  · have hge := of_decide_eq_false hb
    have e0 := arr_end hAr (by omega)
    refine s_ret (ev_var rfl) fun H4 e4 => k _ H4 (LamX.ExtN.trans eN (exN (e3.trans e4))) (hT'.ext (e3.trans e4)) ⟨p, ps, rfl, hp, (e3.trans e4) _ _ hp', ?_⟩
    rw [e0]
    exact in_all hI (hA'.mono mono_rec (e3.trans e4))
end
end Bl

-- part W32
set_option Elab.async false
set_option linter.all false
set_option maxRecDepth 100000
set_option maxHeartbeats 4000000
namespace Bl
open PySem PySem.Spec PyProof.Rows L2 Evl
open VabldoNeutral (encode)
/-! ### the walks of logs.py, first part -/
theorem rr_nm {q : RR} (h : q.Ok) : RecNm (recOf Vabldo.valueOf q) := by
  refine ⟨h.nm, h.tl, h.ar, fun u hu => ?_, fun u hu => ?_⟩
  · obtain ⟨p, hp, rfl⟩ := List.mem_map.mp hu
    exact (h.i p hp).1
  · obtain ⟨p, hp, rfl⟩ := List.mem_map.mp hu
    exact (h.o p hp).1
theorem read_ok {t : List Nat} {l : Vabldo.Log} (h : Vabldo.readLog t = .ok l) : LogOk l := by
  unfold Vabldo.readLog at h
  split at h
  · cases h
  · have htl := tk_len t.length t.length t (Nat.le_refl _)
    have htl : (Vabldo.tokens t).length ≤ t.length + 1 := htl
    rcases log_ok t (t.length + 2) (Vabldo.tokens t) (by omega) (cp_tokens t) with ⟨e, he, hm⟩ | ⟨qs, tt, he, hq, ht, hm, hbld⟩
    · rw [he] at h
      cases h
    · rw [he] at h
      dsimp only at h
      split at h
      · rename_i hl
        cases h
        refine ⟨hl, fun r hr => ?_⟩
        obtain ⟨q, hqm, rfl⟩ := List.mem_map.mp hr
        exact rr_nm (hq q hqm)
      · cases h
theorem read_err {t : List Nat} {e : Nat × Nat} (h : Vabldo.readLog t = .error e) : e.1 ≠ 0 := by
  unfold Vabldo.readLog at h
  split at h
  · cases h
    decide
  · split at h
    · cases h
      intro z
      cases z
    · split at h
      · cases h
      · cases h
        intro z
        cases z
theorem dec_le20 (n : Nat) : (Vabldo.decimal n).length ≤ 20 := dec_len n 20
theorem used_len {s : String} {u : Vabldo.Used} (hs : (Vabldo.str s).length ≤ 6) (h : u.file.length ≤ 32) : (Vabldo.usedLine s u).length ≤ 62 := by
  unfold Vabldo.usedLine
  have h1 := dec_le20 u.number
  have h2 : (Vabldo.str ";\n").length = 2 := by decide
  simp only [List.length_append, List.length_cons]
  omega
theorem flat_le {α : Type} (f : α → List Nat) (b : Nat) : ∀ l : List α, (∀ x ∈ l, (f x).length ≤ b) → (l.flatMap f).length ≤ b * l.length
  | [], _ => Nat.zero_le _
  | x :: l, h => by
    have h1 := h x (List.mem_cons_self ..)
    have h2 := flat_le f b l fun y hy => h y (List.mem_cons_of_mem _ hy)
    rw [List.flatMap_cons, List.length_append, List.length_cons, Nat.mul_succ]
    omega
theorem args_len (r : Vabldo.Record) (h : ∀ a ∈ r.args, Vabldo.isName a = true) : (r.args.flatMap (fun a => Vabldo.str "  arg " ++ (a ++ Vabldo.str ";\n"))).length ≤ 40 * r.args.length := by
  refine flat_le _ 40 r.args fun a ha => ?_
  have := name_len (h a ha)
  have e1 : (Vabldo.str "  arg ").length = 6 := by decide
  have e2 : (Vabldo.str ";\n").length = 2 := by decide
  simp only [List.length_append]
  omega
theorem rec_len {r : Vabldo.Record} (h : RecOkP r) : (Vabldo.recordText r).length ≤ 1600 := by
  have h1 := name_len h.nm.1
  have h2 := name_len h.nm.2.1
  have h3 := args_len r h.nm.2.2.1
  have h4 := flat_le (Vabldo.usedLine "  in ") 62 r.ins fun u hu => used_len (by decide) (name_len (h.nm.2.2.2.1 u hu))
  have h5 := flat_le (Vabldo.usedLine "  out ") 62 r.outs fun u hu => used_len (by decide) (name_len (h.nm.2.2.2.2 u hu))
  have h6 := dec_le20 r.exit
  have a1 := h.a
  have a2 := h.i
  have a3 := h.o
  unfold Vabldo.recordText
  have e0 : (if r.run = true then Vabldo.str "run " else Vabldo.str "kept ").length ≤ 5 := by split <;> decide
  have e1 : (Vabldo.str " {\n  tool ").length = 10 := by decide
  have e2 : (Vabldo.str ";\n").length = 2 := by decide
  have e3 : (Vabldo.str "  exit ").length = 7 := by decide
  have e4 : (Vabldo.str ";\n}\n").length = 4 := by decide
  simp only [List.length_append]
  omega
theorem plain_len {l : Vabldo.Log} (hn : l.records.length ≤ 32) (h : ∀ r ∈ l.records, RecOkP r) : (Vabldo.plain l).length ≤ 60000 := by
  have h1 := flat_le Vabldo.recordText 1600 l.records fun r hr => rec_len (h r hr)
  have h2 := dec_le20 l.told
  unfold Vabldo.plain
  have e1 : (Vabldo.str "end ").length = 4 := by decide
  have e2 : (Vabldo.str ";\n").length = 2 := by decide
  simp only [List.length_append]
  omega
theorem rec_sm {r : Vabldo.Record} (h : RecOkP r) : RecSm r := by
  have b : ∀ {t : List Nat}, Vabldo.isName t = true → t.length ≤ 10000000 := fun h => Nat.le_trans (name_len h) (by decide)
  have c : ∀ {n : Nat}, n ≤ 1000000000 → n < 10 ^ 19 := fun h => Nat.lt_of_le_of_lt h (by decide)
  refine ⟨b h.nm.1, b h.nm.2.1, fun t ht => b (h.nm.2.2.1 t ht), fun u hu => ⟨b (h.nm.2.2.2.1 u hu), c (h.ni u hu)⟩, fun u hu => ⟨b (h.nm.2.2.2.2 u hu), c (h.no u hu)⟩, c h.x, ?_⟩
  have h1 := h.a
  have h2 := h.i
  have h3 := h.o
  unfold rcN
  omega
theorem sources_len (l : Vabldo.Log) : ((putTs [] (namesI l.records)).filter fun t => (makerIn l.records t).isNone).length = (Vabldo.sources l).length := by
  have hm : ∀ (ts ks : List (List Nat)) (x : List Nat), x ∈ putTs ks ts ↔ x ∈ ks ∨ x ∈ ts := by
    intro ts
    induction ts with
    | nil => intro ks x; simp [putTs]
    | cons t ts ih =>
      intro ks x
      show x ∈ putTs (putT ks t) ts ↔ _
      rw [ih, putT_mem, List.mem_cons]
      constructor
      · rintro ((h | h) | h)
        · exact Or.inl h
        · exact Or.inr (Or.inl h)
        · exact Or.inr (Or.inr h)
      · rintro (h | h | h)
        · exact Or.inl (Or.inl h)
        · exact Or.inl (Or.inr h)
        · exact Or.inr h
  have hn : ∀ (ts ks : List (List Nat)), ks.Nodup → (putTs ks ts).Nodup := by
    intro ts
    induction ts with
    | nil => intro ks h; exact h
    | cons t ts ih => intro ks h; exact ih (putT ks t) (putT_nodup h)
  have e : Vabldo.sources l = (Vabldo.inOrder (namesI l.records)).filter fun f => (makerIn l.records f).isNone := rfl
  rw [e]
  have n1 : ((putTs [] (namesI l.records)).filter fun t => (makerIn l.records t).isNone).Nodup := (hn _ [] List.nodup_nil).filter _
  have n2 : ((Vabldo.inOrder (namesI l.records)).filter fun f => (makerIn l.records f).isNone).Nodup := (sortT_nodup (inOrder_sort _)).filter _
  refine Nat.le_antisymm (len_sub n1 fun x hx => ?_) (len_sub n2 fun x hx => ?_)
  · obtain ⟨h1, h2⟩ := List.mem_filter.mp hx
    refine List.mem_filter.mpr ⟨inOrder_mem.mpr ?_, h2⟩
    rcases (hm _ _ _).mp h1 with z | z
    · cases z
    · exact z
  · obtain ⟨h1, h2⟩ := List.mem_filter.mp hx
    exact List.mem_filter.mpr ⟨(hm _ _ _).mpr (Or.inr (inOrder_mem.mp h1)), h2⟩
theorem rests_le {l : Vabldo.Log} (hk : LogOk l) (f : List Nat) : (Vabldo.lines (Vabldo.rests l f)).length ≤ 10000 := by
  obtain ⟨_, hn32, hrok⟩ := hk.prt
  have hnI : (namesI l.records).length ≤ 256 := by
    have := sumT_le (fun r : Vabldo.Record => r.ins.map fun u => u.file) 8 l.records fun r hr => by rw [List.length_map]; exact (hrok r hr).i
    unfold namesI
    omega
  have hin : ∀ g, ∀ x ∈ insOf l g, x ∈ namesI l.records := fun g x hx => by
    obtain ⟨r, hr, u, hu, e⟩ := insOf_mem hx
    rw [← e]
    exact names_mem (maker_of_mem hr).1 hu
  have hp : ∀ (j : Nat) (g x : List Nat), g ∈ namesI l.records → PathN l j g x → x ∈ namesI l.records := by
    intro j
    induction j with
    | zero =>
      intro g x hg h
      have e : g = x := h
      rw [← e]
      exact hg
    | succ j ih =>
      intro g x hg h
      obtain ⟨m, hm, h⟩ := h
      exact ih m x (hin g m hm) h
  have hsub : ∀ x ∈ Vabldo.rests l f, x ∈ namesI l.records := fun x hx => by
    have h1 : x ∈ Vabldo.grown l 34 (insOf l f) := (List.mem_filter.mp hx).1
    obtain ⟨g, hg, j, _, h⟩ := grown_mem.mp h1
    exact hp j g x (hin f g hg) h
  have hnd : (Vabldo.rests l f).Nodup := (sortT_nodup (grown_sort (l := l) (n := 34) (fs := insOf l f) (by omega))).filter _
  have h1 := len_sub hnd hsub
  have h2 := lines_le 32 (Vabldo.rests l f) fun x hx => by
    obtain ⟨r, hr, hx⟩ := List.mem_flatMap.mp (hsub x hx)
    obtain ⟨u, hu, rfl⟩ := List.mem_map.mp hx
    exact name_len ((hk.nm r hr).2.2.2.1 u hu)
  omega
end Bl

-- part W33
set_option Elab.async false
set_option linter.all false
set_option maxRecDepth 100000
set_option maxHeartbeats 4000000
namespace Bl
open PySem PySem.Spec PyProof.Rows L2 Evl
open VabldoNeutral (encode)
/-! ### the walks of logs.py, second part -/
def fileRef (l : Vabldo.Log) (t : List Nat) : Int := if Vabldo.isName t = false then -7 else if (fileIn l.records t).isNone = true then -8 else 0
def fileAns (c : Nat) (l : Vabldo.Log) (t : List Nat) : Vabldo.Answer := if c = 5 then Vabldo.madeAnswer l t else if Vabldo.isName t = false then Vabldo.no Vabldo.NAME else if (Vabldo.numberOf l t).isNone = true then Vabldo.no Vabldo.ABSENT else Vabldo.listed (Vabldo.rests l t)
theorem number_eq (l : Vabldo.Log) (t : List Nat) : Vabldo.numberOf l t = (fileIn l.records t).map fun u => u.number := rfl
abbrev sp_is_slot (K : PySem.W.Frag) : Sp := spR fun vs _ Post => ∃ i : Int, vs = [.int i] ∧ Post = fun v _ => v = .bl (Vabldo.slotOk i)
abbrev sp_file_refusal (K : PySem.W.Frag) : Sp := spR fun vs H Post => ∃ (v : V) (l : Vabldo.Log) (b : Addr) (t : List Nat), vs = [v, .ref b] ∧ LogAt K l v H ∧ LogOk l ∧ Tx H b t ∧ t.length ≤ 40000 ∧ Post = fun v _ => v = .int (fileRef l t)
abbrev sp_answer_where (K : PySem.W.Frag) : Sp := spR fun vs H Post => ∃ (b : Addr) (t : List Nat), vs = [.ref b] ∧ Tx H b t ∧ t.length ≤ 10000 ∧ Post = AnsI (encode (Vabldo.answer Vabldo.start (.where_ t))) H
abbrev sp_answer_plain (K : PySem.W.Frag) : Sp := spR fun vs H Post => ∃ (v : V) (l : Vabldo.Log), vs = [v] ∧ LogAt K l v H ∧ LogOk l ∧ Post = AnsI (encode (Vabldo.said (Vabldo.plain l))) H
abbrev sp_answer_stats (K : PySem.W.Frag) : Sp := spR fun vs H Post => ∃ (v : V) (l : Vabldo.Log), vs = [v] ∧ LogAt K l v H ∧ LogOk l ∧ Post = AnsI (encode (Vabldo.statsAnswer l)) H
abbrev sp_answer_made (K : PySem.W.Frag) : Sp := spR fun vs H Post => ∃ (v : V) (l : Vabldo.Log) (b : Addr) (t : List Nat) (u : Vabldo.Used), vs = [v, .ref b] ∧ LogAt K l v H ∧ LogOk l ∧ Tx H b t ∧ fileIn l.records t = some u ∧ Vabldo.isName t = true ∧ Post = AnsI (encode (Vabldo.madeAnswer l t)) H
abbrev sp_answer_rests (K : PySem.W.Frag) : Sp := spR fun vs H Post => ∃ (v : V) (l : Vabldo.Log) (b : Addr) (t : List Nat), vs = [v, .ref b] ∧ LogAt K l v H ∧ LogOk l ∧ Sd l.records ∧ Tx H b t ∧ Post = AnsI (encode (Vabldo.listed (Vabldo.rests l t))) H
abbrev sp_answer_of_file (K : PySem.W.Frag) : Sp := spR fun vs H Post => ∃ (c : Nat) (v : V) (l : Vabldo.Log) (b : Addr) (t : List Nat), vs = [.int (c : Int), v, .ref b] ∧ LogAt K l v H ∧ LogOk l ∧ Sd l.records ∧ Tx H b t ∧ t.length ≤ 40000 ∧ Post = AnsI (encode (fileAns c l t)) H
section
variable {α : Type} {w : World} {K : PySem.W.Frag} {mg : Str → Option Value} {base : Heap} {σ : L2.St} {H H' : Hp} {ta tb tc te tl td ty : TE} {v y z : V} {D : Ends} {tu tz : TS}
theorem sc_is_slot : FnScope ["k"] ["k"] (defScope s_is_slot) := ⟨rfl, rfl, rfl, by decide +kernel, rfl, by decide +kernel, by decide +kernel⟩
theorem ok_is_slot (T : Txt w K mg)  : Has P0 w K mg base "is_slot" 1 ["k"] (sp_is_slot K) := by
  refine has_of T.f_is_slot T.g_is_slot sc_is_slot (fun _ _ _ _ _ _ us hl => match us, hl with | [_], _ => rfl) (fun vs H Q E h => by obtain ⟨_, ⟨i, rfl, rfl⟩, _⟩ := h; rfl) (fun cdv A outer s H vs Q E hr h => ⟨_, PSs.nox (pss_one (ps_ret (pe_chain op_le op_le pe_int (pv 0) pe_int))), ?_⟩)
  obtain ⟨_, ⟨i, rfl, rfl⟩, k⟩ := h
  exact s_ret (ev_chain ev_c (ev_var rfl) ev_c) fun H1 e1 => k _ H1 e1 rfl
theorem sc_file_refusal : FnScope ["log", "name"] ["log", "name"] (defScope s_file_refusal) := ⟨rfl, rfl, rfl, by decide +kernel, rfl, by decide +kernel, by decide +kernel⟩
theorem ok_file_refusal (T : Txt w K mg) (H_is_name : Has P0 w K mg base "is_name" 4 ["text"] (sp_is_name K)) (H_find_file : Has P0 w K mg base "find_file" 1 ["records", "name"] (sp_find_file K)) : Has P0 w K mg base "file_refusal" 5 ["log", "name"] (sp_file_refusal K) := by
  refine has_of T.f_file_refusal T.g_file_refusal sc_file_refusal (fun _ _ _ _ _ _ us hl => match us, hl with | [_, _], _ => rfl) (fun vs H Q E h => by obtain ⟨_, ⟨v, l, b, t, rfl, hL, hk, hb, hz, rfl⟩, _⟩ := h; rfl) (fun cdv A outer s H vs Q E hr h => ⟨_, PSs.nox (pss_cons (ps_if (pt_not (pt_val (pe_h H_is_name (by exact hr.mono (by decide)) (by rfl) (pa_cons (pv 1) pa_nil)))) (pss_one (ps_ret (pe_gi (by rfl) T.i_NAME))) pss_nil) (pss_cons (ps_if (pt_cmpR op_isN (pe_h H_find_file (by exact hr.mono (by decide)) (by rfl) (pa_cons (pe_fld (pv 0) rfl) (pa_cons (pv 1) pa_nil))) pe_non (nomark _)) (pss_one (ps_ret (pe_gi (by rfl) T.i_ABSENT))) pss_nil) (pss_one (ps_ret pe_int)))), ?_⟩)
  obtain ⟨_, ⟨v, l, b, t, rfl, hL, hk, hb, hz, rfl⟩, k⟩ := h
  refine q_when (b := !Vabldo.isName t) (et_name (ev_var rfl) hb hz) (fun hb1 H1 e1 => ?_) (fun hb1 H1 e1 => ?_)
  · refine s_ret ev_c fun H2 e2 => k _ H2 (e1.trans e2) ?_
    unfold fileRef
    rw [if_pos (by simpa using hb1)]
  · have hn : ¬ Vabldo.isName t = false := by
      intro z
      rw [z] at hb1
      cases hb1
    obtain ⟨x, dx, rl, rs, rfl, hx, hr, hA⟩ := hL
    refine q_when (b := (fileIn l.records t).isNone) (et_test (ep_isN (ep_call (ea_cons (ev_fld (ev_var rfl) (e1 _ _ hx) T.c_Log T.n_Log_records rfl) (ea_cons (ev_var rfl) ea_nil)) fun H2 e2 => ⟨rl, rs, l.records, b, t, rfl, (e1.trans e2) _ _ hr, hA.mono mono_rec (e1.trans e2), hb.mono (e1.trans e2), rec_le hk, rfl⟩) fun v G h => file_some h)) (fun hb2 H2 e2 => ?_) (fun hb2 H2 e2 => ?_)
    · refine s_ret ev_c fun H3 e3 => k _ H3 ((e1.trans e2).trans e3) ?_
      unfold fileRef
      rw [if_neg hn, if_pos hb2]
    · refine s_ret ev_c fun H3 e3 => k _ H3 ((e1.trans e2).trans e3) ?_
      unfold fileRef
      rw [if_neg hn, if_neg (by rw [hb2]; exact Bool.false_ne_true)]
theorem sc_answer_where : FnScope ["text", "reading"] ["text"] (defScope s_answer_where) := ⟨rfl, rfl, rfl, by decide +kernel, rfl, by decide +kernel, by decide +kernel⟩
theorem ok_answer_where (T : Txt w K mg) (H_read_log : Has P0 w K mg base "read_log" 7 ["text"] (sp_read_log K)) : Has P0 w K mg base "answer_where" 8 ["text"] (sp_answer_where K) := by
  refine has_of T.f_answer_where T.g_answer_where sc_answer_where (fun _ _ _ _ _ _ us hl => match us, hl with | [_], _ => rfl) (fun vs H Q E h => by obtain ⟨_, ⟨b, t, rfl, hb, hz, rfl⟩, _⟩ := h; rfl) (fun cdv A outer s H vs Q E hr h => ⟨_, PSs.nox (pss_cons (ps_set (i := 1) sc_answer_where.nd rfl (Or.inl rfl) (pe_h H_read_log (by exact hr.mono (by decide)) (by rfl) (pa_cons (pv 0) pa_nil))) (pss_one (ps_ret (pe_lst (pa_cons (pe_un un_neg (pe_fld (pv 1) rfl)) (pa_cons (pe_fld (pv 1) rfl) pa_nil)))))), ?_⟩)
  obtain ⟨_, ⟨b, t, rfl, hb, hz, rfl⟩, k⟩ := h
  refine q_asgP (ep_call (Post := ReadAt K t) (ea_cons (ev_var rfl) ea_nil) fun H1 e1 => ⟨b, t, rfl, hb.mono e1, hz, rfl⟩) fun v H1 e1 hv => ?_
  obtain ⟨x, dx, rfl, hv⟩ := hv
  cases hr : Vabldo.readLog t with
  | error e =>
    rw [hr] at hv
    refine s_retL (xs := [.int (- -(e.1 : Int)), .int (e.2 : Int)]) (el_lst (ea_cons (ev_un (ev_fld (ev_var rfl) hv T.c_Reading T.n_Reading_refusal rfl) ru_neg) (ea_cons (ev_fld (ev_var rfl) hv T.c_Reading T.n_Reading_place rfl) ea_nil)) (show 2 ≤ 100000 by decide)) fun p H2 hp e2 h2 => k _ H2 (e1.trans e2) ⟨p, rfl, fresh_back e1 hp, ?_⟩
    rw [h2, Int.neg_neg]
    show some (HO.lst [.int (e.1 : Int), .int (e.2 : Int)]) = some (.lst ((encode (match Vabldo.readLog t with
      | .ok _ => Vabldo.num 0 [0]
      | .error e => Vabldo.num e.1 [e.2])).map V.int))
    rw [hr]
    rfl
  | ok l =>
    rw [hr] at hv
    obtain ⟨lv, hv, _⟩ := hv
    refine s_retL (xs := [.int (- (0 : Int)), .int 0]) (el_lst (ea_cons (ev_un (ev_fld (ev_var rfl) hv T.c_Reading T.n_Reading_refusal rfl) ru_neg) (ea_cons (ev_fld (ev_var rfl) hv T.c_Reading T.n_Reading_place rfl) ea_nil)) (show 2 ≤ 100000 by decide)) fun p H2 hp e2 h2 => k _ H2 (e1.trans e2) ⟨p, rfl, fresh_back e1 hp, ?_⟩
    rw [h2]
    show some (HO.lst [.int (- (0 : Int)), .int 0]) = some (.lst ((encode (match Vabldo.readLog t with
      | .ok _ => Vabldo.num 0 [0]
      | .error e => Vabldo.num e.1 [e.2])).map V.int))
    rw [hr]
    rfl
theorem sc_answer_plain : FnScope ["log"] ["log"] (defScope s_answer_plain) := ⟨rfl, rfl, rfl, by decide +kernel, rfl, by decide +kernel, by decide +kernel⟩
theorem ok_answer_plain (T : Txt w K mg) (H_plain_text : Has P0 w K mg base "plain_text" 4 ["log"] (sp_plain_text K)) : Has P0 w K mg base "answer_plain" 5 ["log"] (sp_answer_plain K) := by
  refine has_of T.f_answer_plain T.g_answer_plain sc_answer_plain (fun _ _ _ _ _ _ us hl => match us, hl with | [_], _ => rfl) (fun vs H Q E h => by obtain ⟨_, ⟨v, l, rfl, hL, hk, rfl⟩, _⟩ := h; rfl) (fun cdv A outer s H vs Q E hr h => ⟨_, PSs.nox (pss_one (ps_ret (pe_op op_cat (pe_lst (pa_cons pe_int pa_nil)) (pe_h H_plain_text (by exact hr.mono (by decide)) (by rfl) (pa_cons (pv 0) pa_nil))))), ?_⟩)
  obtain ⟨_, ⟨v, l, rfl, hL, hk, rfl⟩, k⟩ := h
  obtain ⟨ht, hn, hr⟩ := hk.prt
  have hp := plain_len hn hr
  refine s_retL (xs := [.int 0] ++ tv (Vabldo.plain l)) (el_catLL (el_lst (ea_cons ev_c ea_nil) (show 1 ≤ 100000 by decide)) (fun H1 e1 Q q => ?_) (by rw [tv_len]; show 1 + _ ≤ _; omega)) fun p H2 hp e2 h2 => k _ H2 e2 ⟨p, rfl, hp, ?_⟩
  · refine ep_callW (Post := fun x H' => ∃ p, x = .ref p ∧ H1 p = none ∧ H' p = some (.lst (tv (Vabldo.plain l)))) (ea_cons (ev_var rfl) ea_nil) (fun H2 e2 => ⟨_, ⟨v, l, rfl, mono_log _ _ _ _ (e1.trans e2) hL, fun r h => rec_sm (hr r h), Nat.lt_of_le_of_lt ht (by decide), by omega, rfl⟩, fun x H3 _ hx => by
      obtain ⟨p, h1, h2, h3⟩ := hx
      exact ⟨p, h1, fresh_back e2 h2, h3⟩⟩) H1 (Ex.refl H1) _ fun x H2 e2 hx => ?_
    obtain ⟨p, rfl, h1, h2⟩ := hx
    exact q p H2 h1 e2 h2
  · rw [h2]
    show some (HO.lst (.int 0 :: tv (Vabldo.plain l))) = some (.lst (.int 0 :: ((toI (Vabldo.plain l)).map V.int)))
    rw [toI_tv]
theorem way_run (b : Bool) : decide ((if b = true then ("run" : Str) else ("kept" : Str)) = "run") = b := by cases b <;> decide
theorem ev_subI {a b : Int} (ha : Ev ta σ H (.int a)) (hb : Ev tb σ H (.int b)) : Ev (tOp (rI0 fun i j => .int (i - j)) ta tb) σ H (.int (a - b)) := ev_op ha hb rv_I0
theorem filter_split (p : α → Bool) : ∀ l : List α, (l.filter p).length + (l.filter fun x => !p x).length = l.length
  | [] => rfl
  | x :: l => by
    have := filter_split p l
    rw [List.filter_cons, List.filter_cons]
    cases p x <;> simp <;> omega
theorem sc_answer_stats : FnScope ["log", "records", "run", "failed", "record"] ["log"] (defScope s_answer_stats) := ⟨rfl, rfl, rfl, by decide +kernel, rfl, by decide +kernel, by decide +kernel⟩
theorem ok_answer_stats (T : Txt w K mg) (H_count_sources : Has P0 w K mg base "count_sources" 3 ["records"] (sp_count_sources K)) : Has P0 w K mg base "answer_stats" 4 ["log"] (sp_answer_stats K) := by
  refine has_of T.f_answer_stats T.g_answer_stats sc_answer_stats (fun _ _ _ _ _ _ us hl => match us, hl with | [_], _ => rfl) (fun vs H Q E h => by obtain ⟨_, ⟨v, l, rfl, hL, hk, rfl⟩, _⟩ := h; rfl) (fun cdv A outer s H vs Q E hr h => ⟨_, PSs.nox (pss_cons (ps_set (i := 1) sc_answer_stats.nd rfl (Or.inl rfl) (pe_fld (pv 0) rfl)) (pss_cons (ps_set (i := 2) sc_answer_stats.nd rfl (Or.inl rfl) (pe_callB call_len_seq (by rfl) T.b_len PySem.boot_len (pa_cons (pe_lc (own := [("record", 4)]) (g := gName 4) (te := (tVar 4)) (tt := (tTest (tOp (rEq) (tFld K (tVar 4) "way") _))) rfl sc_answer_stats.nd (pi_list (pv 1)) (blkOk_by (own := [("record", 4)]) (N := ["log", "records", "run", "failed", "record"]) (sc := defScope s_answer_stats) (by decide +kernel)) (fun _ _ _ _ _ => pg_name (i := 4) sc_answer_stats.nd rfl (Or.inl rfl)) (fun _ _ _ _ _ => (pts_one (pt_cmpR op_eq (pe_fld (pv 4) rfl) pe_str (nomark _)))) (fun _ _ _ _ _ => (pv 4))) pa_nil))) (pss_cons (ps_set (i := 3) sc_answer_stats.nd rfl (Or.inl rfl) (pe_callB call_len_seq (by rfl) T.b_len PySem.boot_len (pa_cons (pe_lc (own := [("record", 4)]) (g := gName 4) (te := (tVar 4)) (tt := (tTest (tOp (rNe) (tFld K (tVar 4) "status") _))) rfl sc_answer_stats.nd (pi_list (pv 1)) (blkOk_by (own := [("record", 4)]) (N := ["log", "records", "run", "failed", "record"]) (sc := defScope s_answer_stats) (by decide +kernel)) (fun _ _ _ _ _ => pg_name (i := 4) sc_answer_stats.nd rfl (Or.inl rfl)) (fun _ _ _ _ _ => (pts_one (pt_cmpR op_ne (pe_fld (pv 4) rfl) pe_int (nomark _)))) (fun _ _ _ _ _ => (pv 4))) pa_nil))) (pss_one (ps_ret (pe_lst (pa_cons (pe_callB call_len_seq (by rfl) T.b_len PySem.boot_len (pa_cons (pv 1) pa_nil)) (pa_cons (pv 2) (pa_cons (pe_op op_sub (pe_callB call_len_seq (by rfl) T.b_len PySem.boot_len (pa_cons (pv 1) pa_nil)) (pv 2)) (pa_cons (pv 3) (pa_cons (pe_h H_count_sources (by exact hr.mono (by decide)) (by rfl) (pa_cons (pv 1) pa_nil)) pa_nil))))))))))), ?_⟩)
  obtain ⟨_, ⟨v, l, rfl, hL, hk, rfl⟩, k⟩ := h
  obtain ⟨ht, hn, hr⟩ := hk.prt
  obtain ⟨x, dx, rl, rs, rfl, hx, hrl, hA⟩ := hL
  refine q_asg (ev_fld (ev_var rfl) hx T.c_Log T.n_Log_records rfl) fun H1 e1 => ?_
  have hA1 := hA.mono mono_rec e1
  have hl1 := e1 _ _ hrl
  have len1 : ∀ (p : Vabldo.Record → Bool) (t : TT) (σ' : L2.St) (H0 : Hp), Ex H H0 → σ'[1]? = some (some (V.ref rl)) → (∀ x, wipe ((wipe σ' [4]).set 4 (some x)) [4] = wipe σ' [4]) → (∀ r x H2, r ∈ l.records → Ex H0 H2 → RecAt K r x H2 → EvT t ((wipe σ' [4]).set 4 (some x)) H2 (p r)) → (∀ x, ((wipe σ' [4]).set 4 (some x))[4]? = some (some x)) → Ev (tCB (rLenQ K) (tCons (tLc (iList K (tVar 1)) (gName 4) t (tVar 4) [4]) tNil)) σ' H0 (.int (((l.records.filter p).length : Nat) : Int)) := by
    intro p t σ' H0 e0 hσ hw ht hv4 H2 e2 Q q
    show tLc (iList K (tVar 1)) (gName 4) t (tVar 4) [4] σ' H2 (fun x H3 => rLenQ K [x] H3 Q)
    refine em_comp (β := Unit) (l := l.records) (A := RecAt K) p (fun _ _ _ => True) (fun _ _ _ _ _ _ => trivial) (it_list (M := []) (ev_var hσ) (e0 _ _ hrl) (by rw [minus_nil]; exact hA.mono mono_rec e0) mono_rec (by simp)) (by omega) hw (fun _ _ _ _ _ _ _ => trivial) ht (fun r x H3 _ _ _ _ => EvP.imp (Ev.p (ev_var (hv4 x))) fun _ _ _ _ => trivial) H2 e2 _ fun q' ys H3 hq' e3 h3 hY => ?_
    refine ⟨q', ys, rfl, Or.inl (sq_of h3), ?_⟩
    have := hY.len
    rw [← this]
    exact q H3 e3
  refine q_asg (len1 (fun r => r.run) _ _ H1 e1 rfl (fun _ => rfl) (fun r x H2 _ e2 hR => ?_) (fun _ => rfl)) fun H2 e2 => ?_
  · obtain ⟨p, dx', nm, tl, a1, a2, a3, xs1, xs2, xs3, rfl, hX⟩ := hR
    exact et_eq (et_test (ev_eqS (ev_fld (ev_var rfl) hX.o T.c_Record T.n_Record_way rfl) ev_c)) (way_run r.run)
  refine q_asg (len1 (fun r => r.exit != 0) _ _ H2 (e1.trans e2) rfl (fun _ => rfl) (fun r x H3 _ e3 hR => ?_) (fun _ => rfl)) fun H3 e3 => ?_
  · obtain ⟨p, dx', nm, tl, a1, a2, a3, xs1, xs2, xs3, rfl, hX⟩ := hR
    exact et_test (ev_neN (m := 0) (ev_fld (ev_var rfl) hX.o T.c_Record T.n_Record_status rfl) ev_c)
  have e13 := (e1.trans e2).trans e3
  have hll : Ev (tCB (rLenQ K) (tCons (tVar 1) tNil)) [some (V.ref x), some (V.ref rl), some (V.int (((l.records.filter fun r => r.run).length : Nat) : Int)), some (V.int (((l.records.filter fun r => r.exit != 0).length : Nat) : Int)), none] H3 (.int ((l.records.length : Nat) : Int)) := by
    rw [hA.len]
    exact ev_lenLs (ev_var rfl) (e13 _ _ hrl)
  refine s_retL (el_lst (ea_cons hll (ea_cons (ev_var rfl) (ea_cons (ev_subI hll (ev_var rfl)) (ea_cons (ev_var rfl) (ea_cons (ev_callR (ea_cons (ev_var rfl) ea_nil) fun H4 e4 => ⟨rl, rs, l.records, rfl, (e13.trans e4) _ _ hrl, hA.mono mono_rec (e13.trans e4), hn, fun r h => ⟨(hr r h).i, rec_le hk r h⟩, rfl⟩) ea_nil))))) (show 5 ≤ 100000 by decide)) fun p H4 hp e4 h4 => k _ H4 (e13.trans e4) ⟨p, rfl, fresh_back e13 hp, ?_⟩
  rw [h4, sources_len]
  have hs := filter_split (fun r : Vabldo.Record => r.run) l.records
  have e5 : ((l.records.length : Nat) : Int) - (((l.records.filter fun r => r.run).length : Nat) : Int) = (((l.records.filter fun r => !r.run).length : Nat) : Int) := by omega
  rw [e5]
  rfl
end
end Bl

-- part W34
set_option Elab.async false
set_option linter.all false
set_option maxRecDepth 100000
set_option maxHeartbeats 4000000
namespace Bl
open PySem PySem.Spec PyProof.Rows L2 Evl
open VabldoNeutral (encode)
open LamX (ExtN Tabs TabB)
/-! ### the walks of logs.py, third part -/
section
variable {α : Type} {w : World} {K : PySem.W.Frag} {mg : Str → Option Value} {base : Heap} {σ : L2.St} {H H' : Hp} {ta tb tc te tl td ty : TE} {v y z : V} {D : Ends} {tu tz : TS}
theorem made_none {l : Vabldo.Log} {t : List Nat} {u : Vabldo.Used} (hn : Vabldo.isName t = true) (h1 : fileIn l.records t = some u) (h2 : makerIn l.records t = none) : encode (Vabldo.madeAnswer l t) = [1, (u.number : Int)] := by
  have e1 : Vabldo.numberOf l t = some u.number := by rw [number_eq, h1]; rfl
  have e2 : Vabldo.makerOf l t = none := h2
  unfold Vabldo.madeAnswer
  rw [if_neg (by rw [hn]; decide), e1, e2]
  rfl
theorem made_some {l : Vabldo.Log} {t : List Nat} {u : Vabldo.Used} {r : Vabldo.Record} (hn : Vabldo.isName t = true) (h1 : fileIn l.records t = some u) (h2 : makerIn l.records t = some r) : encode (Vabldo.madeAnswer l t) = toI (0 :: u.number :: r.name) := by
  have e1 : Vabldo.numberOf l t = some u.number := by rw [number_eq, h1]; rfl
  have e2 : Vabldo.makerOf l t = some r := h2
  unfold Vabldo.madeAnswer
  rw [if_neg (by rw [hn]; decide), e1, e2]
  rfl
theorem sc_answer_made : FnScope ["log", "name", "file", "maker"] ["log", "name"] (defScope s_answer_made) := ⟨rfl, rfl, rfl, by decide +kernel, rfl, by decide +kernel, by decide +kernel⟩
theorem ok_answer_made (T : Txt w K mg) (H_find_file : Has P0 w K mg base "find_file" 1 ["records", "name"] (sp_find_file K)) (H_find_maker : Has P0 w K mg base "find_maker" 1 ["records", "name"] (sp_find_maker K)) : Has P0 w K mg base "answer_made" 2 ["log", "name"] (sp_answer_made K) := by
  refine has_of T.f_answer_made T.g_answer_made sc_answer_made (fun _ _ _ _ _ _ us hl => match us, hl with | [_, _], _ => rfl) (fun vs H Q E h => by obtain ⟨_, ⟨v, l, b, t, u, rfl, hL, hk, hb, hu, hn, rfl⟩, _⟩ := h; rfl) (fun cdv A outer s H vs Q E hr h => ⟨_, PSs.nox (pss_cons (ps_set (i := 2) sc_answer_made.nd rfl (Or.inl rfl) (pe_h H_find_file (by exact hr.mono (by decide)) (by rfl) (pa_cons (pe_fld (pv 0) rfl) (pa_cons (pv 1) pa_nil)))) (pss_cons (ps_set (i := 3) sc_answer_made.nd rfl (Or.inl rfl) (pe_h H_find_maker (by exact hr.mono (by decide)) (by rfl) (pa_cons (pe_fld (pv 0) rfl) (pa_cons (pv 1) pa_nil)))) (pss_cons (ps_if (pt_cmpR op_isN (pv 3) pe_non (nomark _)) (pss_one (ps_ret (pe_lst (pa_cons pe_int (pa_cons (pe_fld (pv 2) rfl) pa_nil))))) pss_nil) (pss_one (ps_ret (pe_op op_cat (pe_lst (pa_cons pe_int (pa_cons (pe_fld (pv 2) rfl) pa_nil))) (pe_callTy call_list_of (by rfl) T.b_list (by decide +kernel) (pa_cons (pe_fld (pv 3) rfl) pa_nil)))))))), ?_⟩)
  obtain ⟨_, ⟨v, l, b, t, u, rfl, hL, hk, hb, hu, hn, rfl⟩, k⟩ := h
  obtain ⟨x, dx, rl, rs, rfl, hx, hrl, hA⟩ := hL
  refine q_asgP (ep_call (ea_cons (ev_fld (ev_var rfl) hx T.c_Log T.n_Log_records rfl) (ea_cons (ev_var rfl) ea_nil)) fun H1 e1 => ⟨rl, rs, l.records, b, t, rfl, e1 _ _ hrl, hA.mono mono_rec e1, hb.mono e1, rec_le hk, rfl⟩) fun f H1 e1 hf => ?_
  rw [hu] at hf
  have hf : FileAt K u f H1 := hf
  refine q_asgP (ep_call (ea_cons (ev_fld (ev_var rfl) (e1 _ _ hx) T.c_Log T.n_Log_records rfl) (ea_cons (ev_var rfl) ea_nil)) fun H2 e2 => ⟨rl, rs, l.records, b, t, rfl, (e1.trans e2) _ _ hrl, hA.mono mono_rec (e1.trans e2), hb.mono (e1.trans e2), rec_le hk, rfl⟩) fun m H2 e2 hm => ?_
  have hm := opt_fst hm
  refine q_when (b := (makerIn l.records t).isNone) (et_eq (et_test (ev_isNv (ev_var rfl))) (opt_isN (fun a v H h => rec_ref h) hm)) (fun hb2 H3 e3 => ?_) (fun hb2 H3 e3 => ?_)
  · have e0 := Option.isNone_iff_eq_none.mp hb2
    have hf3 := mono_file _ _ _ _ (e2.trans e3) hf
    refine s_retL (el_lst (ea_cons ev_c (ea_cons (ev_fnum T (ev_var rfl) hf3) ea_nil)) (show 2 ≤ 100000 by decide)) fun p H4 hp e4 h4 => k _ H4 (((e1.trans e2).trans e3).trans e4) ⟨p, rfl, fresh_back ((e1.trans e2).trans e3) hp, ?_⟩
    rw [made_none hn hu e0]
    exact h4
  · cases e0 : makerIn l.records t with
    | none =>
      rw [e0] at hb2
      cases hb2
    | some r =>
      rw [e0] at hm
      have hR : RecAt K r m H2 := hm
      have hf3 := mono_file _ _ _ _ (e2.trans e3) hf
      obtain ⟨s, hs, hsn⟩ := rname T (mono_rec _ _ _ _ e3 hR)
      have hnl := name_len (hk.nm r (maker_of_mem (l := l) e0).1).1
      have hEL := el_catLL (el_lst (ea_cons (ev_c (σ := [some (V.ref x), some (V.ref b), some f, some m]) (H := H3) (v := .int 0)) (ea_cons (ev_fnum T (ta := tVar 2) (ev_var rfl) hf3) ea_nil)) (show 2 ≤ 100000 by decide)) (el_listT (K := K) (ta := tFld K (tVar 3) "name") (hsn (ev_var rfl)) hs.sq) (by rw [tv_len]; show 2 + _ ≤ _; omega)
      refine s_retL hEL fun p H4 hp e4 h4 => k _ H4 (((e1.trans e2).trans e3).trans e4) ⟨p, rfl, fresh_back ((e1.trans e2).trans e3) hp, ?_⟩
      rw [made_some hn hu e0, toI_tv]
      exact h4
theorem listed_eq (ns : List (List Nat)) : encode (Vabldo.listed ns) = toI (ns.length :: Vabldo.lines ns) := rfl
theorem sc_answer_rests : FnScope ["log", "name"] ["log", "name"] (defScope s_answer_rests) := ⟨rfl, rfl, rfl, by decide +kernel, rfl, by decide +kernel, by decide +kernel⟩
theorem ok_answer_rests (T : Txt w K mg) (H_sources_below : Has P0 w K mg base "sources_below" 3 ["records", "name"] (sp_sources_below K)) (H_counted_lines : Has P0 w K mg base "counted_lines" 1 ["names"] (sp_counted_lines K)) : Has P0 w K mg base "answer_rests" 4 ["log", "name"] (sp_answer_rests K) := by
  refine has_of T.f_answer_rests T.g_answer_rests sc_answer_rests (fun _ _ _ _ _ _ us hl => match us, hl with | [_, _], _ => rfl) (fun vs H Q E h => by obtain ⟨_, ⟨v, l, b, t, rfl, hL, hk, hS, hb, rfl⟩, _⟩ := h; rfl) (fun cdv A outer s H vs Q E hr h => ⟨_, PSs.nox (pss_one (ps_ret (pe_h H_counted_lines (by exact hr.mono (by decide)) (by rfl) (pa_cons (pe_h H_sources_below (by exact hr.mono (by decide)) (by rfl) (pa_cons (pe_fld (pv 0) rfl) (pa_cons (pv 1) pa_nil))) pa_nil)))), ?_⟩)
  obtain ⟨_, ⟨v, l, b, t, rfl, hL, hk, hS, hb, rfl⟩, k⟩ := h
  obtain ⟨x, dx, rl, rs, rfl, hx, hrl, hA⟩ := hL
  have hle := rests_le hk t
  exact s_retP (ep_counted (ns := Vabldo.rests l t) (H0 := H) (PA := IsTs (Vabldo.rests l t)) (ep_callW (ea_cons (ev_fld (ev_var rfl) hx T.c_Log T.n_Log_records rfl) (ea_cons (ev_var rfl) ea_nil)) fun H1 e1 => ⟨_, ⟨rl, rs, l, b, t, rfl, e1 _ _ hrl, hA.mono mono_rec e1, hb.mono e1, hk, hS, rfl⟩, fun v H2 _ hv => hv.ts⟩) (fun _ _ h => h) (by omega) (Ex.refl H)) fun v H1 e1 hv => k v H1 e1 (ans_imp (listed_eq _).symm hv)
theorem ev_neZ {a b : Int} (h1 : Ev ta σ H (.int a)) (h2 : Ev tb σ H (.int b)) : Ev (tOp rNe ta tb) σ H (.bl (!decide (a = b))) := by
  have e : (!decide (V.int a = V.int b)) = !decide (a = b) := by
    congr 1
    exact decide_eq_decide.mpr ⟨fun h => by cases h; rfl, fun h => by rw [h]⟩
  rw [← e]
  exact ev_op h1 h2 (rv_ne rfl)
theorem file_ref0 {l : Vabldo.Log} {t : List Nat} (h : fileRef l t = 0) : Vabldo.isName t = true ∧ ∃ u, fileIn l.records t = some u := by
  unfold fileRef at h
  split at h
  · cases h
  · split at h
    · cases h
    · rename_i h1 h2
      refine ⟨by simpa using h1, ?_⟩
      cases q : fileIn l.records t with
      | none =>
        rw [q] at h2
        exact absurd rfl h2
      | some u => exact ⟨u, rfl⟩
theorem file_refN {l : Vabldo.Log} {t : List Nat} {c : Nat} (h : fileRef l t ≠ 0) : encode (fileAns c l t) = [fileRef l t] := by
  have hnum : ∀ o : Option Vabldo.Used, o.isNone = true → (o.map fun u => u.number).isNone = true := fun o ho => by
    cases o with
    | none => rfl
    | some u => cases ho
  unfold fileRef at h ⊢
  unfold fileAns Vabldo.madeAnswer
  by_cases hn : Vabldo.isName t = false
  · rw [if_pos hn, if_pos hn, if_pos hn]
    split <;> rfl
  · rw [if_neg hn] at h ⊢
    rw [if_neg hn, if_neg hn]
    by_cases hf : (fileIn l.records t).isNone = true
    · rw [if_pos hf]
      have e1 : Vabldo.numberOf l t = none := by
        rw [number_eq, Option.isNone_iff_eq_none.mp hf]
        rfl
      rw [e1]
      split
      · rfl
      · rfl
    · rw [if_neg hf] at h
      exact absurd rfl h
theorem sc_answer_of_file : FnScope ["call", "log", "name", "refusal"] ["call", "log", "name"] (defScope s_answer_of_file) := ⟨rfl, rfl, rfl, by decide +kernel, rfl, by decide +kernel, by decide +kernel⟩
theorem ok_answer_of_file (T : Txt w K mg) (H_file_refusal : Has P0 w K mg base "file_refusal" 5 ["log", "name"] (sp_file_refusal K)) (H_answer_made : Has P0 w K mg base "answer_made" 2 ["log", "name"] (sp_answer_made K)) (H_answer_rests : Has P0 w K mg base "answer_rests" 4 ["log", "name"] (sp_answer_rests K)) : Has P0 w K mg base "answer_of_file" 6 ["call", "log", "name"] (sp_answer_of_file K) := by
  refine has_of T.f_answer_of_file T.g_answer_of_file sc_answer_of_file (fun _ _ _ _ _ _ us hl => match us, hl with | [_, _, _], _ => rfl) (fun vs H Q E h => by obtain ⟨_, ⟨c, v, l, b, t, rfl, hL, hk, hS, hb, hz, rfl⟩, _⟩ := h; rfl) (fun cdv A outer s H vs Q E hr h => ⟨_, PSs.nox (pss_cons (ps_set (i := 3) sc_answer_of_file.nd rfl (Or.inl rfl) (pe_h H_file_refusal (by exact hr.mono (by decide)) (by rfl) (pa_cons (pv 1) (pa_cons (pv 2) pa_nil)))) (pss_cons (ps_if (pt_cmpR op_ne (pv 3) pe_int (nomark _)) (pss_one (ps_ret (pe_lst (pa_cons (pv 3) pa_nil)))) pss_nil) (pss_cons (ps_if (pt_cmpR op_eq (pv 0) (pe_gi (by rfl) T.i_MADE) (nomark _)) (pss_one (ps_ret (pe_h H_answer_made (by exact hr.mono (by decide)) (by rfl) (pa_cons (pv 1) (pa_cons (pv 2) pa_nil))))) pss_nil) (pss_one (ps_ret (pe_h H_answer_rests (by exact hr.mono (by decide)) (by rfl) (pa_cons (pv 1) (pa_cons (pv 2) pa_nil)))))))), ?_⟩)
  obtain ⟨_, ⟨c, v, l, b, t, rfl, hL, hk, hS, hb, hz, rfl⟩, k⟩ := h
  refine q_asg (ev_callR (ea_cons (ev_var rfl) (ea_cons (ev_var rfl) ea_nil)) fun H1 e1 => ⟨v, l, b, t, rfl, mono_log _ _ _ _ e1 hL, hk, hb.mono e1, hz, rfl⟩) fun H1 e1 => ?_
  refine q_when (b := !decide (fileRef l t = 0)) (et_test (ev_neZ (ev_var rfl) ev_c)) (fun hb1 H2 e2 => ?_) (fun hb1 H2 e2 => ?_)
  · have hne : fileRef l t ≠ 0 := by simpa using hb1
    refine s_retL (el_lst (ea_cons (ev_var rfl) ea_nil) (show 1 ≤ 100000 by decide)) fun p H3 hp e3 h3 => k _ H3 ((e1.trans e2).trans e3) ⟨p, rfl, fresh_back (e1.trans e2) hp, ?_⟩
    rw [file_refN hne]
    exact h3
  · have h0 : fileRef l t = 0 := by simpa using hb1
    obtain ⟨hn, u, hu⟩ := file_ref0 h0
    have e12 := e1.trans e2
    refine q_when (b := c == 5) (et_call (m := 5) (ev_var rfl)) (fun hb2 H3 e3 => ?_) (fun hb2 H3 e3 => ?_)
    · refine s_retP (ep_callW (Post := AnsI (encode (Vabldo.madeAnswer l t)) H) (ea_cons (ev_var rfl) (ea_cons (ev_var rfl) ea_nil)) fun H4 e4 => ⟨_, ⟨v, l, b, t, u, rfl, mono_log _ _ _ _ ((e12.trans e3).trans e4) hL, hk, hb.mono ((e12.trans e3).trans e4), hu, hn, rfl⟩, fun x H5 _ hx => hx.back ((e12.trans e3).trans e4)⟩) fun x H4 e4 hx => k x H4 ((e12.trans e3).trans e4) (ans_imp ?_ hx)
      unfold fileAns
      rw [if_pos (beq_iff_eq.mp hb2)]
    · refine s_retP (ep_callW (Post := AnsI (encode (Vabldo.listed (Vabldo.rests l t))) H) (ea_cons (ev_var rfl) (ea_cons (ev_var rfl) ea_nil)) fun H4 e4 => ⟨_, ⟨v, l, b, t, rfl, mono_log _ _ _ _ ((e12.trans e3).trans e4) hL, hk, hS, hb.mono ((e12.trans e3).trans e4), rfl⟩, fun x H5 _ hx => hx.back ((e12.trans e3).trans e4)⟩) fun x H4 e4 hx => k x H4 ((e12.trans e3).trans e4) (ans_imp ?_ hx)
      unfold fileAns
      rw [if_neg (beq_eq_false_iff_ne.mp hb2), if_neg (by rw [hn]; decide), number_eq, hu]
      rfl
end
end Bl

-- part W35
set_option Elab.async false
set_option linter.all false
set_option maxRecDepth 100000
set_option maxHeartbeats 4000000
namespace Bl
open PySem PySem.Spec PyProof.Rows L2 Evl
open VabldoNeutral (encode)
open LamX (ExtN Tabs TabB)
/-! ### the walks of logs.py, fourth part -/
def atS (sl : List (Option Vabldo.Log)) (k : Int) : Option Vabldo.Log := (sl[k.toNat]?).getD none
def sndS (sl : List (Option Vabldo.Log)) (k : Int) : Bool := match atS sl k with
  | some l => Vabldo.sound l
  | none => true
def logsRef (c : Nat) (sl : List (Option Vabldo.Log)) (ks : List Int) : Int := if ks.all Vabldo.slotOk = false then -1 else if (ks.any fun k => (atS sl k).isNone) = true then -2 else if (decide (5 ≤ c) && !ks.all (sndS sl)) = true then -6 else 0
abbrev sp_logs_refusal (K : PySem.W.Frag) : Sp := spR fun vs H Post => ∃ (c : Nat) (S : Addr) (sv : List V) (sl : List (Option Vabldo.Log)) (nq : Addr) (ks : List Int), vs = [.int (c : Int), .ref S, .ref nq] ∧ H S = some (.lst sv) ∧ All2 (fun o v => OptAt (LogAt K) o v H) sl sv ∧ sl.length = 4 ∧ (∀ l, some l ∈ sl → LogOk l) ∧ H nq = some (.lst (ks.map V.int)) ∧ ks.length ≤ 1000 ∧ Post = fun v _ => v = .int (logsRef c sl ks)
abbrev sp_answer_sorted (K : PySem.W.Frag) : Sp := fun vs H Q _ => ∃ (v : V) (l : Vabldo.Log), vs = [v] ∧ LogAt K l v H ∧ LogOk l ∧ Sd l.records ∧ Tabs (tabsOf K) H ∧ ∀ x H', ExtN H H' → Tabs (tabsOf K) H' → AnsI (encode (Vabldo.said (Vabldo.plain (Vabldo.sortedLog l)))) (noT H) x H' → Q x H'
section
variable {α : Type} {w : World} {K : PySem.W.Frag} {mg : Str → Option Value} {base : Heap} {σ : L2.St} {H H' : Hp} {ta tb tc te tl td ty : TE} {v y z : V} {D : Ends} {tu tz : TS}
theorem all2_ints : ∀ ks : List Int, All2 (fun (k : Int) (x : V) => x = .int k) ks (ks.map V.int)
  | [] => .nil
  | k :: ks => .cons rfl (all2_ints ks)
theorem it_ints {tl : TE} {a : Addr} {ks : List Int} (h : Ev tl σ H (.ref a)) (hx : H a = some (.lst (ks.map V.int))) : ItA [] (iList K tl) σ H ks (fun k x _ => x = .int k) := it_list h hx (all2_ints ks) (fun _ _ _ _ _ h => h) (by simp)
theorem slot_nat {k : Int} (h : Vabldo.slotOk k = true) : k = ((k.toNat : Nat) : Int) ∧ k.toNat < 4 := by
  unfold Vabldo.slotOk at h
  simp only [Bool.and_eq_true, decide_eq_true_eq] at h
  omega
theorem slot_at {sl : List (Option Vabldo.Log)} {sv : List V} {k : Int} (h : All2 (fun o v => OptAt (LogAt K) o v H) sl sv) (hl : sl.length = 4) (hk : Vabldo.slotOk k = true) : ∃ x, sv[k.toNat]? = some x ∧ OptAt (LogAt K) (atS sl k) x H ∧ sl[k.toNat]? = some (atS sl k) := by
  obtain ⟨_, h4⟩ := slot_nat hk
  have h1 : sl[k.toNat]? = some sl[k.toNat] := List.getElem?_eq_getElem (by omega)
  obtain ⟨x, hx, hr⟩ := h.getL h1
  have e : atS sl k = sl[k.toNat] := by
    unfold atS
    rw [h1]
    rfl
  refine ⟨x, hx, ?_, ?_⟩
  · rw [e]
    exact hr
  · rw [e]
    exact h1
theorem log_ref {l : Vabldo.Log} (h : LogAt K l v H) : v ≠ .non := by
  obtain ⟨x, dx, rl, rs, rfl, _⟩ := h
  intro z
  cases z
theorem ev_slot {S : Addr} {sv : List V} {k : Int} {x : V} (h1 : Ev ta σ H (.ref S)) (h2 : Ev tb σ H (.int k)) (hS : H S = some (.lst sv)) (hk : Vabldo.slotOk k = true) (hx : sv[k.toNat]? = some x) : Ev (tOp (rIxL K) ta tb) σ H x := by
  obtain ⟨e, _⟩ := slot_nat hk
  rw [e] at h2
  exact ev_lstAt h1 h2 hS hx
theorem sc_logs_refusal : FnScope ["call", "slots", "numbers", "k"] ["call", "slots", "numbers"] (defScope s_logs_refusal) := ⟨rfl, rfl, rfl, by decide +kernel, rfl, by decide +kernel, by decide +kernel⟩
theorem ok_logs_refusal (T : Txt w K mg) (H_is_slot : Has P0 w K mg base "is_slot" 1 ["k"] (sp_is_slot K)) (H_is_sound : Has P0 w K mg base "is_sound" 4 ["log"] (sp_is_sound K)) : Has P0 w K mg base "logs_refusal" 5 ["call", "slots", "numbers"] (sp_logs_refusal K) := by
  refine has_of T.f_logs_refusal T.g_logs_refusal sc_logs_refusal (fun _ _ _ _ _ _ us hl => match us, hl with | [_, _, _], _ => rfl) (fun vs H Q E h => by obtain ⟨_, ⟨c, S, sv, sl, nq, ks, rfl, hS, hA, h4, hok, hq, hz, rfl⟩, _⟩ := h; rfl) (fun cdv A outer s H vs Q E hr h => ⟨_, PSs.nox (pss_cons (ps_if (pt_not (pt_val (pe_callB (cr_all rfl) (by rfl) T.b_all (by decide +kernel) (pa_cons (pe_lc (own := [("k", 3)]) (g := gName 3) (te := (tCall _ [] E0 (tCons (tVar 3) tNil))) rfl sc_logs_refusal.nd (pi_list (pv 2)) (blkOk_by (own := [("k", 3)]) (N := ["call", "slots", "numbers", "k"]) (sc := defScope s_logs_refusal) (by decide +kernel)) (fun _ _ _ _ _ => pg_name (i := 3) sc_logs_refusal.nd rfl (Or.inl rfl)) (fun _ _ _ _ _ => pts_nil) (fun _ _ _ _ _ => (pe_h H_is_slot (by exact hr.mono (by decide)) (by rfl) (pa_cons (pv 3) pa_nil)))) pa_nil)))) (pss_one (ps_ret (pe_gi (by rfl) T.i_SLOT))) pss_nil) (pss_cons (ps_if (pt_val (pe_callB (cr_any rfl) (by rfl) T.b_any (by decide +kernel) (pa_cons (pe_lc (own := [("k", 3)]) (g := gName 3) (te := (tOp _ (tOp (rIxL K) (tVar 1) (tVar 3)) _)) rfl sc_logs_refusal.nd (pi_list (pv 2)) (blkOk_by (own := [("k", 3)]) (N := ["call", "slots", "numbers", "k"]) (sc := defScope s_logs_refusal) (by decide +kernel)) (fun _ _ _ _ _ => pg_name (i := 3) sc_logs_refusal.nd rfl (Or.inl rfl)) (fun _ _ _ _ _ => pts_nil) (fun _ _ _ _ _ => (pe_cmpR op_isN (pe_ix ix_list (pv 1) (pv 3) (fun _ _ => rfl)) pe_non (nomark _)))) pa_nil))) (pss_one (ps_ret (pe_gi (by rfl) T.i_NONE))) pss_nil) (pss_cons (ps_if (PW.pt (pw_and (pt_cmpR op_ge (pv 0) (pe_gi (by rfl) T.i_MADE) (nomark _)) (pw_and1 (pt_not (pt_val (pe_callB (cr_all rfl) (by rfl) T.b_all (by decide +kernel) (pa_cons (pe_lc (own := [("k", 3)]) (g := gName 3) (te := (tCall _ [] E0 (tCons (tOp (rIxL K) (tVar 1) (tVar 3)) tNil))) rfl sc_logs_refusal.nd (pi_list (pv 2)) (blkOk_by (own := [("k", 3)]) (N := ["call", "slots", "numbers", "k"]) (sc := defScope s_logs_refusal) (by decide +kernel)) (fun _ _ _ _ _ => pg_name (i := 3) sc_logs_refusal.nd rfl (Or.inl rfl)) (fun _ _ _ _ _ => pts_nil) (fun _ _ _ _ _ => (pe_h H_is_sound (by exact hr.mono (by decide)) (by rfl) (pa_cons (pe_ix ix_list (pv 1) (pv 3) (fun _ _ => rfl)) pa_nil)))) pa_nil))))))) (pss_one (ps_ret (pe_gi (by rfl) T.i_FAULTY))) pss_nil) (pss_one (ps_ret pe_int))))), ?_⟩)
  obtain ⟨_, ⟨c, S, sv, sl, nq, ks, rfl, hS, hA, h4, hok, hq, hz, rfl⟩, k⟩ := h
  refine q_when (b := !ks.all Vabldo.slotOk) (et_not (et_B (ev_isS (ev_all (bs := ks.map Vabldo.slotOk) ?_) (all_id _ _)))) (fun hb H1 e1 => ?_) (fun hb H1 e1 => ?_)
  · rw [List.map_map]
    refine el_map (l := ks) (A := fun k x _ => x = .int k) (V.bl ∘ Vabldo.slotOk) (it_ints (ev_var rfl) hq) (by omega) (fun _ => rfl) fun k x H1 _ e1 hx => ?_
    subst hx
    exact ev_callR (ea_cons (ev_var rfl) ea_nil) fun H2 e2 => ⟨k, rfl, rfl⟩
  · refine s_ret ev_c fun H2 e2 => k _ H2 (e1.trans e2) ?_
    unfold logsRef
    rw [if_pos (by simpa using hb)]
  · have hall : ks.all Vabldo.slotOk = true := by simpa using hb
    have hsl : ∀ k ∈ ks, Vabldo.slotOk k = true := List.all_eq_true.mp hall
    have n1 : ¬ ks.all Vabldo.slotOk = false := by rw [hall]; decide
    refine q_when (b := ks.any fun k => (atS sl k).isNone) (et_B (ev_isS (ev_any (bs := ks.map fun k => (atS sl k).isNone) ?_) (any_id _ _))) (fun hb2 H2 e2 => ?_) (fun hb2 H2 e2 => ?_)
    · rw [List.map_map]
      refine el_map (l := ks) (A := fun k x _ => x = .int k) (V.bl ∘ fun k => (atS sl k).isNone) (it_ints (ev_var rfl) (e1 _ _ hq)) (by omega) (fun _ => rfl) fun k x H2 hk e2 hx => ?_
      subst hx
      have e12 := e1.trans e2
      obtain ⟨y, hy, hyo, _⟩ := slot_at (hA.mono (mono_opt mono_log) e12) h4 (hsl k hk)
      exact ev_isS (ev_isNv (ev_slot (ev_var rfl) (ev_var rfl) (e12 _ _ hS) (hsl k hk) hy)) (opt_isN (fun _ _ _ h => log_ref h) hyo)
    · refine s_ret ev_c fun H3 e3 => k _ H3 ((e1.trans e2).trans e3) ?_
      unfold logsRef
      rw [if_neg n1, if_pos hb2]
    · have n2 : ¬ (ks.any fun k => (atS sl k).isNone) = true := by rw [hb2]; exact Bool.false_ne_true
      have e12 := e1.trans e2
      refine q_when (b := decide (5 ≤ c) && !ks.all (sndS sl)) (et_and (et_eq (et_test (ev_op (ev_var rfl) ev_c rv_I0)) ?_) fun _ => et_not (et_B (ev_isS (ev_all (bs := ks.map (sndS sl)) ?_) (all_id _ _)))) (fun hb3 H3 e3 => ?_) (fun hb3 H3 e3 => ?_)
      · exact decide_eq_decide.mpr (by constructor <;> intro h <;> omega)
      · rw [List.map_map]
        refine el_map (l := ks) (A := fun k x _ => x = .int k) (V.bl ∘ sndS sl) (it_ints (ev_var rfl) (e12 _ _ hq)) (by omega) (fun _ => rfl) fun k x H3 hk e3 hx => ?_
        subst hx
        have e13 := e12.trans e3
        obtain ⟨y, hy, hyo, hys⟩ := slot_at (hA.mono (mono_opt mono_log) e13) h4 (hsl k hk)
        cases ho : atS sl k with
        | none =>
          have : (ks.any fun k => (atS sl k).isNone) = true := List.any_eq_true.mpr ⟨k, hk, by rw [ho]; rfl⟩
          exact absurd this n2
        | some l =>
          rw [ho] at hyo hys
          have es : sndS sl k = Vabldo.sound l := by
            unfold sndS
            rw [ho]
          show Ev _ _ _ (V.bl (sndS sl k))
          rw [es]
          exact ev_callR (ea_cons (ev_slot (ev_var rfl) (ev_var rfl) (e13 _ _ hS) (hsl k hk) hy) ea_nil) fun H4 e4 => ⟨y, l, rfl, mono_log _ _ _ _ e4 hyo, hok l (List.mem_of_getElem? hys), rfl⟩
      · refine s_ret ev_c fun H4 e4 => k _ H4 ((e12.trans e3).trans e4) ?_
        unfold logsRef
        rw [if_neg n1, if_neg n2, if_pos hb3]
      · refine s_ret ev_c fun H4 e4 => k _ H4 ((e12.trans e3).trans e4) ?_
        unfold logsRef
        rw [if_neg n1, if_neg n2, if_neg (by rw [hb3]; exact Bool.false_ne_true)]
theorem sorted_sub {l : Vabldo.Log} : ∀ r ∈ (Vabldo.sortedLog l).records, r ∈ l.records := by
  have key : ∀ (k : Nat) (lf dn : List Vabldo.Record), (∀ r ∈ lf, r ∈ l.records) → (∀ r ∈ dn, r ∈ l.records) → ∀ r ∈ Vabldo.arranged l k lf dn, r ∈ l.records := by
    intro k
    induction k with
    | zero => intro lf dn _ h2; exact h2
    | succ k ih =>
      intro lf dn h1 h2 r hr
      unfold Vabldo.arranged at hr
      split at hr
      · rename_i x hx
        refine ih _ _ (fun y hy => h1 y (List.mem_filter.mp hy).1) (fun y hy => ?_) r hr
        rcases List.mem_append.mp hy with hy | hy
        · exact h2 y hy
        · rw [List.mem_singleton.mp hy]
          unfold Vabldo.nextOne at hx
          simp only [Option.bind_eq_some_iff] at hx
          obtain ⟨n, _, hf⟩ := hx
          obtain ⟨a, b, e, _⟩ := find_split hf
          have : x ∈ lf.filter fun r => r.ins.all fun u => (Vabldo.makerOf l u.file).isNone || dn.any fun x => Vabldo.makes x u.file := by rw [e]; simp
          exact h1 x (List.mem_filter.mp this).1
      · exact h2 r hr
  exact key _ _ _ (fun r h => h) (fun r h => by cases h)
theorem arr_len {l : Vabldo.Log} : ∀ (k : Nat) (lf dn : List Vabldo.Record), (Vabldo.arranged l k lf dn).length ≤ k + dn.length := by
  intro k
  induction k with
  | zero => intro lf dn; exact Nat.le_of_eq (Nat.zero_add _).symm
  | succ k ih =>
    intro lf dn
    unfold Vabldo.arranged
    split
    · rename_i x hx
      have := ih (lf.filter fun y => y.name != x.name) (dn ++ [x])
      rw [List.length_append, List.length_singleton] at this
      omega
    · omega
end
end Bl

-- part W36
set_option Elab.async false
set_option linter.all false
set_option maxRecDepth 100000
set_option maxHeartbeats 4000000
namespace Bl
open PySem PySem.Spec PyProof.Rows L2 Evl
open VabldoNeutral (encode)
open LamX (ExtN Tabs TabB)
/-! ### the walks of logs.py, fifth part -/
def readSl (sl : List (Option Vabldo.Log)) (k : Int) (t : List Nat) : List (Option Vabldo.Log) × Vabldo.Answer := if Vabldo.slotOk k = false then (sl, Vabldo.no (-1)) else match Vabldo.readLog t with
  | .error e => (sl, Vabldo.no (-((e.1 : Nat) : Int)))
  | .ok l => (sl.set k.toNat (some l), Vabldo.num l.records.length [])
def dropSl (sl : List (Option Vabldo.Log)) (k : Int) (l : Vabldo.Log) (t : List Nat) : List (Option Vabldo.Log) × Vabldo.Answer := if Vabldo.isName t = false then (sl, Vabldo.no (-7)) else if (recIn l.records t).isNone = true then (sl, Vabldo.no (-8)) else (sl.set k.toNat (some ⟨l.records.filter fun x => x.name != t, (l.records.filter fun x => x.name != t).length⟩), Vabldo.num (l.records.filter fun x => x.name != t).length [])
/-- the four logs, as they lie in the heap -/
structure SlW (K : PySem.W.Frag) (sl : List (Option Vabldo.Log)) (S : Addr) (H : Hp) : Prop where
  ex : ∃ sv, H S = some (.lst sv) ∧ All2 (fun o v => OptAt (LogAt K) o v (minus H [S])) sl sv
  four : sl.length = 4
  ok : ∀ l, some l ∈ sl → LogOk l
abbrev sp_answer_read (K : PySem.W.Frag) : Sp := fun vs H Q _ => ∃ (S : Addr) (sl : List (Option Vabldo.Log)) (k : Int) (b : Addr) (t : List Nat), vs = [.ref S, .int k, .ref b] ∧ SlW K sl S H ∧ Tx H b t ∧ t.length ≤ 10000 ∧ ∀ x H', Ex (minus H [S]) H' → SlW K (readSl sl k t).1 S H' → AnsI (encode (readSl sl k t).2) H x H' → Q x H'
abbrev sp_answer_drop (K : PySem.W.Frag) : Sp := fun vs H Q _ => ∃ (S : Addr) (sl : List (Option Vabldo.Log)) (k : Int) (b : Addr) (t : List Nat) (l : Vabldo.Log), vs = [.ref S, .int k, .ref b] ∧ SlW K sl S H ∧ Vabldo.slotOk k = true ∧ atS sl k = some l ∧ Tx H b t ∧ t.length ≤ 40000 ∧ ∀ x H', Ex (minus H [S]) H' → SlW K (dropSl sl k l t).1 S H' → AnsI (encode (dropSl sl k l t).2) H x H' → Q x H'
section
variable {α : Type} {w : World} {K : PySem.W.Frag} {mg : Str → Option Value} {base : Heap} {σ : L2.St} {H H' : Hp} {ta tb tc te tl td ty : TE} {v y z : V} {D : Ends} {tu tz : TS}
theorem t_ret (h : te σ H D.rt) : tRet te D σ H := h
theorem t_op {r : R2} {Q : VK} (h : ta σ H fun x H1 => tb σ H1 fun y H2 => r x y H2 Q) : tOp r ta tb σ H Q := h
theorem t_call {sp : Sp} {E : XK} {t : TA} {Q : VK} (h : t σ H fun vs H1 => sp (vs ++ []) H1 Q E) : tCall sp [] E t σ H Q := h
theorem t_make {C : Addr} {sp : Sp} {E : XK} {t : TA} {Q : VK} (h : t σ H fun vs H1 => ∀ x dx, H1 x = none → H1 dx = none → dx ≠ x → sp (.ref x :: (vs ++ [])) (upd (upd H1 dx (.own x)) x (.ins C dx [])) (fun v H2 => v = .non ∧ Q (.ref x) H2) E) : tMake C sp [] E t σ H Q := h
theorem t_cons1 {Q : List V → Hp → Prop} (h : ta σ H fun x H1 => Q [x] H1) : tCons ta tNil σ H Q := h
theorem t_cons2 {t : TA} {Q : List V → Hp → Prop} (h : ta σ H fun x H1 => t σ H1 fun vs H2 => Q (x :: vs) H2) : tCons ta t σ H Q := h
theorem sorted_len {l : Vabldo.Log} (hk : LogOk l) : (Vabldo.plain (Vabldo.sortedLog l)).length ≤ 60000 ∧ ∀ r ∈ (Vabldo.sortedLog l).records, RecOkP r := by
  obtain ⟨_, hn, hr⟩ := hk.prt
  have h0 : ∀ r ∈ (Vabldo.sortedLog l).records, RecOkP r := fun r h => hr r (sorted_sub r h)
  have h1 := flat_le Vabldo.recordText 1600 (Vabldo.sortedLog l).records fun r h => rec_len (h0 r h)
  have h2 := dec_le20 (Vabldo.sortedLog l).told
  have h3 : (Vabldo.sortedLog l).records.length ≤ (l.records.length + 1) + 0 := arr_len _ _ _
  refine ⟨?_, h0⟩
  unfold Vabldo.plain
  have e1 : (Vabldo.str "end ").length = 4 := by decide
  have e2 : (Vabldo.str ";\n").length = 2 := by decide
  simp only [List.length_append]
  omega
theorem sc_answer_sorted : FnScope ["log"] ["log"] (defScope s_answer_sorted) := ⟨rfl, rfl, rfl, by decide +kernel, rfl, by decide +kernel, by decide +kernel⟩
theorem ok_answer_sorted (T : Txt w K mg) (H_sorted_records : Has P0 w K mg base "sorted_records" 4 ["records"] (sp_sorted_records K)) (H_Log : HasC P0 w K mg base "Log" 1 ["self", "records", "total"] (sp_Log K) ["records", "total"]) (H_plain_text : Has P0 w K mg base "plain_text" 4 ["log"] (sp_plain_text K)) : Has P0 w K mg base "answer_sorted" 5 ["log"] (sp_answer_sorted K) := by
  refine has_of T.f_answer_sorted T.g_answer_sorted sc_answer_sorted (fun _ _ _ _ _ _ us hl => match us, hl with | [_], _ => rfl) (fun vs H Q E h => by obtain ⟨v, l, rfl, hL, hk, hS, hT, k⟩ := h; rfl) (fun cdv A outer s H vs Q E hr h => ⟨_, PSs.nox (pss_one (ps_ret (pe_op op_cat (pe_lst (pa_cons pe_int pa_nil)) (pe_h H_plain_text (by exact hr.mono (by decide)) (by rfl) (pa_cons (pe_hc H_Log (by exact hr.mono (by decide)) (by rfl) (pa_cons (pe_h H_sorted_records (by exact hr.mono (by decide)) (by rfl) (pa_cons (pe_fld (pv 0) rfl) pa_nil)) (pa_cons (pe_fld (pv 0) rfl) pa_nil))) pa_nil))))), ?_⟩)
  obtain ⟨v, l, rfl, hL, hk, hS, hT, k⟩ := h
  obtain ⟨ht, hn, _⟩ := hk.prt
  obtain ⟨hpl, hro⟩ := sorted_len hk
  refine t_ret (t_op (el_lst (vs := [.int 0]) (ea_cons ev_c ea_nil) (show 1 ≤ 100000 by decide) H (Ex.refl H) _ fun z H1 hz e1 h1 => t_call (t_cons1 (t_make (t_cons2 (t_call (t_cons1 ?_)))))))
  have hL1 := mono_log _ _ _ _ e1 hL
  obtain ⟨x, dx, rl, rs, rfl, hx, hrl, hA⟩ := hL1
  refine (ev_fld (K := K) (ta := tVar 0) (ev_var rfl) hx T.c_Log T.n_Log_records rfl) H1 (Ex.refl H1) _ fun H2 e2 => ?_
  refine ⟨rl, rs, l, rfl, e2 _ _ hrl, hA.mono mono_rec e2, hk, hS, hT.ext (e1.trans e2), fun v3 H3 eN3 hT3 hv3 => ?_⟩
  obtain ⟨q3, ys, rfl, hq30, hq3, hY⟩ := hv3
  have hx3 := eN3 _ _ (e2 _ _ hx) (fun ps z => nomatch z)
  refine t_cons1 ((ev_fld (K := K) (ta := tVar 0) (ev_var rfl) hx3 T.c_Log T.n_Log_total rfl) H3 (Ex.refl H3) _ fun H4 e4 => ?_)
  show tMake (He.ga K "Log") (sp_Log K) [] E0 (tCons (tC (V.ref q3)) (tCons (tC (V.int (l.told : Int))) tNil)) [some (V.ref x)] H4 (fun y H2 => sp_plain_text K ([y] ++ []) H2 (fun y H2 => rCat (V.ref z) y H2 Q) E0)
  refine (ep_log (σ := [some (V.ref x)]) (E := E0) (l := Vabldo.sortedLog l) (ta := tC (.ref q3)) (tb := tC (.int (l.told : Int))) ev_c (e4 _ _ hq3) (hY.mono mono_rec e4) ev_c) H4 (Ex.refl H4) _ fun lv H5 e5 hlv => ?_
  refine ⟨_, ⟨lv, Vabldo.sortedLog l, rfl, hlv, fun r h => rec_sm (hro r h), Nat.lt_of_le_of_lt ht (by decide), by omega, rfl⟩, fun y H6 e6 hy => ?_⟩
  obtain ⟨p6, rfl, hp60, hp6⟩ := hy
  have hz6 : H6 z = some (.lst [.int 0]) := (e4.trans (e5.trans e6)) _ _ (eN3 _ _ (e2 _ _ h1) (fun ps z => nomatch z))
  refine (el_cat (σ := [some (V.ref x)]) (ta := tC (.ref z)) (tb := tC (.ref p6)) ev_c ev_c hz6 hp6 (by rw [tv_len]; show 1 + _ ≤ _; omega)) H6 (Ex.refl H6) _ fun p7 H7 hp7 e7 h7 => ?_
  have eN : ExtN H H6 := LamX.ExtN.trans (LamX.ExtN.trans (exN (e1.trans e2)) eN3) (exN (e4.trans (e5.trans e6)))
  refine k _ H7 (LamX.ExtN.trans eN (exN e7)) (hT3.ext (e4.trans (e5.trans (e6.trans e7)))) ⟨p7, rfl, ?_, ?_⟩
  · rcases freshN eN hp7 with h | ⟨ps, h⟩
    · unfold noT
      rw [h]
    · unfold noT
      rw [h]
  · rw [h7]
    show some (HO.lst (.int 0 :: tv (Vabldo.plain (Vabldo.sortedLog l)))) = some (.lst (.int 0 :: ((toI (Vabldo.plain (Vabldo.sortedLog l))).map V.int)))
    rw [toI_tv]
/-! ### nothing of a log is the list of the four -/
theorem not_slots {A : α → V → Hp → Prop} {as : List α} {ys sv : List V} {sl : List (Option Vabldo.Log)} {b S : Addr} (hA : All2 (fun a v => A a v H) as ys) (hb : H b = some (.lst ys)) (hS : H S = some (.lst sv)) (h : All2 (fun o v => OptAt (LogAt K) o v H) sl sv) (h4 : sl.length = 4) (hn : ∀ a v, A a v H → v ≠ .non ∧ ∀ l, ¬ LogAt K l v H) : b ≠ S := fun e => by
  rw [e, hS] at hb
  cases hb
  cases h with
  | nil => cases h4
  | cons h1 h2 =>
    rename_i o sl v sv
    cases hA with
    | cons g1 g2 =>
      obtain ⟨n1, n2⟩ := hn _ _ g1
      cases o with
      | none => exact n1 h1
      | some l => exact n2 l h1
theorem tx_nolog {t : List Nat} {v : V} (h : IsTx t v H) : v ≠ .non ∧ ∀ l, ¬ LogAt K l v H := by
  obtain ⟨a, rfl, ha⟩ := h
  refine ⟨(fun z => nomatch z), fun l hl => ?_⟩
  obtain ⟨x, dx, rl, rs, e, hx, _⟩ := hl
  cases e
  rw [show H a = some (.tup (tv t)) from ha] at hx
  cases hx
theorem file_nolog {u : Vabldo.Used} {v : V} (h : FileAt K u v H) : v ≠ .non ∧ ∀ l, ¬ LogAt K l v H := by
  obtain ⟨a, dx, s, rfl, ha, _⟩ := h
  refine ⟨(fun z => nomatch z), fun l hl => ?_⟩
  obtain ⟨x, dx, rl, rs, e, hx, _⟩ := hl
  cases e
  rw [ha] at hx
  have h1 := Option.some.inj hx
  injection h1 with _ _ h2
  injection h2 with h3 _
  exact absurd (show ("name" : Str) = "records" from congrArg Prod.fst h3) (by decide)
theorem rec_nolog {r : Vabldo.Record} {v : V} (h : RecAt K r v H) : v ≠ .non ∧ ∀ l, ¬ LogAt K l v H := by
  refine ⟨rec_ref h, fun l hl => ?_⟩
  obtain ⟨p, dx, nm, tl, a1, a2, a3, xs1, xs2, xs3, rfl, hX⟩ := h
  obtain ⟨x, dx, rl, rs, e, hx, _⟩ := hl
  cases e
  rw [hX.o] at hx
  have h1 := Option.some.inj hx
  unfold recO at h1
  injection h1 with _ _ h2
  injection h2 with h3 _
  exact absurd (show ("way" : Str) = "records" from congrArg Prod.fst h3) (by decide)
theorem rec_minusS {r : Vabldo.Record} {v : V} {S : Addr} {sv : List V} {sl : List (Option Vabldo.Log)} (h : RecAt K r v H) (hS : H S = some (.lst sv)) (hA : All2 (fun o v => OptAt (LogAt K) o v H) sl sv) (h4 : sl.length = 4) : RecAt K r v (minus H [S]) := by
  obtain ⟨p, dx, nm, tl, a1, a2, a3, xs1, xs2, xs3, e, hX⟩ := h
  have n0 : ∀ {b : Addr} {o : HO}, H b = some o → (∀ xs, o ≠ .lst xs) → b ∉ [S] := fun hb ho => by rw [List.mem_singleton]; exact ne_of hb hS (ho _)
  have g : ∀ {b : Addr} {o : HO}, H b = some o → b ≠ S → minus H [S] b = some o := fun hb n => minus_get hb (by rw [List.mem_singleton]; exact n)
  have tx : ∀ {t : List Nat} {v : V}, IsTx t v H → IsTx t v (minus H [S]) := fun h => tx_minus h hS
  have fl : ∀ {u : Vabldo.Used} {v : V}, FileAt K u v H → FileAt K u v (minus H [S]) := fun h => by
    obtain ⟨x, dx, s, e, hx, hs⟩ := h
    exact ⟨x, dx, s, e, minus_get hx (n0 hx (by intro _ z; cases z)), minus_get hs (n0 hs (by intro _ z; cases z))⟩
  exact ⟨p, dx, nm, tl, a1, a2, a3, xs1, xs2, xs3, e, minus_get hX.o (n0 hX.o (by intro _ z; cases z)), g hX.l1 (not_slots hX.ar hX.l1 hS hA h4 fun _ _ h => tx_nolog h), g hX.l2 (not_slots hX.i hX.l2 hS hA h4 fun _ _ h => file_nolog h), g hX.l3 (not_slots hX.ou hX.l3 hS hA h4 fun _ _ h => file_nolog h), minus_get hX.nm (n0 hX.nm (by intro _ z; cases z)), minus_get hX.tl (n0 hX.tl (by intro _ z; cases z)), hX.ar.imp fun _ _ h => tx h, hX.i.imp fun _ _ h => fl h, hX.ou.imp fun _ _ h => fl h⟩
theorem log_minusS {l : Vabldo.Log} {v : V} {S : Addr} {sv : List V} {sl : List (Option Vabldo.Log)} (h : LogAt K l v H) (hS : H S = some (.lst sv)) (hA : All2 (fun o v => OptAt (LogAt K) o v H) sl sv) (h4 : sl.length = 4) : LogAt K l v (minus H [S]) := by
  obtain ⟨x, dx, rl, rs, e, hx, hr, hR⟩ := h
  exact ⟨x, dx, rl, rs, e, minus_get hx (by rw [List.mem_singleton]; exact ne_of hx hS (by intro z; cases z)), minus_get hr (by rw [List.mem_singleton]; exact not_slots hR hr hS hA h4 fun _ _ h => rec_nolog h), hR.imp fun _ _ h => rec_minusS h hS hA h4⟩
theorem SlW.mono {sl : List (Option Vabldo.Log)} {S : Addr} (h : SlW K sl S H) (e : Ex H H') : SlW K sl S H' := by
  obtain ⟨sv, h1, h2⟩ := h.ex
  exact ⟨⟨sv, e _ _ h1, h2.mono (mono_opt mono_log) (Ex.minus e)⟩, h.four, h.ok⟩
theorem slw_set {sl : List (Option Vabldo.Log)} {S : Addr} {sv : List V} {j : Nat} {l : Vabldo.Log} {v : V} (h1 : H S = some (.lst sv)) (h2 : All2 (fun o v => OptAt (LogAt K) o v (minus H [S])) sl sv) (h4 : sl.length = 4) (hok : ∀ l, some l ∈ sl → LogOk l) (hl : LogAt K l v H) (hk : LogOk l) : SlW K (sl.set j (some l)) S (upd H S (.lst (sv.set j v))) := by
  have h2' : All2 (fun o v => OptAt (LogAt K) o v H) sl sv := h2.mono (mono_opt mono_log) minus_ex
  have hl' := log_minusS hl h1 h2' h4
  refine ⟨⟨_, upd_same, ?_⟩, by rw [List.length_set]; exact h4, fun l' hl' => ?_⟩
  · rw [minus_upd (by simp)]
    have key : ∀ {as : List (Option Vabldo.Log)} {bs : List V} (j : Nat), All2 (fun o v => OptAt (LogAt K) o v (minus H [S])) as bs → All2 (fun o v => OptAt (LogAt K) o v (minus H [S])) (as.set j (some l)) (bs.set j v) := by
      intro as bs j h
      induction h generalizing j with
      | nil => exact .nil
      | cons g1 g2 ih =>
        cases j with
        | zero => exact .cons hl' g2
        | succ j => exact .cons g1 (ih j)
    exact key j h2
  · rcases List.mem_or_eq_of_mem_set hl' with z | z
    · exact hok l' z
    · cases z
      exact hk
end
end Bl

-- part W37
set_option Elab.async false
set_option linter.all false
set_option maxRecDepth 100000
set_option maxHeartbeats 4000000
namespace Bl
open PySem PySem.Spec PyProof.Rows L2 Evl
open VabldoNeutral (encode)
open LamX (ExtN Tabs TabB)
/-! ### the walks of logs.py, sixth part -/
section
variable {α : Type} {w : World} {K : PySem.W.Frag} {mg : Str → Option Value} {base : Heap} {σ : L2.St} {H H' : Hp} {ta tb tc te tl td ty : TE} {v y z : V} {D : Ends} {tu tz : TS}
theorem read_bad {sl : List (Option Vabldo.Log)} {k : Int} {t : List Nat} (h : Vabldo.slotOk k = false) : readSl sl k t = (sl, Vabldo.no (-1)) := by
  unfold readSl
  rw [if_pos h]
theorem read_error {sl : List (Option Vabldo.Log)} {k : Int} {t : List Nat} {e : Nat × Nat} (h : Vabldo.slotOk k = true) (hr : Vabldo.readLog t = .error e) : readSl sl k t = (sl, Vabldo.no (-((e.1 : Nat) : Int))) := by
  unfold readSl
  rw [if_neg (by rw [h]; decide), hr]
theorem read_good {sl : List (Option Vabldo.Log)} {k : Int} {t : List Nat} {l : Vabldo.Log} (h : Vabldo.slotOk k = true) (hr : Vabldo.readLog t = .ok l) : readSl sl k t = (sl.set k.toNat (some l), Vabldo.num l.records.length []) := by
  unfold readSl
  rw [if_neg (by rw [h]; decide), hr]
theorem sc_answer_read : FnScope ["slots", "k", "text", "reading"] ["slots", "k", "text"] (defScope s_answer_read) := ⟨rfl, rfl, rfl, by decide +kernel, rfl, by decide +kernel, by decide +kernel⟩
theorem ok_answer_read (T : Txt w K mg) (H_is_slot : Has P0 w K mg base "is_slot" 1 ["k"] (sp_is_slot K)) (H_read_log : Has P0 w K mg base "read_log" 7 ["text"] (sp_read_log K)) : Has P0 w K mg base "answer_read" 8 ["slots", "k", "text"] (sp_answer_read K) := by
  refine has_of T.f_answer_read T.g_answer_read sc_answer_read (fun _ _ _ _ _ _ us hl => match us, hl with | [_, _, _], _ => rfl) (fun vs H Q E h => by obtain ⟨S, sl, k0, b, t, rfl, hSl, hb, hz, k⟩ := h; rfl) (fun cdv A outer s H vs Q E hr h => ⟨_, PSs.nox (pss_cons (ps_if (pt_not (pt_val (pe_h H_is_slot (by exact hr.mono (by decide)) (by rfl) (pa_cons (pv 1) pa_nil)))) (pss_one (ps_ret (pe_lst (pa_cons (pe_gi (by rfl) T.i_SLOT) pa_nil)))) pss_nil) (pss_cons (ps_set (i := 3) sc_answer_read.nd rfl (Or.inl rfl) (pe_h H_read_log (by exact hr.mono (by decide)) (by rfl) (pa_cons (pv 2) pa_nil))) (pss_cons (ps_if (pt_cmpR op_ne (pe_fld (pv 3) rfl) pe_int (nomark _)) (pss_one (ps_ret (pe_lst (pa_cons (pe_fld (pv 3) rfl) pa_nil)))) pss_nil) (pss_cons (ps_asg (pe_fld (pv 3) rfl) (pg_sub (pv 0) (pv 1) set_list)) (pss_one (ps_ret (pe_lst (pa_cons (pe_callB call_len_seq (by rfl) T.b_len PySem.boot_len (pa_cons (pe_fld (pe_fld (pv 3) rfl) rfl) pa_nil)) pa_nil)))))))), ?_⟩)
  obtain ⟨S, sl, k0, b, t, rfl, hSl, hb, hz, k⟩ := h
  obtain ⟨sv, hS, hA⟩ := hSl.ex
  refine q_when (b := !Vabldo.slotOk k0) (et_not (et_B (ev_callR (ea_cons (ev_var rfl) ea_nil) fun H1 e1 => ⟨k0, rfl, rfl⟩))) (fun hb1 H1 e1 => ?_) (fun hb1 H1 e1 => ?_)
  · have hsf : Vabldo.slotOk k0 = false := by simpa using hb1
    rw [read_bad hsf] at k
    exact s_no fun p H2 hp e2 h2 => k _ H2 (Ex.m (e1.trans e2)) (hSl.mono (e1.trans e2)) ⟨p, rfl, fresh_back e1 hp, h2⟩
  · have hst : Vabldo.slotOk k0 = true := by simpa using hb1
    refine q_asgP (ep_call (Post := ReadAt K t) (ea_cons (ev_var rfl) ea_nil) fun H2 e2 => ⟨b, t, rfl, hb.mono (e1.trans e2), hz, rfl⟩) fun v H2 e2 hv => ?_
    obtain ⟨x, dx, rfl, hv⟩ := hv
    have e12 := e1.trans e2
    cases hr : Vabldo.readLog t with
    | error e =>
      rw [hr] at hv
      rw [read_error hst hr] at k
      have hne := read_err hr
      refine q_when (b := true) (et_eq (et_test (ev_neZ (ev_fld (ev_var rfl) hv T.c_Reading T.n_Reading_refusal rfl) ev_c)) ?_) (fun _ H3 e3 => ?_) (fun h => by cases h)
      · have : ¬ (-((e.1 : Nat) : Int)) = 0 := by omega
        rw [decide_eq_false this]
        rfl
      · exact s_retL (el_lst (ea_cons (ev_fld (ev_var rfl) (e3 _ _ hv) T.c_Reading T.n_Reading_refusal rfl) ea_nil) (show 1 ≤ 100000 by decide)) fun p H4 hp e4 h4 => k _ H4 (Ex.m ((e12.trans e3).trans e4)) (hSl.mono ((e12.trans e3).trans e4)) ⟨p, rfl, fresh_back (e12.trans e3) hp, h4⟩
    | ok l =>
      rw [hr] at hv
      rw [read_good hst hr] at k
      obtain ⟨lv, hv, hlv⟩ := hv
      obtain ⟨ek, hk4⟩ := slot_nat hst
      refine q_when (b := false) (et_eq (et_test (ev_neZ (ev_fld (ev_var rfl) hv T.c_Reading T.n_Reading_refusal rfl) ev_c)) rfl) (fun h => by cases h) (fun _ H3 e3 => ?_)
      have e13 := e12.trans e3
      have hj : k0.toNat < sv.length := by
        rw [← hA.len, hSl.four]
        exact hk4
      refine q_setL (e13 _ _ hS) (ev_fld (ev_var rfl) (e3 _ _ hv) T.c_Reading T.n_Reading_log rfl) (ev_var rfl) (by rw [← ek]; exact ev_var rfl) hj fun H4 e4 => ?_
      have hS4 := (e13.trans e4) _ _ hS
      have hA4 := hA.mono (mono_opt mono_log) (Ex.minus (M := [S]) (e13.trans e4))
      have hlv4 := mono_log _ _ _ _ (e3.trans e4) hlv
      have hlm := log_minusS hlv4 hS4 (hA4.mono (mono_opt mono_log) minus_ex) hSl.four
      have hSl5 : SlW K (sl.set k0.toNat (some l)) S (upd H4 S (.lst (sv.set k0.toNat lv))) := slw_set hS4 hA4 hSl.four hSl.ok hlv4 (read_ok hr)
      have eU : Ex (minus H4 [S]) (upd H4 S (.lst (sv.set k0.toNat lv))) := ex_mut (by simp)
      have hl5 := mono_log _ _ _ _ eU hlm
      have hx5 : upd H4 S (.lst (sv.set k0.toNat lv)) x = some (.ins (He.ga K "Reading") dx [("refusal", .int 0), ("place", .int 0), ("log", lv)]) := by
        rw [upd_ne (ne_of ((e3.trans e4) _ _ hv) hS4 (by intro z; cases z))]
        exact (e3.trans e4) _ _ hv
      obtain ⟨x2, dx2, rl, rs, rfl, hx2, hrl, hAr⟩ := hl5
      have hrn := hAr.len
      refine s_retL (el_lst (ea_cons (ev_lenLs (ev_fld (ev_fld (ev_var rfl) hx5 T.c_Reading T.n_Reading_log rfl) hx2 T.c_Log T.n_Log_records rfl) hrl) ea_nil) (show 1 ≤ 100000 by decide)) fun p H6 hp e6 h6 => k _ H6 ((Ex.minusL (e13.trans e4) eU).trans e6) (hSl5.mono e6) ⟨p, rfl, ?_, ?_⟩
      · have hpS : p ≠ S := fun z => by
          rw [z, upd_same] at hp
          cases hp
        rw [upd_ne hpS] at hp
        exact fresh_back (e13.trans e4) hp
      · rw [h6, ← hrn]
        rfl
theorem ev_neTx {p q : List Nat} (ha : EvP ta σ H (IsTx p)) (hb : EvP tb σ H (IsTx q)) : Ev (tOp (rNeD K) ta tb) σ H (.bl (!decide (p = q))) := evp_v (ep_op ha (fun x H1 e1 _ => hb.mono e1) fun x H1 y H2 e1 px e2 py Q k => by
  obtain ⟨a, rfl, hx⟩ := px
  obtain ⟨b, rfl, hy⟩ := py
  refine ⟨.tuple (dInts p), .tuple (dInts q), .tup (hx.mono e2).sq (dp_txt p), .tup hy.sq (dp_txt q), shaped_txt p, shaped_txt q, ?_⟩
  rw [eqv_txt]
  exact k _ H2 (Ex.refl H2) rfl)
theorem q_setP {l : Addr} {xs : List V} {j : Nat} {Post : V → Hp → Prop} (hl : H l = some (.lst xs)) (h : EvP te σ H Post) (ho : Ev ta σ H (.ref l)) (hi : Ev tb σ H (.int (j : Int))) (hj : j < xs.length) (m : ∀ v H1 H2, Ex H1 H2 → Post v H1 → Post v H2) (k : ∀ v H1, Ex H H1 → Post v H1 → tz D σ (upd H1 l (.lst (xs.set j v)))) :
    tSeq (tAsg te (gSub ta tb rSetL)) tz D σ H := h H (Ex.refl H) _ fun v H1 e1 pv => ho H1 e1 _ fun H2 e2 => hi H2 (e1.trans e2) _ fun H3 e3 =>
  ⟨l, xs, (j : Int), j, rfl, rfl, ((e1.trans e2).trans e3) l _ hl, ixN_nat hj, k v H3 ((e1.trans e2).trans e3) (m v H1 H3 (e2.trans e3) pv)⟩
theorem drop_ok {l : Vabldo.Log} (h : LogOk l) (t : List Nat) : LogOk ⟨l.records.filter fun x => x.name != t, (l.records.filter fun x => x.name != t).length⟩ := by
  have hl := h.lm
  unfold Vabldo.limits at hl
  simp only [Bool.and_eq_true, decide_eq_true_eq] at hl
  obtain ⟨h1, h2, h3⟩ := hl
  have h4 := List.length_filter_le (fun x : Vabldo.Record => x.name != t) l.records
  refine ⟨?_, fun r hr => h.nm r (List.mem_filter.mp hr).1⟩
  unfold Vabldo.limits
  simp only [Bool.and_eq_true, decide_eq_true_eq]
  refine ⟨?_, ?_, List.all_eq_true.mpr fun r hr => List.all_eq_true.mp h3 r (List.mem_filter.mp hr).1⟩
  · show (l.records.filter fun x => x.name != t).length ≤ 1000000000
    omega
  · show (l.records.filter fun x => x.name != t).length ≤ 32
    omega
theorem sc_answer_drop : FnScope ["slots", "k", "name", "records", "left", "record"] ["slots", "k", "name"] (defScope s_answer_drop) := ⟨rfl, rfl, rfl, by decide +kernel, rfl, by decide +kernel, by decide +kernel⟩
theorem ok_answer_drop (T : Txt w K mg) (H_is_name : Has P0 w K mg base "is_name" 4 ["text"] (sp_is_name K)) (H_find_record : Has P0 w K mg base "find_record" 1 ["records", "name"] (sp_find_record K)) (H_Log : HasC P0 w K mg base "Log" 1 ["self", "records", "total"] (sp_Log K) ["records", "total"]) : Has P0 w K mg base "answer_drop" 5 ["slots", "k", "name"] (sp_answer_drop K) := by
  refine has_of T.f_answer_drop T.g_answer_drop sc_answer_drop (fun _ _ _ _ _ _ us hl => match us, hl with | [_, _, _], _ => rfl) (fun vs H Q E h => by obtain ⟨S, sl, k0, b, t, l, rfl, hSl, hst, hat, hb, hz, k⟩ := h; rfl) (fun cdv A outer s H vs Q E hr h => ⟨_, PSs.nox (pss_cons (ps_if (pt_not (pt_val (pe_h H_is_name (by exact hr.mono (by decide)) (by rfl) (pa_cons (pv 2) pa_nil)))) (pss_one (ps_ret (pe_lst (pa_cons (pe_gi (by rfl) T.i_NAME) pa_nil)))) pss_nil) (pss_cons (ps_set (i := 3) sc_answer_drop.nd rfl (Or.inl rfl) (pe_fld (pe_ix ix_list (pv 0) (pv 1) (fun _ _ => rfl)) rfl)) (pss_cons (ps_if (pt_cmpR op_isN (pe_h H_find_record (by exact hr.mono (by decide)) (by rfl) (pa_cons (pv 3) (pa_cons (pv 2) pa_nil))) pe_non (nomark _)) (pss_one (ps_ret (pe_lst (pa_cons (pe_gi (by rfl) T.i_ABSENT) pa_nil)))) pss_nil) (pss_cons (ps_setLc (i := 4) (own := [("record", 5)]) (g := gName 5) (te := (tVar 5)) (tt := (tTest (tOp (rNeD K) (tFld K (tVar 5) "name") (tVar 2)))) rfl sc_answer_drop.nd rfl rfl (sw_true rfl rfl rfl (by decide +kernel)) (pi_list (pv 3)) (blkOk_by (own := [("record", 5)]) (N := ["slots", "k", "name", "records", "left", "record"]) (sc := defScope s_answer_drop) (by decide +kernel)) (fun _ _ _ _ _ => pg_name (i := 5) sc_answer_drop.nd rfl (Or.inl rfl)) (fun _ _ _ _ _ => (pts_one (pt_cmpR (op_neD (by exact hr.units)) (pe_fld (pv 5) rfl) (pv 2) (nomark _)))) (fun _ _ _ _ _ => (pv 5))) (pss_cons (ps_asg (pe_hc H_Log (by exact hr.mono (by decide)) (by rfl) (pa_cons (pv 4) (pa_cons (pe_callB call_len_seq (by rfl) T.b_len PySem.boot_len (pa_cons (pv 4) pa_nil)) pa_nil))) (pg_sub (pv 0) (pv 1) set_list)) (pss_one (ps_ret (pe_lst (pa_cons (pe_callB call_len_seq (by rfl) T.b_len PySem.boot_len (pa_cons (pv 4) pa_nil)) pa_nil))))))))), ?_⟩)
  obtain ⟨S, sl, k0, b, t, l, rfl, hSl, hst, hat, hb, hz, k⟩ := h
  obtain ⟨sv, hS, hA⟩ := hSl.ex
  refine q_when (b := !Vabldo.isName t) (et_name (ev_var rfl) hb hz) (fun hb1 H1 e1 => ?_) (fun hb1 H1 e1 => ?_)
  · have hn : Vabldo.isName t = false := by simpa using hb1
    have hd : dropSl sl k0 l t = (sl, Vabldo.no (-7)) := by
      unfold dropSl
      rw [if_pos hn]
    rw [hd] at k
    exact s_no fun p H2 hp e2 h2 => k _ H2 (Ex.m (e1.trans e2)) (hSl.mono (e1.trans e2)) ⟨p, rfl, fresh_back e1 hp, h2⟩
  · have hn : ¬ Vabldo.isName t = false := by
      intro z
      rw [z] at hb1
      cases hb1
    obtain ⟨ek, hk4⟩ := slot_nat hst
    obtain ⟨lv, hlv, hlo, hls⟩ := slot_at hA hSl.four hst
    rw [hat] at hlo hls
    have hlo : LogAt K l lv (minus H [S]) := hlo
    have hokl := hSl.ok l (List.mem_of_getElem? hls)
    obtain ⟨_, hn32, _⟩ := hokl.prt
    have hl1 := mono_log _ _ _ _ (minus_ex.trans e1) hlo
    obtain ⟨x, dx, rl, rs, rfl, hx, hrl, hAr⟩ := hlo
    have hxH := (minus_some hx).2
    have hrlH := (minus_some hrl).2
    have hArH := hAr.mono mono_rec minus_ex
    have hj : k0.toNat < sv.length := by
      rw [← hA.len, hSl.four]
      exact hk4
    refine q_asg (ev_fld (ev_slot (ev_var rfl) (ev_var rfl) (e1 _ _ hS) hst hlv) (e1 _ _ hxH) T.c_Log T.n_Log_records rfl) fun H2 e2 => ?_
    have e12 := e1.trans e2
    refine q_when (b := (recIn l.records t).isNone) (et_test (ep_isN (ep_call (ea_cons (ev_var rfl) (ea_cons (ev_var rfl) ea_nil)) fun H3 e3 => ⟨rl, rs, l.records, b, t, rfl, (e12.trans e3) _ _ hrlH, hArH.mono mono_rec (e12.trans e3), hb.mono (e12.trans e3), rfl⟩) fun v G h => opt_isN (fun _ _ _ h => rec_ref h) h)) (fun hb2 H3 e3 => ?_) (fun hb2 H3 e3 => ?_)
    · have hd : dropSl sl k0 l t = (sl, Vabldo.no (-8)) := by
        unfold dropSl
        rw [if_neg hn, if_pos hb2]
      rw [hd] at k
      exact s_no fun p H4 hp e4 h4 => k _ H4 (Ex.m ((e12.trans e3).trans e4)) (hSl.mono ((e12.trans e3).trans e4)) ⟨p, rfl, fresh_back (e12.trans e3) hp, h4⟩
    · have hd : dropSl sl k0 l t = (sl.set k0.toNat (some ⟨l.records.filter fun x => x.name != t, (l.records.filter fun x => x.name != t).length⟩), Vabldo.num (l.records.filter fun x => x.name != t).length []) := by
        unfold dropSl
        rw [if_neg hn, if_neg (by rw [hb2]; exact Bool.false_ne_true)]
      rw [hd] at k
      have e13 := e12.trans e3
      have hA3 := hArH.mono mono_rec e13
      refine q_asgC (em_comp (β := Unit) (l := l.records) (A := fun r x G => RecAt K r x G ∧ InL l.records rs r x G) (fun r => r.name != t) (fun r v G => InL l.records rs r v G) mono_in (it_list (M := []) (ev_var rfl) (e13 _ _ hrlH) (by rw [minus_nil]; exact (all2_idx hA3).imp fun r v h => ⟨h.1, rec_ref h.1, h.2⟩) (fun r v G G' e h => ⟨mono_rec _ _ _ _ e h.1, h.2⟩) (by simp)) (by omega) (fun _ => rfl) (fun _ _ _ _ _ h _ => h) (fun r x H4 _ e4 hr => ?_) (fun r x H4 _ e4 hr _ => EvP.imp (Ev.p (ev_var rfl)) fun v G _ hv => by rw [hv]; exact hr.2)) fun q1 ys1 H4 hq1 e4 h4 hY1 => ?_
      · obtain ⟨s, hs, hsn⟩ := rname T hr.1
        refine et_eq (et_test (ev_neTx (ev_tx (hsn (ev_var rfl)) hs) (ev_tx (ev_var rfl) (hb.mono (e13.trans e4))))) ?_
        by_cases z : r.name = t <;> simp [z]
      · have e14 := e13.trans e4
        have hR4 : All2 (fun r v => RecAt K r v H4) (l.records.filter fun r => r.name != t) ys1 := in_all hY1 (hArH.mono mono_rec e14)
        have hyl := hY1.len
        have hnt : (⟨l.records.filter fun x => x.name != t, (l.records.filter fun x => x.name != t).length⟩ : Vabldo.Log).told = ys1.length := hyl
        have hlen : Ev (tCB (rLenQ K) (tCons (tVar 4) tNil)) [some (V.ref S), some (V.int k0), some (V.ref b), some (V.ref rl), some (V.ref q1), none] H4 (.int (((⟨l.records.filter fun x => x.name != t, (l.records.filter fun x => x.name != t).length⟩ : Vabldo.Log).told : Nat) : Int)) := by
          rw [hnt]
          exact ev_lenLs (ev_var rfl) h4
        have hEL := ep_log (K := K) (E := E0) (ta := tVar 4) (l := ⟨l.records.filter fun x => x.name != t, (l.records.filter fun x => x.name != t).length⟩) (ev_var rfl) h4 hR4 hlen
        refine q_setP (e14 _ _ hS) hEL (ev_var rfl) (by rw [← ek]; exact ev_var rfl) hj (fun v G G' e h => mono_log _ _ _ _ e h) fun lv' H5 e5 hlv' => ?_
        have hS5 := (e14.trans e5) _ _ hS
        have hA5 := hA.mono (mono_opt mono_log) (Ex.minus (M := [S]) (e14.trans e5))
        have hSl6 := slw_set (j := k0.toNat) hS5 hA5 hSl.four hSl.ok hlv' (drop_ok hokl t)
        have eU : Ex (minus H5 [S]) (upd H5 S (.lst (sv.set k0.toNat lv'))) := ex_mut (by simp)
        have nqS : q1 ≠ S := fun z => by
          rw [z, e13 _ _ hS] at hq1
          cases hq1
        have hq6 : upd H5 S (.lst (sv.set k0.toNat lv')) q1 = some (.lst ys1) := by
          rw [upd_ne nqS]
          exact e5 _ _ h4
        refine s_retL (el_lst (ea_cons (ev_lenLs (ev_var rfl) hq6) ea_nil) (show 1 ≤ 100000 by decide)) fun p H6 hp e6 h6 => k _ H6 ((Ex.minusL (e14.trans e5) eU).trans e6) (hSl6.mono e6) ⟨p, rfl, ?_, ?_⟩
        · have hpS : p ≠ S := fun z => by
            rw [z, upd_same] at hp
            cases hp
          rw [upd_ne hpS] at hp
          exact fresh_back (e14.trans e5) hp
        · rw [h6, ← hyl]
          rfl
end
end Bl

-- part W38
set_option Elab.async false
set_option linter.all false
set_option maxRecDepth 100000
set_option maxHeartbeats 4000000
namespace Bl
open PySem PySem.Spec PyProof.Rows L2 Evl
open VabldoNeutral (encode)
open LamX (ExtN Tabs TabB)
/-! ### the walks of logs.py, seventh part -/
def faultAns (l : Vabldo.Log) : Vabldo.Answer := match Vabldo.fault l with
  | none => Vabldo.num 0 []
  | some x => Vabldo.num x.1 x.2
def logAns (c : Nat) (l : Vabldo.Log) (t : List Nat) : Vabldo.Answer := if c = 2 then Vabldo.said (Vabldo.plain l) else if c = 3 then faultAns l else if c = 4 then Vabldo.statsAnswer l else if c = 12 then Vabldo.said (Vabldo.plain (Vabldo.sortedLog l)) else fileAns c l t
def nilL : Vabldo.Log := ⟨[], 0⟩
def stepSl (c : Nat) (sl : List (Option Vabldo.Log)) (ks : List Int) (t : List Nat) : List (Option Vabldo.Log) × Vabldo.Answer :=
  if c = 1 then (sl, Vabldo.answer Vabldo.start (.where_ t))
  else if c = 0 then readSl sl ((ks[0]?).getD 0) t
  else if logsRef c sl ks ≠ 0 then (sl, Vabldo.no (logsRef c sl ks))
  else if c = 13 then dropSl sl ((ks[0]?).getD 0) ((atS sl ((ks[0]?).getD 0)).getD nilL) t
  else if ks.length = 2 then (sl, pairAns c ((atS sl ((ks[0]?).getD 0)).getD nilL) ((atS sl ((ks[1]?).getD 0)).getD nilL) t)
  else (sl, logAns c ((atS sl ((ks[0]?).getD 0)).getD nilL) t)
abbrev sp_answer_of_log (K : PySem.W.Frag) : Sp := fun vs H Q _ => ∃ (c : Nat) (v : V) (l : Vabldo.Log) (b : Addr) (t : List Nat), vs = [.int (c : Int), v, .ref b] ∧ LogAt K l v H ∧ LogOk l ∧ (5 ≤ c → Sd l.records) ∧ 2 ≤ c ∧ Tx H b t ∧ t.length ≤ 40000 ∧ Tabs (tabsOf K) H ∧ ∀ x H', ExtN H H' → Tabs (tabsOf K) H' → AnsI (encode (logAns c l t)) (noT H) x H' → Q x H'
abbrev sp_answer (K : PySem.W.Frag) : Sp := fun vs H Q _ => ∃ (c : Nat) (S : Addr) (sl : List (Option Vabldo.Log)) (nq : Addr) (ks : List Int) (b : Addr) (t : List Nat), vs = [.int (c : Int), .ref S, .ref nq, .ref b] ∧ SlW K sl S H ∧ H nq = some (.lst (ks.map V.int)) ∧ ks.length = (if c = 1 then 0 else if 7 ≤ c ∧ c ≤ 11 then 2 else 1) ∧ Tx H b t ∧ t.length ≤ 10000 ∧ Tabs (tabsOf K) H ∧
  ∀ x H', ExtN (minus H [S]) H' → Tabs (tabsOf K) H' → SlW K (stepSl c sl ks t).1 S H' → AnsI (encode (stepSl c sl ks t).2) (noT H) x H' → Q x H'
section
variable {α : Type} {w : World} {K : PySem.W.Frag} {mg : Str → Option Value} {base : Heap} {σ : L2.St} {H H' : Hp} {ta tb tc te tl td ty : TE} {v y z : V} {D : Ends} {tu tz : TS}
theorem AnsI.n {l : List Int} (h : AnsI l H v H') : AnsI l (noT H) v H' := by
  obtain ⟨p, h1, h2, h3⟩ := h
  refine ⟨p, h1, ?_, h3⟩
  unfold noT
  rw [h2]
theorem fault_enc (l : Vabldo.Log) : toI (faultV l) = encode (faultAns l) := by
  unfold faultV faultAns
  cases Vabldo.fault l with
  | none => rfl
  | some x => rfl
theorem sc_answer_of_log : FnScope ["call", "log", "text"] ["call", "log", "text"] (defScope s_answer_of_log) := ⟨rfl, rfl, rfl, by decide +kernel, rfl, by decide +kernel, by decide +kernel⟩
theorem ok_answer_of_log (T : Txt w K mg) (H_answer_plain : Has P0 w K mg base "answer_plain" 5 ["log"] (sp_answer_plain K)) (H_first_fault : Has P0 w K mg base "first_fault" 3 ["log"] (sp_first_fault K)) (H_answer_stats : Has P0 w K mg base "answer_stats" 4 ["log"] (sp_answer_stats K)) (H_answer_sorted : Has P0 w K mg base "answer_sorted" 5 ["log"] (sp_answer_sorted K)) (H_answer_of_file : Has P0 w K mg base "answer_of_file" 6 ["call", "log", "name"] (sp_answer_of_file K)) : Has P0 w K mg base "answer_of_log" 7 ["call", "log", "text"] (sp_answer_of_log K) := by
  refine has_of T.f_answer_of_log T.g_answer_of_log sc_answer_of_log (fun _ _ _ _ _ _ us hl => match us, hl with | [_, _, _], _ => rfl) (fun vs H Q E h => by obtain ⟨c, v, l, b, t, rfl, hL, hk, hS, hc2, hb, hz, hT, k⟩ := h; rfl) (fun cdv A outer s H vs Q E hr h => ⟨_, PSs.nox (pss_cons (ps_if (pt_cmpR op_eq (pv 0) (pe_gi (by rfl) T.i_PLAIN) (nomark _)) (pss_one (ps_ret (pe_h H_answer_plain (by exact hr.mono (by decide)) (by rfl) (pa_cons (pv 1) pa_nil)))) pss_nil) (pss_cons (ps_if (pt_cmpR op_eq (pv 0) (pe_gi (by rfl) T.i_FAULT) (nomark _)) (pss_one (ps_ret (pe_h H_first_fault (by exact hr.mono (by decide)) (by rfl) (pa_cons (pv 1) pa_nil)))) pss_nil) (pss_cons (ps_if (pt_cmpR op_eq (pv 0) (pe_gi (by rfl) T.i_STATS) (nomark _)) (pss_one (ps_ret (pe_h H_answer_stats (by exact hr.mono (by decide)) (by rfl) (pa_cons (pv 1) pa_nil)))) pss_nil) (pss_cons (ps_if (pt_cmpR op_eq (pv 0) (pe_gi (by rfl) T.i_SORTED) (nomark _)) (pss_one (ps_ret (pe_h H_answer_sorted (by exact hr.mono (by decide)) (by rfl) (pa_cons (pv 1) pa_nil)))) pss_nil) (pss_one (ps_ret (pe_h H_answer_of_file (by exact hr.mono (by decide)) (by rfl) (pa_cons (pv 0) (pa_cons (pv 1) (pa_cons (pv 2) pa_nil)))))))))), ?_⟩)
  obtain ⟨c, v, l, b, t, rfl, hL, hk, hS, hc2, hb, hz, hT, k⟩ := h
  refine q_when (b := c == 2) (et_call (m := 2) (ev_var rfl)) (fun hb1 H1 e1 => ?_) (fun hb1 H1 e1 => ?_)
  · have e0 : logAns c l t = Vabldo.said (Vabldo.plain l) := by unfold logAns; rw [if_pos (beq_iff_eq.mp hb1)]
    rw [e0] at k
    exact s_retP (ep_callW (Post := AnsI (encode (Vabldo.said (Vabldo.plain l))) H) (ea_cons (ev_var rfl) ea_nil) fun H2 e2 => ⟨_, ⟨v, l, rfl, mono_log _ _ _ _ (e1.trans e2) hL, hk, rfl⟩, fun x H3 _ hx => hx.back (e1.trans e2)⟩) fun x H2 e2 hx => k x H2 (exN (e1.trans e2)) (hT.ext (e1.trans e2)) hx.n
  · have n2 := beq_eq_false_iff_ne.mp hb1
    refine q_when (b := c == 3) (et_call (m := 3) (ev_var rfl)) (fun hb1 H2 e2 => ?_) (fun hb1 H2 e2 => ?_)
    · have e0 : logAns c l t = faultAns l := by unfold logAns; rw [if_neg n2, if_pos (beq_iff_eq.mp hb1)]
      rw [e0] at k
      have e12 := e1.trans e2
      exact s_retP (ep_callW (Post := AnsI (encode (faultAns l)) H) (ea_cons (ev_var rfl) ea_nil) fun H3 e3 => ⟨_, ⟨v, l, rfl, mono_log _ _ _ _ (e12.trans e3) hL, hk, rfl⟩, fun x H4 _ hx => by
        obtain ⟨p, rfl, h1, h2⟩ := hx
        exact ans_imp (fault_enc l) (ans_tv (fresh_back (e12.trans e3) h1) h2)⟩) fun x H3 e3 hx => k x H3 (exN (e12.trans e3)) (hT.ext (e12.trans e3)) hx.n
    · have n3 := beq_eq_false_iff_ne.mp hb1
      have e12 := e1.trans e2
      refine q_when (b := c == 4) (et_call (m := 4) (ev_var rfl)) (fun hb1 H3 e3 => ?_) (fun hb1 H3 e3 => ?_)
      · have e0 : logAns c l t = Vabldo.statsAnswer l := by unfold logAns; rw [if_neg n2, if_neg n3, if_pos (beq_iff_eq.mp hb1)]
        rw [e0] at k
        have e13 := e12.trans e3
        exact s_retP (ep_callW (Post := AnsI (encode (Vabldo.statsAnswer l)) H) (ea_cons (ev_var rfl) ea_nil) fun H4 e4 => ⟨_, ⟨v, l, rfl, mono_log _ _ _ _ (e13.trans e4) hL, hk, rfl⟩, fun x H5 _ hx => hx.back (e13.trans e4)⟩) fun x H4 e4 hx => k x H4 (exN (e13.trans e4)) (hT.ext (e13.trans e4)) hx.n
      · have n4 := beq_eq_false_iff_ne.mp hb1
        have e13 := e12.trans e3
        refine q_when (b := c == 12) (et_call (m := 12) (ev_var rfl)) (fun hb1 H4 e4 => ?_) (fun hb1 H4 e4 => ?_)
        · have e0 : logAns c l t = Vabldo.said (Vabldo.plain (Vabldo.sortedLog l)) := by unfold logAns; rw [if_neg n2, if_neg n3, if_neg n4, if_pos (beq_iff_eq.mp hb1)]
          rw [e0] at k
          have e14 := e13.trans e4
          have hc5 : 5 ≤ c := by have := beq_iff_eq.mp hb1; omega
          refine t_ret (t_call (t_cons1 ⟨v, rfl, ?_⟩))
          refine ⟨v, l, rfl, mono_log _ _ _ _ e14 hL, hk, hS hc5, hT.ext e14, fun x H5 eN hT5 hx => k x H5 (LamX.ExtN.trans (exN e14) eN) hT5 ?_⟩
          obtain ⟨p, h1, h2, h3⟩ := hx
          refine ⟨p, h1, ?_, h3⟩
          cases q : noT H p with
          | none => rfl
          | some o =>
            obtain ⟨g1, g2⟩ := noT_some q
            rw [noT_get (e14 _ _ g1) g2] at h2
            cases h2
        · have n12 := beq_eq_false_iff_ne.mp hb1
          have e0 : logAns c l t = fileAns c l t := by unfold logAns; rw [if_neg n2, if_neg n3, if_neg n4, if_neg n12]
          rw [e0] at k
          have e14 := e13.trans e4
          have hc5 : 5 ≤ c := by omega
          · exact s_retP (ep_callW (Post := AnsI (encode (fileAns c l t)) H) (ea_cons (ev_var rfl) (ea_cons (ev_var rfl) (ea_cons (ev_var rfl) ea_nil))) fun H5 e5 => ⟨_, ⟨c, v, l, b, t, rfl, mono_log _ _ _ _ (e14.trans e5) hL, hk, hS hc5, hb.mono (e14.trans e5), hz, rfl⟩, fun x H6 _ hx => hx.back (e14.trans e5)⟩) fun x H5 e5 hx => k x H5 (exN (e14.trans e5)) (hT.ext (e14.trans e5)) hx.n
theorem s_retA {sp : Sp} {E : XK} {t : TA} {vs : List V} (h : EvA t σ H vs) (k : ∀ H1, Ex H H1 → sp vs H1 D.rt E) : tRet (tCall sp [] E t) D σ H := h H (Ex.refl H) _ fun H1 e1 => by
  rw [List.append_nil]
  exact k H1 e1
theorem tabs_minus {T : List (Addr × Str)} {S : Addr} {sv : List V} (h : Tabs T H) (hS : H S = some (.lst sv)) : Tabs T (minus H [S]) := fun p hp => by
  obtain ⟨ps, e1, e2, e3⟩ := h p hp
  refine ⟨ps, minus_get e1 (by rw [List.mem_singleton]; exact ne_of e1 hS (by intro z; cases z)), e2, fun pos cv hc => ?_⟩
  obtain ⟨c, z1, z2⟩ := e3 pos cv hc
  exact ⟨c, z1, minus_get z2 (by rw [List.mem_singleton]; exact ne_of z2 hS (fun z => code_lst _ _ _ z.symm))⟩
theorem ref_zero {c : Nat} {sl : List (Option Vabldo.Log)} {ks : List Int} (h : logsRef c sl ks = 0) : (∀ k ∈ ks, Vabldo.slotOk k = true) ∧ (∀ k ∈ ks, ∃ l, atS sl k = some l) ∧ (5 ≤ c → ∀ k ∈ ks, ∀ l, atS sl k = some l → Vabldo.sound l = true) := by
  unfold logsRef at h
  split at h
  · cases h
  · split at h
    · cases h
    · split at h
      · cases h
      · rename_i h1 h2 h3
        refine ⟨List.all_eq_true.mp (by simpa using h1), fun k hk => ?_, fun hc k hk l hl => ?_⟩
        · cases q : atS sl k with
          | none => exact absurd (List.any_eq_true.mpr ⟨k, hk, by rw [q]; rfl⟩) h2
          | some l => exact ⟨l, rfl⟩
        · rw [decide_eq_true hc, Bool.true_and] at h3
          have h4 : ks.all (sndS sl) = true := by simpa using h3
          have := List.all_eq_true.mp h4 k hk
          unfold sndS at this
          rw [hl] at this
          exact this
theorem ansN_back {l : List Int} {H0 H1 : Hp} (h : AnsI l (noT H1) v H') (e : Ex H0 H1) : AnsI l (noT H0) v H' := by
  obtain ⟨p, h1, h2, h3⟩ := h
  refine ⟨p, h1, ?_, h3⟩
  cases q : noT H0 p with
  | none => rfl
  | some o =>
    obtain ⟨g1, g2⟩ := noT_some q
    rw [noT_get (e _ _ g1) g2] at h2
    cases h2
theorem sl_at {sl : List (Option Vabldo.Log)} {S : Addr} {k : Int} {l : Vabldo.Log} (h : SlW K sl S H) (hk : Vabldo.slotOk k = true) (hl : atS sl k = some l) : ∃ sv x, H S = some (.lst sv) ∧ sv[k.toNat]? = some x ∧ LogAt K l x H ∧ LogOk l := by
  obtain ⟨sv, hS, hA⟩ := h.ex
  obtain ⟨x, hx, ho, hs⟩ := slot_at hA h.four hk
  rw [hl] at ho hs
  exact ⟨sv, x, hS, hx, mono_log _ _ _ _ minus_ex ho, h.ok l (List.mem_of_getElem? hs)⟩
theorem int_at {ks : List Int} {i : Nat} {k : Int} (h : ks[i]? = some k) : (ks.map V.int)[i]? = some (.int k) := by
  rw [List.getElem?_map, h]
  rfl
theorem sc_answer : FnScope ["call", "slots", "numbers", "text", "refusal"] ["call", "slots", "numbers", "text"] (defScope s_answer) := ⟨rfl, rfl, rfl, by decide +kernel, rfl, by decide +kernel, by decide +kernel⟩
theorem ok_answer (T : Txt w K mg) (H_answer_where : Has P0 w K mg base "answer_where" 8 ["text"] (sp_answer_where K)) (H_answer_read : Has P0 w K mg base "answer_read" 8 ["slots", "k", "text"] (sp_answer_read K)) (H_logs_refusal : Has P0 w K mg base "logs_refusal" 5 ["call", "slots", "numbers"] (sp_logs_refusal K)) (H_answer_drop : Has P0 w K mg base "answer_drop" 5 ["slots", "k", "name"] (sp_answer_drop K)) (H_answer_of_pair : Has P0 w K mg base "answer_of_pair" 6 ["call", "first", "second", "text"] (sp_answer_of_pair K)) (H_answer_of_log : Has P0 w K mg base "answer_of_log" 7 ["call", "log", "text"] (sp_answer_of_log K)) : Has P0 w K mg base "answer" 9 ["call", "slots", "numbers", "text"] (sp_answer K) := by
  refine has_of T.f_answer T.g_answer sc_answer (fun _ _ _ _ _ _ us hl => match us, hl with | [_, _, _, _], _ => rfl) (fun vs H Q E h => by obtain ⟨c, S, sl, nq, ks, b, t, rfl, hSl, hq, hkn, hb, hz, hT, k⟩ := h; rfl) (fun cdv A outer s H vs Q E hr h => ⟨_, PSs.nox (pss_cons (ps_if (pt_cmpR op_eq (pv 0) (pe_gi (by rfl) T.i_WHERE) (nomark _)) (pss_one (ps_ret (pe_h H_answer_where (by exact hr.mono (by decide)) (by rfl) (pa_cons (pv 3) pa_nil)))) pss_nil) (pss_cons (ps_if (pt_cmpR op_eq (pv 0) (pe_gi (by rfl) T.i_READ) (nomark _)) (pss_one (ps_ret (pe_h H_answer_read (by exact hr.mono (by decide)) (by rfl) (pa_cons (pv 1) (pa_cons (pe_ix ix_list (pv 2) pe_int (fun _ _ => rfl)) (pa_cons (pv 3) pa_nil)))))) pss_nil) (pss_cons (ps_set (i := 4) sc_answer.nd rfl (Or.inl rfl) (pe_h H_logs_refusal (by exact hr.mono (by decide)) (by rfl) (pa_cons (pv 0) (pa_cons (pv 1) (pa_cons (pv 2) pa_nil))))) (pss_cons (ps_if (pt_cmpR op_ne (pv 4) pe_int (nomark _)) (pss_one (ps_ret (pe_lst (pa_cons (pv 4) pa_nil)))) pss_nil) (pss_cons (ps_if (pt_cmpR op_eq (pv 0) (pe_gi (by rfl) T.i_DROP) (nomark _)) (pss_one (ps_ret (pe_h H_answer_drop (by exact hr.mono (by decide)) (by rfl) (pa_cons (pv 1) (pa_cons (pe_ix ix_list (pv 2) pe_int (fun _ _ => rfl)) (pa_cons (pv 3) pa_nil)))))) pss_nil) (pss_cons (ps_if (pt_cmpR op_eq (pe_callB call_len_seq (by rfl) T.b_len PySem.boot_len (pa_cons (pv 2) pa_nil)) pe_int (nomark _)) (pss_one (ps_ret (pe_h H_answer_of_pair (by exact hr.mono (by decide)) (by rfl) (pa_cons (pv 0) (pa_cons (pe_fld (pe_ix ix_list (pv 1) (pe_ix ix_list (pv 2) pe_int (fun _ _ => rfl)) (fun _ _ => rfl)) rfl) (pa_cons (pe_fld (pe_ix ix_list (pv 1) (pe_ix ix_list (pv 2) pe_int (fun _ _ => rfl)) (fun _ _ => rfl)) rfl) (pa_cons (pv 3) pa_nil))))))) pss_nil) (pss_one (ps_ret (pe_h H_answer_of_log (by exact hr.mono (by decide)) (by rfl) (pa_cons (pv 0) (pa_cons (pe_ix ix_list (pv 1) (pe_ix ix_list (pv 2) pe_int (fun _ _ => rfl)) (fun _ _ => rfl)) (pa_cons (pv 3) pa_nil)))))))))))), ?_⟩)
  obtain ⟨c, S, sl, nq, ks, b, t, rfl, hSl, hq, hkn, hb, hz, hT, k⟩ := h
  obtain ⟨sv, hS, hA⟩ := hSl.ex
  have hz4 : t.length ≤ 40000 := by omega
  have eM : ∀ {G : Hp}, Ex H G → ExtN (minus H [S]) G := fun e => exN (Ex.m e)
  refine q_when (b := c == 1) (et_call (m := 1) (ev_var rfl)) (fun hb1 H1 e1 => ?_) (fun hb1 H1 e1 => ?_)
  · have e0 : stepSl c sl ks t = (sl, Vabldo.answer Vabldo.start (.where_ t)) := by unfold stepSl; rw [if_pos (beq_iff_eq.mp hb1)]
    rw [e0] at k
    exact s_retP (ep_callW (Post := AnsI (encode (Vabldo.answer Vabldo.start (.where_ t))) H) (ea_cons (ev_var rfl) ea_nil) fun H2 e2 => ⟨_, ⟨b, t, rfl, hb.mono (e1.trans e2), hz, rfl⟩, fun x H3 _ hx => hx.back (e1.trans e2)⟩) fun x H2 e2 hx => k x H2 (eM (e1.trans e2)) (hT.ext (e1.trans e2)) (hSl.mono (e1.trans e2)) hx.n
  · have n1 := beq_eq_false_iff_ne.mp hb1
    refine q_when (b := c == 0) (et_call (m := 0) (ev_var rfl)) (fun hb1 H2 e2 => ?_) (fun hb1 H2 e2 => ?_)
    · have hc0 := beq_iff_eq.mp hb1
      have e12 := e1.trans e2
      obtain ⟨k0, rfl⟩ : ∃ k0, ks = [k0] := by
        rw [if_neg n1, if_neg (by omega)] at hkn
        exact List.length_eq_one_iff.mp hkn
      have e0 : stepSl c sl [k0] t = readSl sl k0 t := by unfold stepSl; rw [if_neg n1, if_pos hc0]; rfl
      rw [e0] at k
      refine s_retA (ea_cons (ev_var rfl) (ea_cons (ev_lstAt (i := 0) (ev_var rfl) ev_c (e12 _ _ hq) rfl) (ea_cons (ev_var rfl) ea_nil))) fun H3 e3 => ⟨S, sl, k0, b, t, rfl, hSl.mono (e12.trans e3), hb.mono (e12.trans e3), hz, fun x H4 e4 hs hx => k x H4 (exN (Ex.minusL (e12.trans e3) e4)) ?_ hs (hx.back (e12.trans e3)).n⟩
      exact (tabs_minus (hT.ext (e12.trans e3)) ((e12.trans e3) _ _ hS)).ext e4
    · have n0 := beq_eq_false_iff_ne.mp hb1
      have e12 := e1.trans e2
      have hkl : ks.length ≤ 1000 := by
        rw [hkn]
        split
        · omega
        · split <;> omega
      refine q_asg (ev_callR (ea_cons (ev_var rfl) (ea_cons (ev_var rfl) (ea_cons (ev_var rfl) ea_nil))) fun H3 e3 => ⟨c, S, sv, sl, nq, ks, rfl, (e12.trans e3) _ _ hS, hA.mono (mono_opt mono_log) (minus_ex.trans (e12.trans e3)), hSl.four, hSl.ok, (e12.trans e3) _ _ hq, hkl, rfl⟩) fun H3 e3 => ?_
      have e13 := e12.trans e3
      refine q_when (b := !decide (logsRef c sl ks = 0)) (et_test (ev_neZ (ev_var rfl) ev_c)) (fun hb2 H4 e4 => ?_) (fun hb2 H4 e4 => ?_)
      · have hne : logsRef c sl ks ≠ 0 := by simpa using hb2
        have e0 : stepSl c sl ks t = (sl, Vabldo.no (logsRef c sl ks)) := by unfold stepSl; rw [if_neg n1, if_neg n0, if_pos hne]
        rw [e0] at k
        exact s_retL (el_lst (ea_cons (ev_var rfl) ea_nil) (show 1 ≤ 100000 by decide)) fun p H5 hp e5 h5 => k _ H5 (eM ((e13.trans e4).trans e5)) (hT.ext ((e13.trans e4).trans e5)) (hSl.mono ((e13.trans e4).trans e5)) (AnsI.n ⟨p, rfl, fresh_back (e13.trans e4) hp, h5⟩)
      · have h0 : logsRef c sl ks = 0 := by simpa using hb2
        have hn0 : ¬ logsRef c sl ks ≠ 0 := fun z => z h0
        obtain ⟨r1, r2, r3⟩ := ref_zero h0
        have e14 := e13.trans e4
        refine q_when (b := c == 13) (et_call (m := 13) (ev_var rfl)) (fun hb3 H5 e5 => ?_) (fun hb3 H5 e5 => ?_)
        · have hc13 := beq_iff_eq.mp hb3
          have e15 := e14.trans e5
          obtain ⟨k0, rfl⟩ : ∃ k0, ks = [k0] := by
            rw [if_neg n1, if_neg (by omega)] at hkn
            exact List.length_eq_one_iff.mp hkn
          obtain ⟨l, hl⟩ := r2 k0 (by simp)
          have e0 : stepSl c sl [k0] t = dropSl sl k0 l t := by
            unfold stepSl
            rw [if_neg n1, if_neg n0, if_neg hn0, if_pos hc13]
            show dropSl sl k0 ((atS sl k0).getD nilL) t = _
            rw [hl]
            rfl
          rw [e0] at k
          refine s_retA (ea_cons (ev_var rfl) (ea_cons (ev_lstAt (i := 0) (ev_var rfl) ev_c (e15 _ _ hq) rfl) (ea_cons (ev_var rfl) ea_nil))) fun H6 e6 => ⟨S, sl, k0, b, t, l, rfl, hSl.mono (e15.trans e6), r1 k0 (by simp), hl, hb.mono (e15.trans e6), hz4, fun x H7 e7 hs hx => k x H7 (exN (Ex.minusL (e15.trans e6) e7)) ?_ hs (hx.back (e15.trans e6)).n⟩
          exact (tabs_minus (hT.ext (e15.trans e6)) ((e15.trans e6) _ _ hS)).ext e7
        · have n13 := beq_eq_false_iff_ne.mp hb3
          have e15 := e14.trans e5
          refine q_when (b := ks.length == 2) (et_eq (et_test (ev_eqN (m := 2) (ev_lenLs (ev_var rfl) (e15 _ _ hq)) ev_c)) (by rw [List.length_map])) (fun hb4 H6 e6 => ?_) (fun hb4 H6 e6 => ?_)
          · have hk2 := beq_iff_eq.mp hb4
            have e16 := e15.trans e6
            obtain ⟨j0, k0, rfl⟩ := len2 hk2
            obtain ⟨la, hla⟩ := r2 j0 (by simp)
            obtain ⟨lb, hlb⟩ := r2 k0 (by simp)
            have hc5 : 5 ≤ c := by
              by_cases z : 7 ≤ c ∧ c ≤ 11
              · omega
              · rw [if_neg n1, if_neg z] at hkn
                omega
            have e0 : stepSl c sl [j0, k0] t = (sl, pairAns c la lb t) := by
              unfold stepSl
              rw [if_neg n1, if_neg n0, if_neg hn0, if_neg n13, if_pos hk2]
              show (sl, pairAns c ((atS sl j0).getD nilL) ((atS sl k0).getD nilL) t) = _
              rw [hla, hlb]
              rfl
            rw [e0] at k
            obtain ⟨sv1, xa, hS1, hxa, hLa, hoa⟩ := sl_at (hSl.mono e16) (r1 j0 (by simp)) hla
            obtain ⟨sv2, xb, hS2, hxb, hLb, hob⟩ := sl_at (hSl.mono e16) (r1 k0 (by simp)) hlb
            have hPr : PrOk la lb := ⟨hoa, hob, (sd_of (r3 hc5 j0 (by simp) la hla)).1, (sd_of (r3 hc5 k0 (by simp) lb hlb)).1⟩
            obtain ⟨x1, dx1, rl1, rs1, rfl, hx1, hrl1, hA1⟩ := hLa
            obtain ⟨x2, dx2, rl2, rs2, rfl, hx2, hrl2, hA2⟩ := hLb
            have hq6 := e16 _ _ hq
            exact s_retP (ep_callW (Post := AnsI (encode (pairAns c la lb t)) H) (ea_cons (ev_var rfl) (ea_cons (ev_fld (ev_slot (ev_var rfl) (ev_lstAt (i := 0) (ev_var rfl) ev_c hq6 rfl) hS1 (r1 j0 (by simp)) hxa) hx1 T.c_Log T.n_Log_records rfl) (ea_cons (ev_fld (ev_slot (ev_var rfl) (ev_lstAt (i := 1) (ev_var rfl) ev_c hq6 rfl) hS2 (r1 k0 (by simp)) hxb) hx2 T.c_Log T.n_Log_records rfl) (ea_cons (ev_var rfl) ea_nil)))) fun H7 e7 => ⟨_, ⟨c, rl1, rl2, rs1, rs2, b, t, la, lb, rfl, e7 _ _ hrl1, hA1.mono mono_rec e7, e7 _ _ hrl2, hA2.mono mono_rec e7, hb.mono (e16.trans e7), hz4, hPr, rfl⟩, fun x H8 _ hx => hx.back (e16.trans e7)⟩) fun x H7 e7 hx => k x H7 (eM (e16.trans e7)) (hT.ext (e16.trans e7)) (hSl.mono (e16.trans e7)) hx.n
          · have nk2 := beq_eq_false_iff_ne.mp hb4
            have e16 := e15.trans e6
            obtain ⟨k0, rfl⟩ : ∃ k0, ks = [k0] := by
              rw [if_neg n1] at hkn
              split at hkn
              · exact absurd hkn nk2
              · exact List.length_eq_one_iff.mp hkn
            obtain ⟨l, hl⟩ := r2 k0 (by simp)
            have e0 : stepSl c sl [k0] t = (sl, logAns c l t) := by
              unfold stepSl
              rw [if_neg n1, if_neg n0, if_neg hn0, if_neg n13, if_neg nk2]
              show (sl, logAns c ((atS sl k0).getD nilL) t) = _
              rw [hl]
              rfl
            rw [e0] at k
            obtain ⟨sv1, xa, hS1, hxa, hLa, hoa⟩ := sl_at (hSl.mono e16) (r1 k0 (by simp)) hl
            refine s_retA (ea_cons (ev_var rfl) (ea_cons (ev_slot (ev_var rfl) (ev_lstAt (i := 0) (ev_var rfl) ev_c (e16 _ _ hq) rfl) hS1 (r1 k0 (by simp)) hxa) (ea_cons (ev_var rfl) ea_nil))) fun H7 e7 => ⟨c, xa, l, b, t, rfl, mono_log _ _ _ _ e7 hLa, hoa, fun hc5 => (sd_of (r3 hc5 k0 (by simp) l hl)).1, by omega, hb.mono (e16.trans e7), hz4, hT.ext (e16.trans e7), fun x H8 eN hT8 hx => k x H8 ?_ hT8 ?_ (ansN_back hx (e16.trans e7))⟩
            · exact LamX.ExtN.trans (eM (e16.trans e7)) eN
            · obtain ⟨sv8, h81, h82⟩ := (hSl.mono (e16.trans e7)).ex
              refine ⟨⟨sv8, eN _ _ h81 (fun ps z => nomatch z), ?_⟩, hSl.four, hSl.ok⟩
              refine h82.imp fun o v h => ?_
              cases o with
              | none => exact h
              | some l' =>
                have h' : LogAt K l' v (minus H7 [S]) := h
                exact mono_log _ _ _ _ (fun a o ha => by
                  obtain ⟨g1, g2⟩ := noT_some ha
                  obtain ⟨g3, g4⟩ := minus_some g1
                  exact minus_get (eN _ _ g4 g2) g3) (log_noT h')
end
end Bl

-- part P1
set_option Elab.async false
set_option linter.all false
set_option maxRecDepth 100000
set_option maxHeartbeats 4000000
namespace Bl
open VabldoNeutral (encode)
open Vabldo (logAt setLog slotOk sound)
/-! ### the calls, by the specification -/
def slotsOf (st : Vabldo.State) : List (Option Vabldo.Log) := [logAt st 0, logAt st 1, logAt st 2, logAt st 3]
theorem slot_four {k : Int} (h : slotOk k = true) : k = 0 ∨ k = 1 ∨ k = 2 ∨ k = 3 := by
  unfold slotOk at h
  simp only [Bool.and_eq_true, decide_eq_true_eq] at h
  omega
theorem atS_slots {st : Vabldo.State} {k : Int} (h : slotOk k = true) : atS (slotsOf st) k = logAt st k := by
  rcases slot_four h with rfl | rfl | rfl | rfl <;> rfl
theorem log_set (st : Vabldo.State) (k j : Int) (l : Vabldo.Log) : logAt (setLog st k l) j = if j.toNat = k.toNat then some l else logAt st j := by
  unfold logAt setLog
  dsimp only
  by_cases h : j.toNat = k.toNat
  · rw [if_pos h, List.find?_cons_of_pos (by rw [h]; exact beq_self_eq_true _)]
    rfl
  · rw [if_neg h, List.find?_cons_of_neg (by simpa using fun z => h z.symm), List.find?_filter]
    congr 2
    funext x
    by_cases hx : x.number = j.toNat
    · rw [hx]
      simp [h]
    · simp [hx]
theorem slots_set {st : Vabldo.State} {k : Int} {l : Vabldo.Log} (h : slotOk k = true) : slotsOf (setLog st k l) = (slotsOf st).set k.toNat (some l) := by
  unfold slotsOf
  rw [log_set, log_set, log_set, log_set]
  rcases slot_four h with rfl | rfl | rfl | rfl <;> rfl
theorem ref1 (c : Nat) (st : Vabldo.State) (k : Int) : logsRef c (slotsOf st) [k] = if slotOk k = false then -1 else match logAt st k with
    | none => -2
    | some l => if (decide (5 ≤ c) && !sound l) = true then -6 else 0 := by
  unfold logsRef
  cases h : slotOk k with
  | false => simp [h]
  | true =>
    have e := atS_slots (st := st) h
    cases q : logAt st k with
    | none =>
      rw [q] at e
      simp [h, e]
    | some l =>
      rw [q] at e
      simp [h, e, sndS]
theorem ref2 (c : Nat) (st : Vabldo.State) (j k : Int) : logsRef c (slotsOf st) [j, k] = if slotOk j = false ∨ slotOk k = false then -1 else match logAt st j, logAt st k with
    | some a, some b => if (decide (5 ≤ c) && !(sound a && sound b)) = true then -6 else 0
    | _, _ => -2 := by
  unfold logsRef
  cases h1 : slotOk j with
  | false => simp [h1]
  | true =>
    cases h2 : slotOk k with
    | false => simp [h1, h2]
    | true =>
      have e1 := atS_slots (st := st) h1
      have e2 := atS_slots (st := st) h2
      cases q1 : logAt st j with
      | none =>
        rw [q1] at e1
        simp [h1, h2, e1]
      | some a =>
        rw [q1] at e1
        cases q2 : logAt st k with
        | none =>
          rw [q2] at e2
          simp [h1, h2, e1, e2]
        | some b =>
          rw [q2] at e2
          simp [h1, h2, e1, e2, sndS]
theorem one_eq {c : Nat} (h2 : 2 ≤ c) (h13 : c ≠ 13) (st : Vabldo.State) (k : Int) (t : List Nat) : stepSl c (slotsOf st) [k] t = (slotsOf st, if slotOk k = false then Vabldo.no (-1) else match logAt st k with
    | none => Vabldo.no (-2)
    | some l => if (decide (5 ≤ c) && !sound l) = true then Vabldo.no (-6) else logAns c l t) := by
  unfold stepSl
  rw [if_neg (by omega), if_neg (by omega), ref1]
  cases h : slotOk k with
  | false => simp
  | true =>
    have e := atS_slots (st := st) h
    cases q : logAt st k with
    | none => simp
    | some l =>
      rw [q] at e
      by_cases z : (decide (5 ≤ c) && !sound l) = true
      · simp only [z, if_true]
        simp
      · have z' : (decide (5 ≤ c) && !sound l) = false := by simpa using z
        simp only [z']
        simp [h13, e]
theorem one_log {c : Nat} (h2 : 2 ≤ c) (h5 : c < 5) (st : Vabldo.State) (k : Int) (t : List Nat) : stepSl c (slotsOf st) [k] t = (slotsOf st, Vabldo.onLog st k fun l => logAns c l t) := by
  rw [one_eq h2 (by omega)]
  unfold Vabldo.onLog
  have z : decide (5 ≤ c) = false := decide_eq_false (by omega)
  cases h : slotOk k with
  | false => rfl
  | true =>
    cases q : logAt st k with
    | none => rfl
    | some l => simp [z]
theorem one_sound {c : Nat} (h5 : 5 ≤ c) (h13 : c ≠ 13) (st : Vabldo.State) (k : Int) (t : List Nat) : stepSl c (slotsOf st) [k] t = (slotsOf st, Vabldo.onSound st k fun l => logAns c l t) := by
  rw [one_eq (by omega) h13]
  unfold Vabldo.onSound Vabldo.onLog
  have z : decide (5 ≤ c) = true := decide_eq_true h5
  cases h : slotOk k with
  | false => rfl
  | true =>
    cases q : logAt st k with
    | none => rfl
    | some l =>
      cases s : sound l <;> simp [z, s]
      rfl
theorem two_eq {c : Nat} (h5 : 5 ≤ c) (h13 : c ≠ 13) (st : Vabldo.State) (j k : Int) (t : List Nat) : stepSl c (slotsOf st) [j, k] t = (slotsOf st, Vabldo.onTwo st j k fun a b => pairAns c a b t) := by
  unfold stepSl
  rw [if_neg (by omega), if_neg (by omega), ref2]
  unfold Vabldo.onTwo
  have z : decide (5 ≤ c) = true := decide_eq_true h5
  by_cases h : slotOk j = false ∨ slotOk k = false
  · simp only [h, if_true]
    rfl
  · simp only [h, if_false]
    have h1 : slotOk j = true := by
      cases q : slotOk j with
      | true => rfl
      | false => exact absurd (Or.inl q) h
    have h2 : slotOk k = true := by
      cases q : slotOk k with
      | true => rfl
      | false => exact absurd (Or.inr q) h
    have e1 := atS_slots (st := st) h1
    have e2 := atS_slots (st := st) h2
    cases q1 : logAt st j with
    | none => cases q2 : logAt st k <;> rfl
    | some a =>
      rw [q1] at e1
      cases q2 : logAt st k with
      | none => rfl
      | some b =>
        rw [q2] at e2
        cases s1 : sound a <;> cases s2 : sound b <;> simp [z, s1, s2, h13, e1, e2] <;> rfl
inductive CallIs : Nat → List Int → List Nat → Vabldo.Call → Prop
  | read (k : Int) (t : List Nat) : CallIs 0 [k] t (.read k t)
  | where_ (t : List Nat) : CallIs 1 [] t (.where_ t)
  | plain (k : Int) (t : List Nat) : CallIs 2 [k] t (.plain k)
  | fault (k : Int) (t : List Nat) : CallIs 3 [k] t (.fault k)
  | stats (k : Int) (t : List Nat) : CallIs 4 [k] t (.stats k)
  | made (k : Int) (t : List Nat) : CallIs 5 [k] t (.made k t)
  | rests (k : Int) (t : List Nat) : CallIs 6 [k] t (.rests k t)
  | unlike (j k : Int) (t : List Nat) : CallIs 7 [j, k] t (.unlike j k)
  | first (j k : Int) (t : List Nat) : CallIs 8 [j, k] t (.first j k)
  | roots (j k : Int) (t : List Nat) : CallIs 9 [j, k] t (.roots j k)
  | why (j k : Int) (t : List Nat) : CallIs 10 [j, k] t (.why j k t)
  | steady (j k : Int) (t : List Nat) : CallIs 11 [j, k] t (.steady j k)
  | sorted (k : Int) (t : List Nat) : CallIs 12 [k] t (.sorted k)
  | drop (k : Int) (t : List Nat) : CallIs 13 [k] t (.drop k t)
theorem step_eq {c : Nat} {ks : List Int} {t : List Nat} {call : Vabldo.Call} (h : CallIs c ks t call) (st : Vabldo.State) : stepSl c (slotsOf st) ks t = (slotsOf (Vabldo.step st call).1, (Vabldo.step st call).2) := by
  cases h with
  | read k t =>
    unfold stepSl
    rw [if_neg (by decide), if_pos rfl]
    show readSl (slotsOf st) k t = (slotsOf (if slotOk k = false then (st, Vabldo.no Vabldo.SLOT) else (match Vabldo.readLog t with
      | .error e => (st, Vabldo.no (-((e.1 : Nat) : Int)))
      | .ok l => (setLog st k l, Vabldo.num l.records.length []))).1, (if slotOk k = false then (st, Vabldo.no Vabldo.SLOT) else (match Vabldo.readLog t with
      | .error e => (st, Vabldo.no (-((e.1 : Nat) : Int)))
      | .ok l => (setLog st k l, Vabldo.num l.records.length []))).2)
    unfold readSl
    cases hk : slotOk k with
    | false => rfl
    | true =>
      cases hr : Vabldo.readLog t with
      | error e => rfl
      | ok l =>
        show ((slotsOf st).set k.toNat (some l), _) = (slotsOf (setLog st k l), _)
        rw [slots_set hk]
        rfl
  | where_ t => rfl
  | plain k t => exact one_log (by decide) (by decide) st k t
  | fault k t => exact one_log (by decide) (by decide) st k t
  | stats k t => exact one_log (by decide) (by decide) st k t
  | made k t => exact one_sound (by decide) (by decide) st k t
  | rests k t => exact one_sound (by decide) (by decide) st k t
  | unlike j k t => exact two_eq (by decide) (by decide) st j k t
  | first j k t => exact two_eq (by decide) (by decide) st j k t
  | roots j k t => exact two_eq (by decide) (by decide) st j k t
  | why j k t => exact two_eq (by decide) (by decide) st j k t
  | steady j k t => exact two_eq (by decide) (by decide) st j k t
  | sorted k t => exact one_sound (by decide) (by decide) st k t
  | drop k t =>
    show stepSl 13 (slotsOf st) [k] t = (slotsOf (Vabldo.dropCall st k t).1, (Vabldo.dropCall st k t).2)
    have bad : ∀ r : Int, r ≠ 0 → logsRef 13 (slotsOf st) [k] = r → Vabldo.dropCall st k t = (st, Vabldo.no r) → stepSl 13 (slotsOf st) [k] t = (slotsOf (Vabldo.dropCall st k t).1, (Vabldo.dropCall st k t).2) := fun r h0 h1 h2 => by
      unfold stepSl
      rw [if_neg (by decide), if_neg (by decide), h1, if_pos h0, h2]
    cases hk : slotOk k with
    | false => exact bad (-1) (by decide) (by rw [ref1]; simp [hk]) (by unfold Vabldo.dropCall; rw [if_pos hk]; rfl)
    | true =>
      have e := atS_slots (st := st) hk
      have hk' : ¬ slotOk k = false := by rw [hk]; decide
      cases q : logAt st k with
      | none => exact bad (-2) (by decide) (by rw [ref1]; simp [hk, q]) (by unfold Vabldo.dropCall; rw [if_neg hk', q]; rfl)
      | some l =>
        rw [q] at e
        cases s : sound l with
        | false => exact bad (-6) (by decide) (by rw [ref1]; simp [hk, q, s]) (by unfold Vabldo.dropCall; rw [if_neg hk', q]; dsimp only; rw [if_pos s]; rfl)
        | true =>
          have h0 : logsRef 13 (slotsOf st) [k] = 0 := by rw [ref1]; simp [hk, q, s]
          have hd : Vabldo.dropCall st k t = if Vabldo.isName t = false then (st, Vabldo.no Vabldo.NAME) else if (recIn l.records t).isNone = true then (st, Vabldo.no Vabldo.ABSENT) else (setLog st k ⟨l.records.filter fun x => x.name != t, (l.records.filter fun x => x.name != t).length⟩, Vabldo.num (l.records.filter fun x => x.name != t).length []) := by
            unfold Vabldo.dropCall
            rw [if_neg hk', q]
            dsimp only
            rw [if_neg (by rw [s]; decide)]
            rfl
          have hs : stepSl 13 (slotsOf st) [k] t = dropSl (slotsOf st) k l t := by
            unfold stepSl
            rw [if_neg (by decide), if_neg (by decide), h0, if_neg (by decide), if_pos rfl]
            show dropSl (slotsOf st) k ((atS (slotsOf st) k).getD nilL) t = _
            rw [e]
            rfl
          rw [hs, hd]
          unfold dropSl
          by_cases hn : Vabldo.isName t = false
          · rw [if_pos hn, if_pos hn]
            rfl
          · rw [if_neg hn, if_neg hn]
            by_cases hr : (recIn l.records t).isNone = true
            · rw [if_pos hr, if_pos hr]
              rfl
            · rw [if_neg hr, if_neg hr, slots_set hk]
end Bl

-- part P2
set_option Elab.async false
set_option linter.all false
set_option maxRecDepth 100000
set_option maxHeartbeats 4000000
namespace Bl
open VabldoNeutral (encode)
/-! ### the list of calls, read -/
def numsL : List Nat := [1, 0, 1, 1, 1, 1, 1, 2, 2, 2, 2, 2, 1, 1]
def hasL : List Bool := [true, true, false, false, false, true, true, false, false, false, true, false, false, true]
def numN (c : Nat) : Nat := (numsL[c]?).getD 0
def hasT (c : Nat) : Bool := (hasL[c]?).getD false
theorem call_parts {shape : Int → Option (Nat × Nat)} {c0 : Int} {r t : List Int} {c : List (List Int)} (h : PyFlat.call shape (c0 :: r) = some (c, t)) : ∃ n k, shape c0 = some (n, k) ∧ n ≤ r.length ∧ ∃ xs, PyFlat.rows k (r.drop n) = some (xs, t) ∧ c = (c0 :: r.take n) :: xs := by
  unfold PyFlat.call at h
  dsimp only at h
  cases hs : shape c0 with
  | none =>
    rw [hs] at h
    cases h
  | some nk =>
    obtain ⟨n, k⟩ := nk
    rw [hs] at h
    dsimp only at h
    split at h
    · cases h
    · rename_i hl
      cases hr : PyFlat.rows k (r.drop n) with
      | none =>
        rw [hr] at h
        cases h
      | some xt =>
        obtain ⟨xs, t'⟩ := xt
        rw [hr] at h
        cases h
        exact ⟨n, k, rfl, by omega, xs, hr, rfl⟩
theorem rows_zero {r t : List Int} {xs : List (List Int)} (h : PyFlat.rows 0 r = some (xs, t)) : xs = [] ∧ t = r := by
  cases h
  exact ⟨rfl, rfl⟩
theorem rows_one {r t : List Int} {xs : List (List Int)} (h : PyFlat.rows 1 r = some (xs, t)) : ∃ (m : Int) (r2 : List Int), r = m :: r2 ∧ 0 ≤ m ∧ m.toNat ≤ r2.length ∧ xs = [r2.take m.toNat] ∧ t = r2.drop m.toNat := by
  cases r with
  | nil => cases h
  | cons m r2 =>
    unfold PyFlat.rows PyFlat.row at h
    dsimp only at h
    by_cases hc : 0 ≤ m ∧ m.toNat ≤ r2.length
    · rw [if_pos hc] at h
      cases h
      exact ⟨m, r2, rfl, hc.1, hc.2, rfl, rfl⟩
    · rw [if_neg hc] at h
      cases h
theorem txt_ok {a : List Int} (h : (a.all fun (z : Int) => VabldoNeutral.natural z 8) = true) : VabldoNeutral.text a = some (a.map fun b => b.toNat) ∧ a = (a.map fun b => b.toNat).map fun (n : Nat) => (n : Int) := by
  have hz : ∀ z ∈ a, 0 ≤ z ∧ z < 256 := fun z hz => by
    have := List.all_eq_true.mp h z hz
    unfold VabldoNeutral.natural at this
    simp only [Bool.and_eq_true, decide_eq_true_eq] at this
    exact this
  refine ⟨?_, ?_⟩
  · unfold VabldoNeutral.text
    have hb : NeutralIO.bytes a = true := List.all_eq_true.mpr fun z hz' => by
      have := hz z hz'
      simp only [Bool.and_eq_true, decide_eq_true_eq]
      omega
    rw [if_pos hb]
  · rw [List.map_map]
    conv => lhs; rw [← List.map_id a]
    refine List.map_congr_left fun z hz' => ?_
    have := hz z hz'
    show z = ((z.toNat : Nat) : Int)
    omega
/-- what is known of one call -/
def One (c0 : Int) (r t : List Int) (c : List (List Int)) : Prop := ∃ (cn : Nat) (ks : List Int) (tx : List Nat) (call : Vabldo.Call), c0 = (cn : Int) ∧ cn ≤ 13 ∧ CallIs cn ks tx call ∧ VabldoNeutral.callOf (PyVabldo.whole c) = some call ∧ tx.length ≤ 10000 ∧ ks = r.take (numN cn) ∧ numN cn ≤ r.length ∧ ks.length = numN cn ∧
  ((hasT cn = false ∧ tx = [] ∧ t = r.drop (numN cn)) ∨ (hasT cn = true ∧ ∃ m : Nat, r[numN cn]? = some (m : Int) ∧ numN cn + 1 + m ≤ r.length ∧ (r.drop (numN cn + 1)).take m = tx.map (fun (n : Nat) => (n : Int)) ∧ t = r.drop (numN cn + 1 + m)))
theorem one_0 {r t : List Int} {xs : List (List Int)} (hl : 1 ≤ r.length) (hr : PyFlat.rows 1 (r.drop 1) = some (xs, t)) (ha : VabldoNeutral.asked1 (PyVabldo.whole ((((0 : Int)) :: r.take 1) :: xs)) = true) : One (0 : Int) r t (((0 : Int) :: r.take 1) :: xs) := by
  obtain ⟨x, r', rfl⟩ : ∃ x r', r = x :: r' := by
    cases r with
    | nil => cases hl
    | cons x r' => exact ⟨x, r', rfl⟩
  obtain ⟨m, r2, e1, h0, h1, rfl, rfl⟩ := rows_one hr
  have e1 : r' = m :: r2 := e1
  subst e1
  have ha' : VabldoNeutral.asked1 [[0, x], r2.take m.toNat] = true := ha
  unfold VabldoNeutral.asked1 at ha'
  simp only [Bool.and_eq_true, decide_eq_true_eq] at ha'
  obtain ⟨hA, hL⟩ : ((r2.take m.toNat).all fun (z : Int) => VabldoNeutral.natural z 8) = true ∧ (r2.take m.toNat).length ≤ 10000 := by
    first | exact ⟨ha'.1, ha'.2⟩ | exact ⟨ha'.2.1, ha'.2.2⟩ | exact ⟨ha'.2.2.1, ha'.2.2.2⟩
  obtain ⟨t1, t2⟩ := txt_ok hA
  have hm : ((m.toNat : Nat) : Int) = m := Int.toNat_of_nonneg h0
  refine ⟨0, [x], (r2.take m.toNat).map fun b => b.toNat, (.read x ((r2.take m.toNat).map fun b => b.toNat) : Vabldo.Call), rfl, by decide, .read x _, ?_, by rw [List.length_map]; exact hL, rfl, hl, rfl, Or.inr ⟨rfl, m.toNat, ?_, ?_, ?_, ?_⟩⟩
  · show (VabldoNeutral.text (r2.take m.toNat)).map _ = _
    rw [t1]
    rfl
  · show some m = some ((m.toNat : Nat) : Int)
    rw [hm]
  · show 1 + 1 + m.toNat ≤ _
    simp only [List.length_cons]
    omega
  · exact t2
  · show r2.drop m.toNat = (x :: m :: r2 : List Int).drop (1 + 1 + m.toNat)
    rw [← List.drop_drop]
    rfl
theorem one_1 {r t : List Int} {xs : List (List Int)} (hl : 0 ≤ r.length) (hr : PyFlat.rows 1 (r.drop 0) = some (xs, t)) (ha : VabldoNeutral.asked1 (PyVabldo.whole ((((1 : Int)) :: r.take 0) :: xs)) = true) : One (1 : Int) r t (((1 : Int) :: r.take 0) :: xs) := by
  obtain ⟨m, r2, e1, h0, h1, rfl, rfl⟩ := rows_one hr
  have e1 : r = m :: r2 := e1
  subst e1
  have ha' : VabldoNeutral.asked1 [[1], r2.take m.toNat] = true := ha
  unfold VabldoNeutral.asked1 at ha'
  simp only [Bool.and_eq_true, decide_eq_true_eq] at ha'
  obtain ⟨hA, hL⟩ : ((r2.take m.toNat).all fun (z : Int) => VabldoNeutral.natural z 8) = true ∧ (r2.take m.toNat).length ≤ 10000 := by
    first | exact ⟨ha'.1, ha'.2⟩ | exact ⟨ha'.2.1, ha'.2.2⟩ | exact ⟨ha'.2.2.1, ha'.2.2.2⟩
  obtain ⟨t1, t2⟩ := txt_ok hA
  have hm : ((m.toNat : Nat) : Int) = m := Int.toNat_of_nonneg h0
  refine ⟨1, [], (r2.take m.toNat).map fun b => b.toNat, (.where_  ((r2.take m.toNat).map fun b => b.toNat) : Vabldo.Call), rfl, by decide, .where_  _, ?_, by rw [List.length_map]; exact hL, rfl, hl, rfl, Or.inr ⟨rfl, m.toNat, ?_, ?_, ?_, ?_⟩⟩
  · show (VabldoNeutral.text (r2.take m.toNat)).map _ = _
    rw [t1]
    rfl
  · show some m = some ((m.toNat : Nat) : Int)
    rw [hm]
  · show 0 + 1 + m.toNat ≤ _
    simp only [List.length_cons]
    omega
  · exact t2
  · show r2.drop m.toNat = (m :: r2 : List Int).drop (0 + 1 + m.toNat)
    rw [← List.drop_drop]
    rfl
theorem one_2 {r t : List Int} {xs : List (List Int)} (hl : 1 ≤ r.length) (hr : PyFlat.rows 0 (r.drop 1) = some (xs, t)) (ha : VabldoNeutral.asked1 (PyVabldo.whole ((((2 : Int)) :: r.take 1) :: xs)) = true) : One (2 : Int) r t (((2 : Int) :: r.take 1) :: xs) := by
  obtain ⟨x, r', rfl⟩ : ∃ x r', r = x :: r' := by
    cases r with
    | nil => cases hl
    | cons x r' => exact ⟨x, r', rfl⟩
  obtain ⟨rfl, rfl⟩ := rows_zero hr
  exact ⟨2, [x], [], _, rfl, by decide, .plain x [], rfl, Nat.zero_le _, rfl, hl, rfl, Or.inl ⟨rfl, rfl, rfl⟩⟩
theorem one_3 {r t : List Int} {xs : List (List Int)} (hl : 1 ≤ r.length) (hr : PyFlat.rows 0 (r.drop 1) = some (xs, t)) (ha : VabldoNeutral.asked1 (PyVabldo.whole ((((3 : Int)) :: r.take 1) :: xs)) = true) : One (3 : Int) r t (((3 : Int) :: r.take 1) :: xs) := by
  obtain ⟨x, r', rfl⟩ : ∃ x r', r = x :: r' := by
    cases r with
    | nil => cases hl
    | cons x r' => exact ⟨x, r', rfl⟩
  obtain ⟨rfl, rfl⟩ := rows_zero hr
  exact ⟨3, [x], [], _, rfl, by decide, .fault x [], rfl, Nat.zero_le _, rfl, hl, rfl, Or.inl ⟨rfl, rfl, rfl⟩⟩
theorem one_4 {r t : List Int} {xs : List (List Int)} (hl : 1 ≤ r.length) (hr : PyFlat.rows 0 (r.drop 1) = some (xs, t)) (ha : VabldoNeutral.asked1 (PyVabldo.whole ((((4 : Int)) :: r.take 1) :: xs)) = true) : One (4 : Int) r t (((4 : Int) :: r.take 1) :: xs) := by
  obtain ⟨x, r', rfl⟩ : ∃ x r', r = x :: r' := by
    cases r with
    | nil => cases hl
    | cons x r' => exact ⟨x, r', rfl⟩
  obtain ⟨rfl, rfl⟩ := rows_zero hr
  exact ⟨4, [x], [], _, rfl, by decide, .stats x [], rfl, Nat.zero_le _, rfl, hl, rfl, Or.inl ⟨rfl, rfl, rfl⟩⟩
theorem one_5 {r t : List Int} {xs : List (List Int)} (hl : 1 ≤ r.length) (hr : PyFlat.rows 1 (r.drop 1) = some (xs, t)) (ha : VabldoNeutral.asked1 (PyVabldo.whole ((((5 : Int)) :: r.take 1) :: xs)) = true) : One (5 : Int) r t (((5 : Int) :: r.take 1) :: xs) := by
  obtain ⟨x, r', rfl⟩ : ∃ x r', r = x :: r' := by
    cases r with
    | nil => cases hl
    | cons x r' => exact ⟨x, r', rfl⟩
  obtain ⟨m, r2, e1, h0, h1, rfl, rfl⟩ := rows_one hr
  have e1 : r' = m :: r2 := e1
  subst e1
  have ha' : VabldoNeutral.asked1 [[5, x], r2.take m.toNat] = true := ha
  unfold VabldoNeutral.asked1 at ha'
  simp only [Bool.and_eq_true, decide_eq_true_eq] at ha'
  obtain ⟨hA, hL⟩ : ((r2.take m.toNat).all fun (z : Int) => VabldoNeutral.natural z 8) = true ∧ (r2.take m.toNat).length ≤ 10000 := by
    first | exact ⟨ha'.1, ha'.2⟩ | exact ⟨ha'.2.1, ha'.2.2⟩ | exact ⟨ha'.2.2.1, ha'.2.2.2⟩
  obtain ⟨t1, t2⟩ := txt_ok hA
  have hm : ((m.toNat : Nat) : Int) = m := Int.toNat_of_nonneg h0
  refine ⟨5, [x], (r2.take m.toNat).map fun b => b.toNat, (.made x ((r2.take m.toNat).map fun b => b.toNat) : Vabldo.Call), rfl, by decide, .made x _, ?_, by rw [List.length_map]; exact hL, rfl, hl, rfl, Or.inr ⟨rfl, m.toNat, ?_, ?_, ?_, ?_⟩⟩
  · show (VabldoNeutral.text (r2.take m.toNat)).map _ = _
    rw [t1]
    rfl
  · show some m = some ((m.toNat : Nat) : Int)
    rw [hm]
  · show 1 + 1 + m.toNat ≤ _
    simp only [List.length_cons]
    omega
  · exact t2
  · show r2.drop m.toNat = (x :: m :: r2 : List Int).drop (1 + 1 + m.toNat)
    rw [← List.drop_drop]
    rfl
theorem one_6 {r t : List Int} {xs : List (List Int)} (hl : 1 ≤ r.length) (hr : PyFlat.rows 1 (r.drop 1) = some (xs, t)) (ha : VabldoNeutral.asked1 (PyVabldo.whole ((((6 : Int)) :: r.take 1) :: xs)) = true) : One (6 : Int) r t (((6 : Int) :: r.take 1) :: xs) := by
  obtain ⟨x, r', rfl⟩ : ∃ x r', r = x :: r' := by
    cases r with
    | nil => cases hl
    | cons x r' => exact ⟨x, r', rfl⟩
  obtain ⟨m, r2, e1, h0, h1, rfl, rfl⟩ := rows_one hr
  have e1 : r' = m :: r2 := e1
  subst e1
  have ha' : VabldoNeutral.asked1 [[6, x], r2.take m.toNat] = true := ha
  unfold VabldoNeutral.asked1 at ha'
  simp only [Bool.and_eq_true, decide_eq_true_eq] at ha'
  obtain ⟨hA, hL⟩ : ((r2.take m.toNat).all fun (z : Int) => VabldoNeutral.natural z 8) = true ∧ (r2.take m.toNat).length ≤ 10000 := by
    first | exact ⟨ha'.1, ha'.2⟩ | exact ⟨ha'.2.1, ha'.2.2⟩ | exact ⟨ha'.2.2.1, ha'.2.2.2⟩
  obtain ⟨t1, t2⟩ := txt_ok hA
  have hm : ((m.toNat : Nat) : Int) = m := Int.toNat_of_nonneg h0
  refine ⟨6, [x], (r2.take m.toNat).map fun b => b.toNat, (.rests x ((r2.take m.toNat).map fun b => b.toNat) : Vabldo.Call), rfl, by decide, .rests x _, ?_, by rw [List.length_map]; exact hL, rfl, hl, rfl, Or.inr ⟨rfl, m.toNat, ?_, ?_, ?_, ?_⟩⟩
  · show (VabldoNeutral.text (r2.take m.toNat)).map _ = _
    rw [t1]
    rfl
  · show some m = some ((m.toNat : Nat) : Int)
    rw [hm]
  · show 1 + 1 + m.toNat ≤ _
    simp only [List.length_cons]
    omega
  · exact t2
  · show r2.drop m.toNat = (x :: m :: r2 : List Int).drop (1 + 1 + m.toNat)
    rw [← List.drop_drop]
    rfl
theorem one_7 {r t : List Int} {xs : List (List Int)} (hl : 2 ≤ r.length) (hr : PyFlat.rows 0 (r.drop 2) = some (xs, t)) (ha : VabldoNeutral.asked1 (PyVabldo.whole ((((7 : Int)) :: r.take 2) :: xs)) = true) : One (7 : Int) r t (((7 : Int) :: r.take 2) :: xs) := by
  obtain ⟨x, y, r', rfl⟩ : ∃ x y r', r = x :: y :: r' := by
    cases r with
    | nil => cases hl
    | cons x r' =>
      cases r' with
      | nil => exact absurd hl (by simp)
      | cons y r' => exact ⟨x, y, r', rfl⟩
  obtain ⟨rfl, rfl⟩ := rows_zero hr
  exact ⟨7, [x, y], [], _, rfl, by decide, .unlike x y [], rfl, Nat.zero_le _, rfl, hl, rfl, Or.inl ⟨rfl, rfl, rfl⟩⟩
theorem one_8 {r t : List Int} {xs : List (List Int)} (hl : 2 ≤ r.length) (hr : PyFlat.rows 0 (r.drop 2) = some (xs, t)) (ha : VabldoNeutral.asked1 (PyVabldo.whole ((((8 : Int)) :: r.take 2) :: xs)) = true) : One (8 : Int) r t (((8 : Int) :: r.take 2) :: xs) := by
  obtain ⟨x, y, r', rfl⟩ : ∃ x y r', r = x :: y :: r' := by
    cases r with
    | nil => cases hl
    | cons x r' =>
      cases r' with
      | nil => exact absurd hl (by simp)
      | cons y r' => exact ⟨x, y, r', rfl⟩
  obtain ⟨rfl, rfl⟩ := rows_zero hr
  exact ⟨8, [x, y], [], _, rfl, by decide, .first x y [], rfl, Nat.zero_le _, rfl, hl, rfl, Or.inl ⟨rfl, rfl, rfl⟩⟩
theorem one_9 {r t : List Int} {xs : List (List Int)} (hl : 2 ≤ r.length) (hr : PyFlat.rows 0 (r.drop 2) = some (xs, t)) (ha : VabldoNeutral.asked1 (PyVabldo.whole ((((9 : Int)) :: r.take 2) :: xs)) = true) : One (9 : Int) r t (((9 : Int) :: r.take 2) :: xs) := by
  obtain ⟨x, y, r', rfl⟩ : ∃ x y r', r = x :: y :: r' := by
    cases r with
    | nil => cases hl
    | cons x r' =>
      cases r' with
      | nil => exact absurd hl (by simp)
      | cons y r' => exact ⟨x, y, r', rfl⟩
  obtain ⟨rfl, rfl⟩ := rows_zero hr
  exact ⟨9, [x, y], [], _, rfl, by decide, .roots x y [], rfl, Nat.zero_le _, rfl, hl, rfl, Or.inl ⟨rfl, rfl, rfl⟩⟩
theorem one_10 {r t : List Int} {xs : List (List Int)} (hl : 2 ≤ r.length) (hr : PyFlat.rows 1 (r.drop 2) = some (xs, t)) (ha : VabldoNeutral.asked1 (PyVabldo.whole ((((10 : Int)) :: r.take 2) :: xs)) = true) : One (10 : Int) r t (((10 : Int) :: r.take 2) :: xs) := by
  obtain ⟨x, y, r', rfl⟩ : ∃ x y r', r = x :: y :: r' := by
    cases r with
    | nil => cases hl
    | cons x r' =>
      cases r' with
      | nil => exact absurd hl (by simp)
      | cons y r' => exact ⟨x, y, r', rfl⟩
  obtain ⟨m, r2, e1, h0, h1, rfl, rfl⟩ := rows_one hr
  have e1 : r' = m :: r2 := e1
  subst e1
  have ha' : VabldoNeutral.asked1 [[10, x, y], r2.take m.toNat] = true := ha
  unfold VabldoNeutral.asked1 at ha'
  simp only [Bool.and_eq_true, decide_eq_true_eq] at ha'
  obtain ⟨hA, hL⟩ : ((r2.take m.toNat).all fun (z : Int) => VabldoNeutral.natural z 8) = true ∧ (r2.take m.toNat).length ≤ 10000 := by
    first | exact ⟨ha'.1, ha'.2⟩ | exact ⟨ha'.2.1, ha'.2.2⟩ | exact ⟨ha'.2.2.1, ha'.2.2.2⟩
  obtain ⟨t1, t2⟩ := txt_ok hA
  have hm : ((m.toNat : Nat) : Int) = m := Int.toNat_of_nonneg h0
  refine ⟨10, [x, y], (r2.take m.toNat).map fun b => b.toNat, (.why x y ((r2.take m.toNat).map fun b => b.toNat) : Vabldo.Call), rfl, by decide, .why x y _, ?_, by rw [List.length_map]; exact hL, rfl, hl, rfl, Or.inr ⟨rfl, m.toNat, ?_, ?_, ?_, ?_⟩⟩
  · show (VabldoNeutral.text (r2.take m.toNat)).map _ = _
    rw [t1]
    rfl
  · show some m = some ((m.toNat : Nat) : Int)
    rw [hm]
  · show 2 + 1 + m.toNat ≤ _
    simp only [List.length_cons]
    omega
  · exact t2
  · show r2.drop m.toNat = (x :: y :: m :: r2 : List Int).drop (2 + 1 + m.toNat)
    rw [← List.drop_drop]
    rfl
theorem one_11 {r t : List Int} {xs : List (List Int)} (hl : 2 ≤ r.length) (hr : PyFlat.rows 0 (r.drop 2) = some (xs, t)) (ha : VabldoNeutral.asked1 (PyVabldo.whole ((((11 : Int)) :: r.take 2) :: xs)) = true) : One (11 : Int) r t (((11 : Int) :: r.take 2) :: xs) := by
  obtain ⟨x, y, r', rfl⟩ : ∃ x y r', r = x :: y :: r' := by
    cases r with
    | nil => cases hl
    | cons x r' =>
      cases r' with
      | nil => exact absurd hl (by simp)
      | cons y r' => exact ⟨x, y, r', rfl⟩
  obtain ⟨rfl, rfl⟩ := rows_zero hr
  exact ⟨11, [x, y], [], _, rfl, by decide, .steady x y [], rfl, Nat.zero_le _, rfl, hl, rfl, Or.inl ⟨rfl, rfl, rfl⟩⟩
theorem one_12 {r t : List Int} {xs : List (List Int)} (hl : 1 ≤ r.length) (hr : PyFlat.rows 0 (r.drop 1) = some (xs, t)) (ha : VabldoNeutral.asked1 (PyVabldo.whole ((((12 : Int)) :: r.take 1) :: xs)) = true) : One (12 : Int) r t (((12 : Int) :: r.take 1) :: xs) := by
  obtain ⟨x, r', rfl⟩ : ∃ x r', r = x :: r' := by
    cases r with
    | nil => cases hl
    | cons x r' => exact ⟨x, r', rfl⟩
  obtain ⟨rfl, rfl⟩ := rows_zero hr
  exact ⟨12, [x], [], _, rfl, by decide, .sorted x [], rfl, Nat.zero_le _, rfl, hl, rfl, Or.inl ⟨rfl, rfl, rfl⟩⟩
theorem one_13 {r t : List Int} {xs : List (List Int)} (hl : 1 ≤ r.length) (hr : PyFlat.rows 1 (r.drop 1) = some (xs, t)) (ha : VabldoNeutral.asked1 (PyVabldo.whole ((((13 : Int)) :: r.take 1) :: xs)) = true) : One (13 : Int) r t (((13 : Int) :: r.take 1) :: xs) := by
  obtain ⟨x, r', rfl⟩ : ∃ x r', r = x :: r' := by
    cases r with
    | nil => cases hl
    | cons x r' => exact ⟨x, r', rfl⟩
  obtain ⟨m, r2, e1, h0, h1, rfl, rfl⟩ := rows_one hr
  have e1 : r' = m :: r2 := e1
  subst e1
  have ha' : VabldoNeutral.asked1 [[13, x], r2.take m.toNat] = true := ha
  unfold VabldoNeutral.asked1 at ha'
  simp only [Bool.and_eq_true, decide_eq_true_eq] at ha'
  obtain ⟨hA, hL⟩ : ((r2.take m.toNat).all fun (z : Int) => VabldoNeutral.natural z 8) = true ∧ (r2.take m.toNat).length ≤ 10000 := by
    first | exact ⟨ha'.1, ha'.2⟩ | exact ⟨ha'.2.1, ha'.2.2⟩ | exact ⟨ha'.2.2.1, ha'.2.2.2⟩
  obtain ⟨t1, t2⟩ := txt_ok hA
  have hm : ((m.toNat : Nat) : Int) = m := Int.toNat_of_nonneg h0
  refine ⟨13, [x], (r2.take m.toNat).map fun b => b.toNat, (.drop x ((r2.take m.toNat).map fun b => b.toNat) : Vabldo.Call), rfl, by decide, .drop x _, ?_, by rw [List.length_map]; exact hL, rfl, hl, rfl, Or.inr ⟨rfl, m.toNat, ?_, ?_, ?_, ?_⟩⟩
  · show (VabldoNeutral.text (r2.take m.toNat)).map _ = _
    rw [t1]
    rfl
  · show some m = some ((m.toNat : Nat) : Int)
    rw [hm]
  · show 1 + 1 + m.toNat ≤ _
    simp only [List.length_cons]
    omega
  · exact t2
  · show r2.drop m.toNat = (x :: m :: r2 : List Int).drop (1 + 1 + m.toNat)
    rw [← List.drop_drop]
    rfl
theorem parse_one {c0 : Int} {r t : List Int} {c : List (List Int)} (h : PyFlat.call PyVabldo.shape (c0 :: r) = some (c, t)) (ha : VabldoNeutral.asked1 (PyVabldo.whole c) = true) : One c0 r t c := by
  obtain ⟨n, k, hs, hl, xs, hr, rfl⟩ := call_parts h
  unfold PyVabldo.shape at hs
  by_cases h0 : c0 = 0
  · rw [if_pos h0] at hs
    cases hs
    subst h0
    exact one_0 hl hr ha
  rw [if_neg h0] at hs
  by_cases h1 : c0 = 1
  · rw [if_pos h1] at hs
    cases hs
    subst h1
    exact one_1 hl hr ha
  rw [if_neg h1] at hs
  by_cases h2 : c0 = 2
  · rw [if_pos h2] at hs
    cases hs
    subst h2
    exact one_2 hl hr ha
  rw [if_neg h2] at hs
  by_cases h3 : c0 = 3
  · rw [if_pos h3] at hs
    cases hs
    subst h3
    exact one_3 hl hr ha
  rw [if_neg h3] at hs
  by_cases h4 : c0 = 4
  · rw [if_pos h4] at hs
    cases hs
    subst h4
    exact one_4 hl hr ha
  rw [if_neg h4] at hs
  by_cases h5 : c0 = 5
  · rw [if_pos h5] at hs
    cases hs
    subst h5
    exact one_5 hl hr ha
  rw [if_neg h5] at hs
  by_cases h6 : c0 = 6
  · rw [if_pos h6] at hs
    cases hs
    subst h6
    exact one_6 hl hr ha
  rw [if_neg h6] at hs
  by_cases h7 : c0 = 7
  · rw [if_pos h7] at hs
    cases hs
    subst h7
    exact one_7 hl hr ha
  rw [if_neg h7] at hs
  by_cases h8 : c0 = 8
  · rw [if_pos h8] at hs
    cases hs
    subst h8
    exact one_8 hl hr ha
  rw [if_neg h8] at hs
  by_cases h9 : c0 = 9
  · rw [if_pos h9] at hs
    cases hs
    subst h9
    exact one_9 hl hr ha
  rw [if_neg h9] at hs
  by_cases h10 : c0 = 10
  · rw [if_pos h10] at hs
    cases hs
    subst h10
    exact one_10 hl hr ha
  rw [if_neg h10] at hs
  by_cases h11 : c0 = 11
  · rw [if_pos h11] at hs
    cases hs
    subst h11
    exact one_11 hl hr ha
  rw [if_neg h11] at hs
  by_cases h12 : c0 = 12
  · rw [if_pos h12] at hs
    cases hs
    subst h12
    exact one_12 hl hr ha
  rw [if_neg h12] at hs
  by_cases h13 : c0 = 13
  · rw [if_pos h13] at hs
    cases hs
    subst h13
    exact one_13 hl hr ha
  rw [if_neg h13] at hs
  cases hs
end Bl

-- part W39
set_option Elab.async false
set_option linter.all false
set_option maxRecDepth 100000
set_option maxHeartbeats 4000000
namespace Bl
open PySem PySem.Spec PyProof.Rows L2 Evl
open VabldoNeutral (encode)
open LamX (ExtN Tabs TabB)
/-! ### the walk of answers -/
theorem code_frz (o : Obj) (u : HO) (c : Addr) (s : Str) : HO.frz o u ≠ LamX.CodeO c s := fun z => by
  unfold LamX.CodeO at z
  cases z
theorem nums_at : ∀ c, c ≤ 13 → ([.int 1, .int 0, .int 1, .int 1, .int 1, .int 1, .int 1, .int 2, .int 2, .int 2, .int 2, .int 2, .int 1, .int 1] : List V)[c]? = some (.int ((numN c : Nat) : Int))
  | 0, _ => rfl
  | 1, _ => rfl
  | 2, _ => rfl
  | 3, _ => rfl
  | 4, _ => rfl
  | 5, _ => rfl
  | 6, _ => rfl
  | 7, _ => rfl
  | 8, _ => rfl
  | 9, _ => rfl
  | 10, _ => rfl
  | 11, _ => rfl
  | 12, _ => rfl
  | 13, _ => rfl
  | n + 14, h => by omega
theorem has_at : ∀ c, c ≤ 13 → ([.bl true, .bl true, .bl false, .bl false, .bl false, .bl true, .bl true, .bl false, .bl false, .bl false, .bl true, .bl false, .bl false, .bl true] : List V)[c]? = some (.bl (hasT c))
  | 0, _ => rfl
  | 1, _ => rfl
  | 2, _ => rfl
  | 3, _ => rfl
  | 4, _ => rfl
  | 5, _ => rfl
  | 6, _ => rfl
  | 7, _ => rfl
  | 8, _ => rfl
  | 9, _ => rfl
  | 10, _ => rfl
  | 11, _ => rfl
  | 12, _ => rfl
  | 13, _ => rfl
  | n + 14, h => by omega
theorem num_if : ∀ c, c ≤ 13 → numN c = if c = 1 then 0 else if 7 ≤ c ∧ c ≤ 11 then 2 else 1
  | 0, _ => rfl
  | 1, _ => rfl
  | 2, _ => rfl
  | 3, _ => rfl
  | 4, _ => rfl
  | 5, _ => rfl
  | 6, _ => rfl
  | 7, _ => rfl
  | 8, _ => rfl
  | 9, _ => rfl
  | 10, _ => rfl
  | 11, _ => rfl
  | 12, _ => rfl
  | 13, _ => rfl
  | n + 14, h => by omega
section
variable {α : Type} {w : World} {K : PySem.W.Frag} {mg : Str → Option Value} {base : Heap} {σ : L2.St} {H H' : Hp} {ta tb tc te tl td ty : TE} {v y z : V} {D : Ends} {tu tz : TS}
theorem s_extL {l b : Addr} {xs zs : List V} (hl : H l = some (.lst xs)) (ha : Ev ta σ H (.ref l)) (h : Ev te σ H (.ref b)) (hb : H b = some (.lst zs)) (hz : xs.length + zs.length ≤ 16000000) (k : ∀ H1, Ex H H1 → D.nx σ (upd H1 l (.lst (xs ++ zs)))) :
    tDrop (tBM K "list" rExtend ta (tCons te tNil)) D σ H := ha H (Ex.refl H) _ fun H1 e1 =>
  ⟨Or.inl ⟨rfl, xs, sq_of (e1 l _ hl)⟩, h H1 e1 _ fun H2 e2 => ⟨l, b, xs, zs, rfl, rfl, (e1.trans e2) l _ hl, (e1.trans e2) b _ hb, Nat.le_trans hz (by decide), k H2 (e1.trans e2)⟩⟩
theorem slw_frz {sl : List (Option Vabldo.Log)} {S g : Addr} {o : Obj} {u : HO} (h : SlW K sl S H) (hg : H g = some (.frz o u)) : SlW K sl S (minus H [g]) := by
  obtain ⟨sv, hS, hA⟩ := h.ex
  have n0 : ∀ {b : Addr} {x : HO}, H b = some x → (∀ o u, x ≠ .frz o u) → b ∉ [g] := fun hb hx => by rw [List.mem_singleton]; exact ne_of hb hg (hx _ _)
  refine ⟨⟨sv, minus_get hS (n0 hS (by intro _ _ z; cases z)), hA.imp fun o v ho => ?_⟩, h.four, h.ok⟩
  cases o with
  | none => exact ho
  | some l =>
    have ho : LogAt K l v (minus H [S]) := ho
    have g0 : ∀ {b : Addr} {x : HO}, minus H [S] b = some x → (∀ o u, x ≠ .frz o u) → minus (minus H [g]) [S] b = some x := fun hb hx => by
      obtain ⟨b1, b2⟩ := minus_some hb
      exact minus_get (minus_get b2 (n0 b2 hx)) b1
    have tx : ∀ {t : List Nat} {v : V}, IsTx t v (minus H [S]) → IsTx t v (minus (minus H [g]) [S]) := fun h => by
      obtain ⟨a, e, ha⟩ := h
      exact ⟨a, e, g0 ha (by intro _ _ z; cases z)⟩
    have fl : ∀ {u : Vabldo.Used} {v : V}, FileAt K u v (minus H [S]) → FileAt K u v (minus (minus H [g]) [S]) := fun h => by
      obtain ⟨x, dx, s, e, hx, hs⟩ := h
      exact ⟨x, dx, s, e, g0 hx (by intro _ _ z; cases z), g0 hs (by intro _ _ z; cases z)⟩
    obtain ⟨x, dx, rl, rs, e, hx, hr, hR⟩ := ho
    refine ⟨x, dx, rl, rs, e, g0 hx (by intro _ _ z; cases z), g0 hr (by intro _ _ z; cases z), hR.imp fun r v h => ?_⟩
    obtain ⟨p, dx, nm, tl, a1, a2, a3, xs1, xs2, xs3, e, hX⟩ := h
    exact ⟨p, dx, nm, tl, a1, a2, a3, xs1, xs2, xs3, e, g0 hX.o (by intro _ _ z; cases z), g0 hX.l1 (by intro _ _ z; cases z), g0 hX.l2 (by intro _ _ z; cases z), g0 hX.l3 (by intro _ _ z; cases z), g0 hX.nm (by intro _ _ z; cases z), g0 hX.tl (by intro _ _ z; cases z), hX.ar.imp fun _ _ h => tx h, hX.i.imp fun _ _ h => fl h, hX.ou.imp fun _ _ h => fl h⟩
theorem rest_body {a S g nq bt : Addr} {p' : Int} {cn : Nat} {s5 s8 : Option V} {sl : List (Option Vabldo.Log)} {ks out : List Int} {tx : List Nat} (hs : SlW K sl S (minus H [g])) (hg : H g = some (.lst (out.map V.int))) (hgS : g ≠ S) (hq : H nq = some (.lst (ks.map V.int))) (nqg : nq ≠ g)
    (hkn : ks.length = (if cn = 1 then 0 else if 7 ≤ cn ∧ cn ≤ 11 then 2 else 1)) (hb : Tx H bt tx) (hz : tx.length ≤ 10000) (hT : Tabs (tabsOf K) H) (hsz : out.length + (encode (stepSl cn sl ks tx).2).length + 1 ≤ 10000000)
    (k : ∀ y H', ExtN (minus H [S, g]) H' → Tabs (tabsOf K) H' → SlW K (stepSl cn sl ks tx).1 S (minus H' [g]) → H' g = some (.lst ((out ++ (((encode (stepSl cn sl ks tx).2).length : Nat) : Int) :: encode (stepSl cn sl ks tx).2).map V.int)) → D.nx [some (.ref a), some (.ref S), some (.ref g), some (.int p'), some (.int (cn : Int)), s5, some (.ref nq), some (.ref bt), some y] H') :
    tSeq (tAsg (tLockE (tCall (sp_answer K) [] E0 (tCons (tVar 4) (tCons (tVar 1) (tCons (tVar 6) (tCons (tVar 7) tNil)))))) (gName 8)) (tSeq (tDrop (tBM K "list" rAppend (tVar 2) (tCons (tCB (rLenQ K) (tCons (tVar 8) tNil)) tNil))) (tDrop (tBM K "list" rExtend (tVar 2) (tCons (tVar 8) tNil)))) D [some (.ref a), some (.ref S), some (.ref g), some (.int p'), some (.int (cn : Int)), s5, some (.ref nq), some (.ref bt), s8] H := by
  refine ⟨g, _, hg, trivial, fun od => ?_⟩
  have eL : Ex (minus H [g]) (upd H g (.frz od (.lst (out.map V.int)))) := ex_mut (by simp)
  have hTL : Tabs (tabsOf K) (upd H g (.frz od (.lst (out.map V.int)))) := tabs_mut hT hg (fun ps z => nomatch z) (code_lst _)
  have hqL : upd H g (.frz od (.lst (out.map V.int))) nq = some (.lst (ks.map V.int)) := by rw [upd_ne nqg]; exact hq
  have hbL : Tx (upd H g (.frz od (.lst (out.map V.int)))) bt tx := by
    show upd H g _ bt = _
    rw [upd_ne (ne_of hb hg (by intro z; cases z))]
    exact hb
  refine (show tCall (sp_answer K) [] E0 (tCons (tVar 4) (tCons (tVar 1) (tCons (tVar 6) (tCons (tVar 7) tNil)))) _ (upd H g (.frz od (.lst (out.map V.int)))) _ from ?_)
  refine (ea_cons (ev_var rfl) (ea_cons (ev_var rfl) (ea_cons (ev_var rfl) (ea_cons (ev_var rfl) ea_nil)))) _ (Ex.refl _) _ fun H1 e1 => ?_
  rw [List.append_nil]
  refine ⟨cn, S, sl, nq, ks, bt, tx, rfl, (hs.mono eL).mono e1, e1 _ _ hqL, hkn, hbL.mono e1, hz, hTL.ext e1, fun x H2 eN hT2 hS2 hx => ?_⟩
  obtain ⟨pa, rfl, hpa0, hpa⟩ := hx
  have hg1 : H1 g = some (.frz od (.lst (out.map V.int))) := e1 _ _ upd_same
  have hg2 : H2 g = some (.frz od (.lst (out.map V.int))) := eN _ _ (minus_get hg1 (by rw [List.mem_singleton]; exact hgS)) (fun ps z => nomatch z)
  have npg : pa ≠ g := fun z => by
    rw [z, noT_get hg1 (fun ps z => nomatch z)] at hpa0
    cases hpa0
  refine ⟨hg2, ?_⟩
  have hS3 : SlW K (stepSl cn sl ks tx).1 S (minus (upd H2 g (.lst (out.map V.int))) [g]) := by
    rw [minus_upd (by simp)]
    exact slw_frz hS2 hg2
  have hT3 : Tabs (tabsOf K) (upd H2 g (.lst (out.map V.int))) := tabs_mut hT2 hg2 (fun ps z => nomatch z) (code_frz _ _)
  have hpa3 : upd H2 g (.lst (out.map V.int)) pa = some (.lst ((encode (stepSl cn sl ks tx).2).map V.int)) := by rw [upd_ne npg]; exact hpa
  have eN3 : ExtN (minus H [S, g]) (upd H2 g (.lst (out.map V.int))) := fun b o hb hn => by
    obtain ⟨nb, hb⟩ := minus_some hb
    have nbS : b ≠ S := fun z => nb (by rw [z]; simp)
    have nbg : b ≠ g := fun z => nb (by rw [z]; simp)
    rw [upd_ne nbg]
    refine eN b o (minus_get (e1 _ _ ?_) (by rw [List.mem_singleton]; exact nbS)) hn
    rw [upd_ne nbg]
    exact hb
  refine q_app' (v := .int (((encode (stepSl cn sl ks tx).2).length : Nat) : Int)) upd_same (ev_var rfl) ?_ (by rw [List.length_map]; omega) fun H4 e4 => ?_
  · have := ev_lenLs (K := K) (σ := [some (V.ref a), some (V.ref S), some (V.ref g), some (V.int p'), some (V.int (cn : Int)), s5, some (V.ref nq), some (V.ref bt), some (V.ref pa)]) (ta := tVar 8) (ev_var rfl) hpa3
    rw [List.length_map] at this
    exact this
  · have hg4 := e4 _ _ (upd_same (H := H2) (a := g) (o := .lst (out.map V.int)))
    have hT5 : Tabs (tabsOf K) (upd H4 g (.lst (out.map V.int ++ [.int (((encode (stepSl cn sl ks tx).2).length : Nat) : Int)]))) := tabs_mut (hT3.ext e4) hg4 (fun ps z => nomatch z) (code_lst _)
    have hpa5 : upd H4 g (.lst (out.map V.int ++ [.int (((encode (stepSl cn sl ks tx).2).length : Nat) : Int)])) pa = some (.lst ((encode (stepSl cn sl ks tx).2).map V.int)) := by rw [upd_ne npg]; exact e4 _ _ hpa3
    refine s_extL upd_same (ev_var rfl) (ev_var rfl) hpa5 (by rw [List.length_append, List.length_map, List.length_map, List.length_singleton]; omega) fun H6 e6 => ?_
    refine k _ _ (fun b o hb hn => ?_) (tabs_mut (hT5.ext e6) (e6 _ _ upd_same) (fun ps z => nomatch z) (code_lst _)) ?_ ?_
    · have h3 := eN3 b o hb hn
      obtain ⟨nb, _⟩ := minus_some hb
      have nbg : b ≠ g := fun z => nb (by rw [z]; simp)
      rw [upd_ne nbg]
      refine e6 _ _ ?_
      rw [upd_ne nbg]
      exact e4 _ _ h3
    · rw [minus_upd (by simp)]
      refine SlW.mono (H := minus (upd H4 g (.lst (out.map V.int ++ [.int (((encode (stepSl cn sl ks tx).2).length : Nat) : Int)]))) [g]) ?_ (Ex.minus e6)
      rw [minus_upd (by simp)]
      exact hS3.mono (Ex.minus e4)
    · rw [upd_same, List.map_append, List.map_cons, List.append_assoc]
      rfl
theorem cut_mid (xs : List V) (i j : Nat) (h1 : i ≤ j) (h : j ≤ xs.length) : cutV xs (some (i : Int)) (some (j : Int)) = (xs.drop i).take (j - i) := by
  unfold cutV
  rw [sIx_at _ _ j h, sIx_at _ _ i (by omega)]
theorem sq_ext {a : Addr} {xs : List V} (h : SqL K H a xs) (e : ExtN H H') : SqL K H' a xs := by
  rcases h with h | h
  · rcases h with h | ⟨o, h⟩
    · exact Or.inl (Or.inl (e _ _ h (fun ps z => nomatch z)))
    · exact Or.inl (Or.inr ⟨o, e _ _ h (fun ps z => nomatch z)⟩)
  · exact Or.inr h
abbrev sp_answers (K : PySem.W.Frag) : Sp := fun vs H Q _ => ∃ (a : Addr) (l : List Int), vs = [.ref a] ∧ SqL K H a (l.map V.int) ∧ l.length ≤ 17000 ∧ PyVabldo.answers_asked l = true ∧ Tabs (tabsOf K) H ∧ ∀ p H', H' p = some (.lst ((PyVabldo.answers l).map V.int)) → Q (.ref p) H'
theorem told_cons (st : Vabldo.State) (c : List (List Int)) (cs : List (List (List Int))) {call : Vabldo.Call} (h : VabldoNeutral.callOf c = some call) : PyFlat.told (PyFlat.played VabldoNeutral.step st (c :: cs)) = (((encode (Vabldo.step st call).2).length : Nat) : Int) :: (encode (Vabldo.step st call).2 ++ PyFlat.told (PyFlat.played VabldoNeutral.step (Vabldo.step st call).1 cs)) := by
  have e : VabldoNeutral.step st c = ((Vabldo.step st call).1, encode (Vabldo.step st call).2) := by
    unfold VabldoNeutral.step
    rw [h]
  show PyFlat.told ((VabldoNeutral.step st c).2 :: PyFlat.played VabldoNeutral.step (VabldoNeutral.step st c).1 cs) = _
  rw [e]
  rfl
theorem calls_cons {f : Nat} {p : Int} {r : List Int} {cs : List (List (List Int))} (h : PyFlat.calls PyVabldo.shape f (p :: r) = some cs) : ∃ f' c t cs', PyFlat.call PyVabldo.shape (p :: r) = some (c, t) ∧ PyFlat.calls PyVabldo.shape f' t = some cs' ∧ cs = c :: cs' := by
  cases f with
  | zero => cases h
  | succ f =>
    unfold PyFlat.calls at h
    cases hc : PyFlat.call PyVabldo.shape (p :: r) with
    | none =>
      rw [hc] at h
      cases h
    | some ct =>
      obtain ⟨c, t⟩ := ct
      rw [hc] at h
      dsimp only at h
      cases hs : PyFlat.calls PyVabldo.shape f t with
      | none =>
        rw [hs] at h
        cases h
      | some cs' =>
        rw [hs] at h
        cases h
        exact ⟨f, c, t, cs', rfl, hs, rfl⟩
theorem calls_nil {f : Nat} {cs : List (List (List Int))} (h : PyFlat.calls PyVabldo.shape f [] = some cs) : cs = [] := by
  cases f <;> (cases h; rfl)
theorem asked_parts {l : List Int} (h : PyVabldo.answers_asked l = true) : ∃ raw, PyFlat.calls PyVabldo.shape l.length l = some raw ∧ (∀ c ∈ raw, VabldoNeutral.asked1 (PyVabldo.whole c) = true) ∧ (PyVabldo.answers l).length ≤ 10000000 ∧ PyVabldo.answers l = PyFlat.told (PyFlat.played VabldoNeutral.step VabldoNeutral.start (raw.map PyVabldo.whole)) := by
  unfold PyVabldo.answers_asked at h
  cases hc : PyFlat.calls PyVabldo.shape l.length l with
  | none =>
    rw [hc] at h
    cases h
  | some raw =>
    rw [hc] at h
    simp only [Bool.and_eq_true] at h
    obtain ⟨⟨_, h1⟩, h2⟩ := h
    unfold VabldoNeutral.asked at h1
    simp only [Bool.and_eq_true] at h1
    refine ⟨raw, rfl, fun c hc => List.all_eq_true.mp h1.1 _ (List.mem_map.mpr ⟨c, hc, rfl⟩), of_decide_eq_true h2, ?_⟩
    unfold PyVabldo.answers PyVabldo.calls
    rw [hc]
theorem ev_addN {a b : Nat} (h1 : Ev ta σ H (.int (a : Int))) (h2 : Ev tb σ H (.int (b : Int))) : Ev (tOp (rI0 fun i j => .int (i + j)) ta tb) σ H (.int ((a + b : Nat) : Int)) := by
  have := ev_op (r := rI0 fun i j => .int (i + j)) h1 h2 rv_I0
  rw [Int.natCast_add]
  exact this
theorem sc_answers : FnScope ["calls", "slots", "given", "place", "call", "start", "numbers", "text", "answered"] ["calls"] (defScope s_answers) := ⟨rfl, rfl, rfl, by decide +kernel, rfl, by decide +kernel, by decide +kernel⟩
theorem ok_answers (T : Txt w K mg) (H_answer : Has P0 w K mg base "answer" 9 ["call", "slots", "numbers", "text"] (sp_answer K)) : Has P0 w K mg base "answers" 10 ["calls"] (sp_answers K) := by
  refine has_of T.f_answers T.g_answers sc_answers (fun _ _ _ _ _ _ us hl => match us, hl with | [_], _ => rfl) (fun vs H Q E h => by obtain ⟨a, l, rfl, hSq, hz, hask, hT, k⟩ := h; rfl) (fun cdv A outer s H vs Q E hr h => ⟨_, PSs.nox (pss_cons (ps_set (i := 1) sc_answers.nd rfl (Or.inl rfl) (pe_lst (pa_cons pe_non (pa_cons pe_non (pa_cons pe_non (pa_cons pe_non pa_nil)))))) (pss_cons (ps_set (i := 2) sc_answers.nd rfl (Or.inl rfl) (pe_lst pa_nil)) (pss_cons (ps_set (i := 3) sc_answers.nd rfl (Or.inl rfl) pe_int) (pss_cons (ps_while PassesOwn.never (pt_cmpR op_lt (pv 3) (pe_callB call_len_seq (by rfl) T.b_len PySem.boot_len (pa_cons (pv 0) pa_nil)) (nomark _)) (pss_cons (ps_set (i := 4) sc_answers.nd rfl (Or.inl rfl) (pe_ix ix_list (pv 0) (pv 3) (fun _ _ => rfl))) (pss_cons (ps_set (i := 5) sc_answers.nd rfl (Or.inl rfl) (pe_op op_add (pv 3) pe_int)) (pss_cons (ps_set (i := 3) sc_answers.nd rfl (Or.inl rfl) (pe_op op_add (pv 5) (pe_ix ix_tup (pe_gr (by rfl) T.g_NUMBERS) (pv 4) (fun _ _ => rfl)))) (pss_cons (ps_set (i := 6) sc_answers.nd rfl (Or.inl rfl) (pe_slice sl_list (pv 0) (po_some (pv 5)) (po_some (pv 3)))) (pss_cons (ps_set (i := 7) sc_answers.nd rfl (Or.inl rfl) (pe_tup pa_nil)) (pss_cons (ps_if (pt_val (pe_ix ix_tup (pe_gr (by rfl) T.g_HAS_TEXT) (pv 4) (fun _ _ => rfl))) (pss_cons (ps_set (i := 5) sc_answers.nd rfl (Or.inl rfl) (pe_op op_add (pv 3) pe_int)) (pss_cons (ps_set (i := 3) sc_answers.nd rfl (Or.inl rfl) (pe_op op_add (pv 5) (pe_ix ix_list (pv 0) (pv 3) (fun _ _ => rfl)))) (pss_one (ps_set (i := 7) sc_answers.nd rfl (Or.inl rfl) (pe_callTy call_tuple_of (by rfl) T.b_tuple (by decide +kernel) (pa_cons (pe_slice sl_list (pv 0) (po_some (pv 5)) (po_some (pv 3))) pa_nil)))))) pss_nil) (pss_cons (ps_set (i := 8) sc_answers.nd rfl (Or.inl rfl) (pe_lock (pe_h H_answer (by exact hr.mono (by decide)) (by rfl) (pa_cons (pv 4) (pa_cons (pv 1) (pa_cons (pv 6) (pa_cons (pv 7) pa_nil))))))) (pss_cons (ps_expr (pe_bm PySem.F.plainAttrs_list PySem.F.slot_list_append PySem.F.type_list_append mt_append (pv 2) (pa_cons (pe_callB call_len_seq (by rfl) T.b_len PySem.boot_len (pa_cons (pv 8) pa_nil)) pa_nil))) (pss_one (ps_expr (pe_bm PySem.F.plainAttrs_list PySem.F.slot_list_extend PySem.F.type_list_extend mt_extend (pv 2) (pa_cons (pv 8) pa_nil))))))))))))) (pss_one (ps_ret (pv 2))))))), ?_⟩)
  obtain ⟨a, l, rfl, hSq, hz, hask, hT, k⟩ := h
  obtain ⟨raw, hcalls, hone, hlen, hans⟩ := asked_parts hask
  refine q_asgL (el_lst (ea_cons ev_c (ea_cons ev_c (ea_cons ev_c (ea_cons ev_c ea_nil)))) (show 4 ≤ 100000 by decide)) fun S H1 hS0 e1 h1 => ?_
  refine q_asgL (el_lst ea_nil (by decide)) fun g H2 hg0 e2 h2 => ?_
  refine q_asg ev_c fun H3 e3 => ?_
  have hgS : g ≠ S := fun z => by
    rw [z, h1] at hg0
    cases hg0
  have hg00 : H g = none := fresh_back e1 hg0
  have e13 := (e1.trans e2).trans e3
  have hg3 : H3 g = some (.lst (([] : List Int).map V.int)) := e3 _ _ h2
  have hS3 : H3 S = some (.lst [.non, .non, .non, .non]) := (e2.trans e3) _ _ h1
  have hSl3 : SlW K (slotsOf VabldoNeutral.start) S (minus H3 [g]) := by
    refine ⟨⟨_, minus_get hS3 (by rw [List.mem_singleton]; exact hgS.symm), ?_⟩, rfl, fun l hl => ?_⟩
    · exact .cons rfl (.cons rfl (.cons rfl (.cons rfl .nil)))
    · have : some l ∈ ([none, none, none, none] : List (Option Vabldo.Log)) := hl
      simp at this
  refine q_while (fun m σ' H' => ∃ (p : Nat) (s4 s5 s6 s7 s8 : Option V) (st : Vabldo.State) (out : List Int) (f : Nat) (cs : List (List (List Int))), σ' = [some (.ref a), some (.ref S), some (.ref g), some (.int (p : Int)), s4, s5, s6, s7, s8] ∧ ExtN H H' ∧ Tabs (tabsOf K) H' ∧ SlW K (slotsOf st) S (minus H' [g]) ∧ H' g = some (.lst (out.map V.int)) ∧ p ≤ l.length ∧ m = l.length - p ∧ PyFlat.calls PyVabldo.shape f (l.drop p) = some cs ∧ (∀ c ∈ cs, VabldoNeutral.asked1 (PyVabldo.whole c) = true) ∧ out ++ PyFlat.told (PyFlat.played VabldoNeutral.step st (cs.map PyVabldo.whole)) = PyVabldo.answers l) l.length ⟨0, _, _, _, _, _, VabldoNeutral.start, [], l.length, raw, rfl, exN e13, hT.ext e13, hSl3, hg3, Nat.zero_le _, rfl, hcalls, hone, hans.symm⟩ (fun m σ' H' hw => ?_)
  obtain ⟨p, s4, s5, s6, s7, s8, st, out, f, cs, rfl, eN, hT', hSl, hg, hp, rfl, hcs, hon, hout⟩ := hw
  have hSq' := sq_ext hSq eN
  refine ⟨decide (p < l.length), et_eq (et_test (ev_lt (ev_var rfl) (ev_len (ev_var rfl) hSq'))) (by rw [List.length_map]; exact dec_lt _ _), fun hb H4 e4 => ?_, fun hb H4 e4 => ?_⟩
  · have hlt := of_decide_eq_true hb
    refine ⟨_, fun _ _ h => h, ?_⟩
    have hSq4 := ex_l e4 hSq'
    -- the call
    have hdr : l.drop p = l[p] :: l.drop (p + 1) := List.drop_eq_getElem_cons hlt
    rw [hdr] at hcs
    obtain ⟨f', c, t, cs', hcall, hcs', rfl⟩ := calls_cons hcs
    have hOne := parse_one hcall (hon c (List.mem_cons_self ..))
    obtain ⟨cn, ks, tx, call, hc0, hc13, hCI, hcO, htx, hks, hnl, hksl, hway⟩ := hOne
    have hlp : l[p]? = some (cn : Int) := by rw [List.getElem?_eq_getElem hlt, hc0]
    have hlp' : (l.map V.int)[p]? = some (.int (cn : Int)) := int_at hlp
    have hrl : (l.drop (p + 1)).length = l.length - (p + 1) := List.length_drop ..
    have hst := step_eq hCI st
    have hout2 := hout
    rw [List.map_cons, told_cons st _ _ hcO] at hout2
    have hsz : out.length + (encode (stepSl cn (slotsOf st) ks tx).2).length + 1 ≤ 10000000 := by
      have := congrArg List.length hout2
      rw [List.length_append, List.length_cons, List.length_append] at this
      rw [hst]
      dsimp only
      omega
    refine q_asg (ev_op (ev_var rfl) (ev_var rfl) (rv_ixL hSq4 (atI_nat hlp'))) fun H5 e5 => ?_
    refine q_asg (ev_addN (b := 1) (ev_var rfl) ev_c) fun H6 e6 => ?_
    refine q_asg (ev_addN (b := numN cn) (ev_var rfl) (ev_op ev_c (ev_var rfl) (rv_ixT (T.t_NUMBERS _) (atI_nat (nums_at cn hc13))))) fun H7 e7 => ?_
    have e47 := (e5.trans e6).trans e7
    have hSq7 := ex_l e47 hSq4
    have hnum : cutV (l.map V.int) (some ((p + 1 : Nat) : Int)) (some ((p + 1 + numN cn : Nat) : Int)) = ks.map V.int := by
      rw [cut_mid _ _ _ (by omega) (by rw [List.length_map]; omega), hks, Nat.add_sub_cancel_left, ← List.map_drop, ← List.map_take]
    have hEL := el_sl (K := K) (te := tVar 0) (σ := [some (V.ref a), some (V.ref S), some (V.ref g), some (V.int ((p + 1 + numN cn : Nat) : Int)), some (V.int (cn : Int)), some (V.int ((p + 1 : Nat) : Int)), s6, s7, s8]) (ev_var rfl) (eo_some (te := tVar 5) (ev_var rfl)) (eo_some (te := tVar 3) (ev_var rfl)) hSq7
    rw [hnum] at hEL
    refine q_asgL hEL fun nq H8 hnq e8 h8 => ?_
    refine q_asgP ep_tup0 fun bt H9 e9 hbt => ?_
    obtain ⟨b0, rfl, hb0⟩ := hbt
    have e49 := e4.trans (e47.trans (e8.trans e9))
    have hSq9 := ex_l (e8.trans e9) hSq7
    have eN9 : ExtN H H9 := LamX.ExtN.trans eN (exN e49)
    have hT9 := hT'.ext e49
    have hSl9 := hSl.mono (Ex.minus (M := [g]) e49)
    have hg9 := e49 _ _ hg
    have h89 := e9 _ _ h8
    have hnqg : nq ≠ g := fun z => by
      rw [z, (e4.trans e47) _ _ hg] at hnq
      cases hnq
    have hkn : ks.length = (if cn = 1 then 0 else if 7 ≤ cn ∧ cn ≤ 11 then 2 else 1) := by rw [hksl]; exact num_if cn hc13
    -- what is left to do at the body's end
    have fin : ∀ (p' : Nat) (G G' : Hp), l.drop p' = t → p < p' → p' ≤ l.length → ExtN H G → ExtN (minus G [S, g]) G' → Tabs (tabsOf K) G' → SlW K (stepSl cn (slotsOf st) ks tx).1 S (minus G' [g]) → G' g = some (.lst ((out ++ (((encode (stepSl cn (slotsOf st) ks tx).2).length : Nat) : Int) :: encode (stepSl cn (slotsOf st) ks tx).2).map V.int)) → ∀ (x4 x5 x6 x7 x8 : Option V), ∃ m', m' < l.length - p ∧ ∃ (p : Nat) (s4 s5 s6 s7 s8 : Option V) (st : Vabldo.State) (out : List Int) (f : Nat) (cs : List (List (List Int))), [some (V.ref a), some (.ref S), some (.ref g), some (.int (p' : Int)), x4, x5, x6, x7, x8] = [some (V.ref a), some (.ref S), some (.ref g), some (.int (p : Int)), s4, s5, s6, s7, s8] ∧ ExtN H G' ∧ Tabs (tabsOf K) G' ∧ SlW K (slotsOf st) S (minus G' [g]) ∧ G' g = some (.lst (out.map V.int)) ∧ p ≤ l.length ∧ m' = l.length - p ∧ PyFlat.calls PyVabldo.shape f (l.drop p) = some cs ∧ (∀ c ∈ cs, VabldoNeutral.asked1 (PyVabldo.whole c) = true) ∧ out ++ PyFlat.told (PyFlat.played VabldoNeutral.step st (cs.map PyVabldo.whole)) = PyVabldo.answers l := by
      intro p' G G' ht hpp hpl eG eG' hTG hSG hgG x4 x5 x6 x7 x8
      rw [hst] at hSG hgG
      refine ⟨l.length - p', by omega, p', x4, x5, x6, x7, x8, (Vabldo.step st call).1, out ++ (((encode (Vabldo.step st call).2).length : Nat) : Int) :: encode (Vabldo.step st call).2, f', cs', rfl, fun b o hb hn => eG' b o (minus_get (eG b o hb hn) fun z => ?_) hn, hTG, hSG, hgG, hpl, rfl, by rw [ht]; exact hcs', fun c hc => hon c (List.mem_cons_of_mem _ hc), ?_⟩
      · rcases List.mem_cons.mp z with z | z
        · rw [z, hS0] at hb
          cases hb
        · rw [List.mem_singleton.mp z, hg00] at hb
          cases hb
      · rw [← hout2, List.append_assoc]
        rfl
    have hHT : Ev (tOp (rIxT K) (tC (.ref (He.ga K "HAS_TEXT"))) (tVar 4)) [some (V.ref a), some (V.ref S), some (V.ref g), some (V.int ((p + 1 + numN cn : Nat) : Int)), some (V.int (cn : Int)), some (V.int ((p + 1 : Nat) : Int)), some (V.ref nq), some (V.ref b0), s8] H9 (.bl (hasT cn)) := ev_op ev_c (ev_var rfl) (rv_ixT (T.t_HAS_TEXT _) (atI_nat (has_at cn hc13)))
    refine q_when (b := hasT cn) (et_B hHT) (fun hh H10 e10 => ?_) (fun hh H10 e10 => ?_)
    · rcases hway with ⟨h0, _⟩ | ⟨_, m, hm, hml, htxe, ht⟩
      · rw [h0] at hh
        cases hh
      · have hlm : l[p + 1 + numN cn]? = some (m : Int) := by
          rw [List.getElem?_drop] at hm
          exact hm
        have hSq10 := ex_l e10 hSq9
        refine q_asg (ev_addN (b := 1) (ev_var rfl) ev_c) fun H11 e11 => ?_
        refine q_asg (ev_addN (b := m) (ev_var rfl) (ev_op (ev_var rfl) (ev_var rfl) (rv_ixL (ex_l e11 hSq10) (atI_nat (int_at hlm))))) fun H12 e12 => ?_
        have e912 := (e10.trans e11).trans e12
        have hSq12 := ex_l e912 hSq9
        have htc : cutV (l.map V.int) (some ((p + 1 + numN cn + 1 : Nat) : Int)) (some ((p + 1 + numN cn + 1 + m : Nat) : Int)) = tv tx := by
          rw [cut_mid _ _ _ (by omega) (by rw [List.length_map]; omega), Nat.add_sub_cancel_left, ← List.map_drop, ← List.map_take]
          rw [List.drop_drop] at htxe
          have e0 : p + 1 + (numN cn + 1) = p + 1 + numN cn + 1 := by omega
          rw [e0] at htxe
          rw [htxe, List.map_map]
          rfl
        have hEL2 := el_sl (K := K) (te := tVar 0) (σ := [some (V.ref a), some (V.ref S), some (V.ref g), some (V.int ((p + 1 + numN cn + 1 + m : Nat) : Int)), some (V.int (cn : Int)), some (V.int ((p + 1 + numN cn + 1 : Nat) : Int)), some (V.ref nq), some (V.ref b0), s8]) (ev_var rfl) (eo_some (te := tVar 5) (ev_var rfl)) (eo_some (te := tVar 3) (ev_var rfl)) hSq12
        rw [htc] at hEL2
        refine s_asgP (ep_tuple hEL2) fun bt2 H13 e13 hbt2 => ?_
        obtain ⟨b2, rfl, hb2⟩ := hbt2
        have e913 := e912.trans e13
        exact rest_body (hSl9.mono (Ex.minus e913)) (e913 _ _ hg9) hgS (e913 _ _ h89) hnqg hkn hb2 htx (hT9.ext e913) hsz fun y G' eG' hTG hSG hgG => fin (p + 1 + numN cn + 1 + m) H13 G' (by rw [ht, List.drop_drop]; congr 1; omega) (by omega) (by omega) (LamX.ExtN.trans eN9 (exN e913)) eG' hTG hSG hgG _ _ _ _ _
    · rcases hway with ⟨_, htx0, ht⟩ | ⟨h0, _⟩
      · subst htx0
        exact rest_body (hSl9.mono (Ex.minus e10)) (e10 _ _ hg9) hgS (e10 _ _ h89) hnqg hkn (hb0.mono e10) htx (hT9.ext e10) hsz fun y G' eG' hTG hSG hgG => fin (p + 1 + numN cn) H10 G' (by rw [ht, List.drop_drop]) (by omega) (by omega) (LamX.ExtN.trans eN9 (exN e10)) eG' hTG hSG hgG _ _ _ _ _
      · rw [h0] at hh
        cases hh
  · have hge := of_decide_eq_false hb
    have hpe : p = l.length := by omega
    rw [hpe, List.drop_length] at hcs
    have e0 := calls_nil hcs
    subst e0
    have e9 : out = PyVabldo.answers l := by
      rw [← hout]
      exact (List.append_nil out).symm
    refine s_ret (ev_var rfl) fun H5 e5 => k _ H5 ?_
    rw [← e9]
    exact (e4.trans e5) _ _ hg
end
end Bl

-- part W40
set_option Elab.async false
set_option linter.all false
set_option maxRecDepth 100000
set_option maxHeartbeats 4000000
namespace Bl
open PySem PySem.Spec PyProof.Rows L2 Evl
open PySem.W (WData WellAll ReadsW OpenSpec Codec WalkOS)
open LamX (TabB)
/-! ### the end of a row whose program has a table of code objects -/
theorem spec_callT {P : Program} {w : World} {K : PySem.W.Frag} {mg mb : Str → Option Value} {CX : CXT} {k : Nat} {fa : Addr} {x : Str} {sp : Sp} {s₁ : Shared} {vals : List Value} {ns : List Int} {R : PySem.W.WRecords} {cl : Str → Option Addr} {d0 : WData} {c T : Addr}
    (KX : K.In s₁.heap) (hns : s₁.heap.Ns mainGlobals mg) (hb : s₁.heap.Ns builtinsNs mb) (hbb : ∀ x : Str, x ≠ "__name__" → mb x = bootBuiltins x) (hlim : s₁.heap.NoLimit) (hg : s₁.gens = #[])
    (hT : s₁.heap.get? T = some { cls := .none, data := .fields #[] }) (nT : K.lookup T = none) (C : PySem.W.CodeHd s₁.heap c T)
    (hbm : ∃ (bm : Addr) (ob : Obj), mg "__builtins__" = some (.ref bm) ∧ bm ≠ builtinsNs ∧ s₁.heap.get? bm = some ob ∧ ob.cls = .type "module" ∧ ob.dict = some builtinsNs ∧ ob.data = .plain)
    (hwl : WellAll w.params s₁.heap vals [.list (ns.map WData.int)]) (hpl : plWs [.list (ns.map WData.int)] = true) (hwt : ∀ d ∈ [WData.list (ns.map WData.int)], d.weight ≤ 1048576) (hr : Room k callerA)
    (F : ∀ base : Heap, K.In base → base.Ns mainGlobals mg → TabB base mg c T → ∃ fd, FnOk P w K mg base CX k fa fd [x] sp ∧ Binds K fd [x] [])
    (hsp : ∀ (H : Hp) (a : Addr), H T = some (.tbl #[]) → SqL K H a (ns.map V.int) → sp [.ref a] H (fun v H' => Dw K H' v d0) fun _ _ _ => False)
    (hCX : ∀ H e s', CX [] H s₁ (fun _ _ _ => False) e s' → False) :
    codeAny (model P w) callerA (.call (.ref fa) ⟨vals, []⟩) (fun r s' => ∃ u as, r = .ok (.ret u) ∧ ReadsW R cl s'.heap u d0 as ∧ OldK s₁.heap s'.heap ∧ s'.os = s₁.os ∧ AllBare s'.gens) s₁ := by
  obtain ⟨A, ho, ar⟩ := area_all _ vals hwl hpl hwt
  have hS0 := dw_all KX ar _ vals hwl hpl ho
  have hV := vals_toV ho
  have hT0 : argH K s₁.heap A T = none := by
    cases q : argH K s₁.heap A T with
    | none => rfl
    | some u =>
      obtain ⟨_, vs, _, _, ⟨e2, _⟩ | ⟨e2, _⟩⟩ := argH_is ar q
      · rw [hT] at e2
        have := congrArg Obj.data (Option.some.inj e2)
        cases this
      · rw [hT] at e2
        have := congrArg Obj.data (Option.some.inj e2)
        cases this
  -- the abstract heap: the arguments, and the table
  obtain ⟨H, hH⟩ : ∃ H : Hp, H = fun b => if b = T then some (.tbl #[]) else argH K s₁.heap A b := ⟨_, rfl⟩
  have hHT : H T = some (.tbl #[]) := by rw [hH]; exact if_pos rfl
  have hHn : ∀ b, b ≠ T → H b = argH K s₁.heap A b := fun b n => by rw [hH]; exact if_neg n
  have exH : Ex (argH K s₁.heap A) H := fun b o e => by
    have : b ≠ T := fun z => by rw [z, hT0] at e; cases e
    rw [hHn b this]
    exact e
  have hO : ∀ b, H b = none ∨ b = T ∨ ∃ o u, H b = some (.frz o u) := fun b => by
    by_cases e : b = T
    · exact Or.inr (Or.inl e)
    · rw [hHn b e]
      rcases argH_only ar b with z | z
      · exact Or.inl z
      · exact Or.inr (Or.inr z)
  have hok : HOk P w H s₁.heap := fun b u q => by
    by_cases e : b = T
    · rw [e, hHT] at q
      cases q
      rw [e]
      exact hT
    · rw [hHn b e] at q
      obtain ⟨_, vs, h1, h2, ⟨e, rfl⟩ | ⟨e, rfl⟩⟩ := argH_is ar q
      · exact ⟨e, by rw [List.length_map]; exact h1, vs, _, vals_toV h2, e⟩
      · exact ⟨e, by rw [List.length_map]; exact h1, vs, vals_toV h2, _, e, rfl, _, rfl⟩
  have hK : ∀ b u, H b = some u → K.lookup b = none := fun b u q => by
    by_cases e : b = T
    · rw [e]
      exact nT
    · rw [hHn b e] at q
      exact (argH_is ar q).1
  have noD : ∀ {b : Addr} {o : Obj}, s₁.heap.get? b = some o → (∀ vs n, o.data ≠ .seq vs n) → o.data ≠ .fields #[] → H b = none := fun {b o} e h1 h2 => by
    cases q : H b with
    | none => rfl
    | some u =>
      by_cases eT : b = T
      · rw [eT, hT] at e
        cases e
        exact (h2 rfl).elim
      · rw [hHn b eT] at q
        obtain ⟨_, vs, _, _, ⟨e2, _⟩ | ⟨e2, _⟩⟩ := argH_is ar q
        · rw [e2] at e
          cases e
          exact (h1 _ _ rfl).elim
        · rw [e2] at e
          cases e
          exact (h1 _ _ rfl).elim
  have noA : ∀ {b : Addr} {o : Obj} {es : Array DictEntry} {ep : Nat}, s₁.heap.get? b = some o → o.data = .dict es ep → H b = none := fun {b o es ep} e d => by
    refine noD e (fun vs n z => ?_) fun z => ?_
    · rw [d] at z
      cases z
    · rw [d] at z
      cases z
  have base_of : ∀ {b : Addr} {o : Obj}, s₁.heap.get? b = some o → H b = none → (hidT s₁.heap H).get? b = some o := fun e n => hidT_get e n
  have nsK : ∀ {b : Addr} {m : Str → Option Value}, s₁.heap.Ns b m → (hidT s₁.heap H).Ns b m := fun {b m} ⟨o, es, ep, e, d, r⟩ => ⟨o, es, ep, base_of e (noA e d), d, r⟩
  have nK : ∀ b o, K.lookup b = some o → H b = none := fun b o e => by
    cases q : H b with
    | none => rfl
    | some u =>
      rw [hK b u q] at e
      cases e
  have hKb : K.In (hidT s₁.heap H) := fun b o e => base_of (KX b o e) (nK b o e)
  have hM : Mod K mg (hidT s₁.heap H) := ⟨hKb, nsK hns, ⟨mb, nsK hb, hbb⟩, let ⟨mc, h1, h2⟩ := hlim; ⟨mc, nsK h1, h2⟩⟩
  have TB : TabB (hidT s₁.heap H) mg c T := by
    refine ⟨?_, ?_, fun z => ?_⟩
    · obtain ⟨o, us, file, tf, flags, tg, inF, text, tt, e1, r1, r2, r3, r4, r5, r6, r7, r8, hne⟩ := C
      refine ⟨o, us, file, tf, flags, tg, inF, text, tt, base_of e1 (noD e1 (fun vs n z => ?_) fun z => ?_), r1, r2, r3, r4, r5, r6, r7, r8, hne⟩
      · rw [r2] at z
        cases z
      · rw [r2] at z
        cases z
        simp at r3
    · obtain ⟨bm, ob, b1, b2, b3, b4, b5, b6⟩ := hbm
      have nG : bm ≠ mainGlobals := fun q => by
        obtain ⟨o, es, ep, e, hd, _⟩ := hns
        rw [q, e] at b3
        cases b3
        rw [hd] at b6
        cases b6
      have nP : bm ≠ T := fun q => by
        rw [q, hT] at b3
        cases b3
        cases b6
      refine ⟨bm, ob, b1, b2, nG, nP, base_of b3 (noD b3 (fun vs n z => ?_) fun z => ?_), b4, b5, b6⟩
      · rw [b6] at z
        cases z
      · rw [b6] at z
        cases z
    · obtain ⟨o, es, ep, e, hd, _⟩ := hns
      rw [z, hT] at e
      cases e
      cases hd
  have e0 : Env0 P w K mg (hidT s₁.heap H) callerA [] s₁ H := ⟨rfl, hM, fun b o e => of_hidT e, Nat.le_of_eq (hidT_size _ _), trivial, fun b hb => absurd (show b ∈ ([] : List Addr) from hb) (by simp), hok, .of_eq hg⟩
  have hl : vals.length = 1 := by rw [wellAll_len hwl]; rfl
  -- the one argument
  obtain ⟨a, hva, hSa⟩ : ∃ a, vals.map toV = [.ref a] ∧ SqL K H a (ns.map V.int) := by
    generalize vals.map toV = xs at hS0
    cases hS0 with
    | cons h1 h2 =>
      cases h2
      cases h1 with
      | lst g1 g2 =>
        rw [ints_dw ns _ g2] at g1
        exact ⟨_, rfl, ex_l exH g1⟩
  obtain ⟨fd, hF, hB⟩ := F _ hKb (nsK hns) TB
  have hbind : BindsTo s₁ fd ⟨vals, []⟩ ([x].zip vals) := by
    have := hB s₁ vals KX (by rw [List.append_nil]; exact hl)
    rw [List.append_nil] at this
    exact this
  refine codeAny_mono (hF.run callerA [] s₁ H ⟨vals, []⟩ vals (vals.map toV) _ _ hr e0 hbind hV (by rw [hva]; exact hsp H a hHT hSa)) fun r s' y => ?_
  cases r with
  | error e => exact (hCX H e s' y).elim
  | ok fl =>
    cases fl with
    | next => exact False.elim y
    | brk => exact False.elim y
    | cont => exact False.elim y
    | ret u =>
      obtain ⟨v, H', os, bare, un, hok', r', q⟩ := y
      have key : ∀ b o, b ≠ T → s₁.heap.get? b = some o → s'.heap.get? b = some o := fun b o nb e => by
        cases q2 : H b with
        | none => exact un.keep b o e q2 (by intro z; exact absurd (show b ∈ ([] : List Addr) from z) (by simp)) (by simp)
        | some u2 =>
          rcases hO b with z | z | ⟨ob, u3, z⟩
          · rw [q2] at z
            cases z
          · exact absurd z nb
          · have z2 := un.frzs b ob _ z
            obtain ⟨e1, _⟩ := hok b _ z
            obtain ⟨e2, _⟩ := hok' b _ z2
            rw [e] at e1
            cases e1
            exact e2
      obtain ⟨more, hmore⟩ : ∃ more : Array Value, s'.heap.get? T = some { cls := .none, data := .fields more } := by
        obtain ⟨more, z⟩ := un.tbls T #[] hHT
        exact ⟨_, hok' T _ z⟩
      have KX' : K.In s'.heap := fun b o e => key b o (fun z => by rw [z, nT] at e; cases e) (KX b o e)
      obtain ⟨as, hrd⟩ := Dw.reads (R := R) (cl := cl) hok' KX' d0 v u q r'
      refine ⟨u, as, rfl, hrd, ⟨fun b o e => ?_, fun b o e => ?_⟩, os, bare⟩
      · by_cases hbT : b = T
        · rw [hbT] at e ⊢
          rw [hT] at e
          cases e
          exact .inr (.inl ⟨(C.tab hT).isCodeTable, rfl, #[], more, rfl, by rw [Array.empty_append]; exact hmore⟩)
        · exact .inl (key b o hbT e)
      · by_cases hbT : b = T
        · rw [hbT]
          exact ⟨_, hmore⟩
        · exact ⟨o, key b o hbT e⟩
end Bl

-- part W41
set_option Elab.async false
set_option linter.all false
set_option maxRecDepth 100000
set_option maxHeartbeats 8000000
namespace Bl
open PySem PySem.Spec PyProof.Rows L2 Evl
open PySem.W (WData WellAll ReadsW OpenSpec Codec WalkOS)
open LamX (TabB)
/-! ### all defs together -/
theorem has_answers {w : World} {K : PySem.W.Frag} {mg : Str → Option Value} {base : Heap} (T : Txt w K mg) (TB : TabB base mg (He.cT K ("sorted_records", none)).1 (He.cT K ("sorted_records", none)).2) : Has P0 w K mg base "answers" 10 ["calls"] (sp_answers K) := by
  have h_Reading := ok_Reading (base := base) T
  have h_is_blank := ok_is_blank (base := base) T
  have h_skip_blanks := ok_skip_blanks (base := base) T h_is_blank
  have h_is_letter := ok_is_letter (base := base) T
  have h_begins_word := ok_begins_word (base := base) T h_is_letter
  have h_is_digit := ok_is_digit (base := base) T
  have h_continues_word := ok_continues_word (base := base) T h_begins_word h_is_digit
  have h_word_end := ok_word_end (base := base) T h_continues_word
  have h_number_end := ok_number_end (base := base) T h_is_digit
  have h_token_end := ok_token_end (base := base) T h_begins_word h_word_end h_is_digit h_number_end
  have h_Token := ok_Token (base := base) T
  have h_codes := ok_codes (base := base) T
  have h_word_kind := ok_word_kind (base := base) T h_codes
  have h_token_kind := ok_token_kind (base := base) T h_is_digit h_codes h_word_kind
  have h_scan := ok_scan (base := base) T h_skip_blanks h_token_end h_Token h_token_kind
  have h_misplaced := ok_misplaced (base := base) T
  have h_Record := ok_Record (base := base) T
  have h_number_of := ok_number_of (base := base) T
  have h_File := ok_File (base := base) T
  have h_fill := ok_fill (base := base) T h_number_of h_File
  have h_Log := ok_Log (base := base) T
  have h_build := ok_build (base := base) T h_Record h_number_of h_fill h_Log
  have h_record_above_limits := ok_record_above_limits (base := base) T
  have h_above_limits := ok_above_limits (base := base) T h_record_above_limits
  have h_read_log := ok_read_log (base := base) T h_Reading h_scan h_misplaced h_build h_above_limits
  have h_answer_where := ok_answer_where (base := base) T h_read_log
  have h_is_slot := ok_is_slot (base := base) T
  have h_answer_read := ok_answer_read (base := base) T h_is_slot h_read_log
  have h_outputs_of := ok_outputs_of (base := base) T
  have h_numbers_of := ok_numbers_of (base := base) T
  have h_record_fault := ok_record_fault (base := base) T h_outputs_of h_numbers_of
  have h_first_fault := ok_first_fault (base := base) T h_record_fault
  have h_is_sound := ok_is_sound (base := base) T h_first_fault
  have h_logs_refusal := ok_logs_refusal (base := base) T h_is_slot h_is_sound
  have h_is_name := ok_is_name (base := base) T h_begins_word h_continues_word h_word_kind
  have h_find_record := ok_find_record (base := base) T
  have h_answer_drop := ok_answer_drop (base := base) T h_is_name h_find_record h_Log
  have h_Difference := ok_Difference (base := base) T
  have h_names_of := ok_names_of (base := base) T
  have h_is_defined_alike := ok_is_defined_alike (base := base) T h_names_of
  have h_changed_names := ok_changed_names (base := base) T
  have h_compare_records := ok_compare_records (base := base) T h_is_defined_alike h_Difference h_changed_names
  have h_compare_with_second := ok_compare_with_second (base := base) T h_find_record h_Difference h_compare_records
  have h_find_differences := ok_find_differences (base := base) T h_compare_with_second h_find_record h_Difference
  have h_counted_lines := ok_counted_lines (base := base) T
  have h_answer_unlike := ok_answer_unlike (base := base) T h_codes h_counted_lines
  have h_answer_first := ok_answer_first (base := base) T
  have h_find_maker := ok_find_maker (base := base) T
  have h_difference_named := ok_difference_named (base := base) T
  have h_unlike_maker := ok_unlike_maker (base := base) T h_find_maker h_difference_named
  have h_is_root := ok_is_root (base := base) T h_unlike_maker
  have h_root_names := ok_root_names (base := base) T h_is_root
  have h_next_cause := ok_next_cause (base := base) T h_unlike_maker
  have h_chain_names := ok_chain_names (base := base) T h_next_cause
  have h_answer_why := ok_answer_why (base := base) T h_is_name h_find_record h_difference_named h_chain_names h_counted_lines
  have h_answer_steady := ok_answer_steady (base := base) T
  have h_answer_of_pair := ok_answer_of_pair (base := base) T h_find_differences h_answer_unlike h_answer_first h_root_names h_counted_lines h_answer_why h_answer_steady
  have h_word_row := ok_word_row (base := base) T h_codes
  have h_file_row := ok_file_row (base := base) T h_codes
  have h_record_rows := ok_record_rows (base := base) T h_codes h_word_row h_file_row
  have h_plain_text := ok_plain_text (base := base) T h_record_rows h_codes
  have h_answer_plain := ok_answer_plain (base := base) T h_plain_text
  have h_sources_among := ok_sources_among (base := base) T h_find_maker
  have h_count_sources := ok_count_sources (base := base) T h_sources_among
  have h_answer_stats := ok_answer_stats (base := base) T h_count_sources
  have h_makers_of_inputs := ok_makers_of_inputs (base := base) T h_find_maker
  have h_is_ready := ok_is_ready (base := base) T h_makers_of_inputs
  have h_sorted_records := ok_sorted_records (base := base) T TB h_is_ready
  have h_answer_sorted := ok_answer_sorted (base := base) T h_sorted_records h_Log h_plain_text
  have h_find_file := ok_find_file (base := base) T
  have h_file_refusal := ok_file_refusal (base := base) T h_is_name h_find_file
  have h_answer_made := ok_answer_made (base := base) T h_find_file h_find_maker
  have h_sources_below := ok_sources_below (base := base) T h_find_maker h_sources_among
  have h_answer_rests := ok_answer_rests (base := base) T h_sources_below h_counted_lines
  have h_answer_of_file := ok_answer_of_file (base := base) T h_file_refusal h_answer_made h_answer_rests
  have h_answer_of_log := ok_answer_of_log (base := base) T h_answer_plain h_first_fault h_answer_stats h_answer_sorted h_answer_of_file
  have h_answer := ok_answer (base := base) T h_answer_where h_answer_read h_logs_refusal h_answer_drop h_answer_of_pair h_answer_of_log
  have h_answers := ok_answers (base := base) T h_answer
  exact h_answers
def posOf (s : Stmt) : Pos := match s with
  | .FunctionDef _ _ _ _ _ _ _ _ _ pos => pos
  | _ => ⟨0, 0, 0, 0⟩
def drA : PySem.DefRec := ⟨"answers", L2.defArgs s_answers, L2.defBody s_answers, L2.defScope s_answers, posOf s_answers⟩
theorem room_caller : Room 10 callerA := ⟨rfl, by decide +kernel, by decide +kernel⟩
theorem said0 : R0.wellSaid = true := by
  unfold PySem.W.OpenSpec.wellSaid PySem.W.looksOpen
  refine Bool.and_eq_true_iff.mpr ⟨Bool.and_eq_true_iff.mpr ⟨Bool.and_eq_true_iff.mpr ⟨Bool.and_eq_true_iff.mpr ⟨Bool.and_eq_true_iff.mpr ⟨Bool.and_eq_true_iff.mpr ⟨Bool.and_eq_true_iff.mpr ⟨Bool.and_eq_true_iff.mpr ⟨Bool.and_eq_true_iff.mpr ⟨Bool.and_eq_true_iff.mpr ⟨?_, ?_⟩, ?_⟩, ?_⟩, ?_⟩, ?_⟩, ?_⟩, ?_⟩, ?_⟩, ?_⟩, ?_⟩
  all_goals decide +kernel
theorem walkA : WalkOS q0 loose0 (PySem.W.XL q0 []) hookB.says R0 drA [] fun g us => PySem.call g us := by
  intro w s₀ s₁ mg mb G Y fa o pm cd doc dV kV ho hd hcd hD hmg hg args vals as hpre hlay hrd hwl hlo
  obtain ⟨a, e1, e2⟩ := PySem.W.os_pre_some hpre
  obtain ⟨e3, hwi⟩ := Codec.encAll_of_decAll R0.args args a e1
  subst e3
  obtain ⟨K, KX, hobs, hTab⟩ := Y
  have T : Txt w K mg := txt_of KX G.T.g hobs
  have hfa : fa = He.ga K "answers" := by
    have h1 : mg "answers" = some (.ref fa) := hmg
    rw [T.g_answers] at h1
    cases h1
    rfl
  subst hfa
  obtain ⟨l, u⟩ := a
  have hlen : l.length ≤ 17000 := by
    have h1 : (Codec.inList 0 17000 _ l && _) = true := hwi
    have h2 := (Bool.and_eq_true_iff.mp h1).1
    have h3 : (Codec.inNat 0 17000 l.length && _) = true := h2
    have h4 := (Bool.and_eq_true_iff.mp h3).1
    unfold Codec.inNat at h4
    simp only [Bool.and_eq_true, decide_eq_true_eq] at h4
    omega
  have hask : PyVabldo.answers_asked l = true := e2
  have hm : (("sorted_records", none) : He.Defn) ∈ tfB := List.mem_singleton.mpr rfl
  refine PySem.W.enter_call (codeAny_mono (spec_callT (R := []) (cl := classAt s₀.heap) (ns := l) (x := "calls") (sp := sp_answers K) (CX := CX0) (d0 := .list ((PyVabldo.answers l).map WData.int)) KX G.T.g G.T.b G.T.builtins G.T.nolimit hg (hTab.empty _ hm) (hTab.out _ hm) (PySem.W.codeHd_of_K KX (hTab.hd _ hm)) G.T.bmain hwl (pl_encAll R0.args (l, u)) (layable_weight hlay) room_caller (fun base _ _ TB => (has_answers T TB).ex) (fun H a hHT hS => ⟨a, l, rfl, hS, hlen, hask, fun p hp => ?_, fun p H' h => .lst (sq_of h) (dw_ints _)⟩) (fun H e s' z => z.elim)) fun r' s' hq => ?_)
  · rw [List.mem_singleton.mp hp]
    exact LamX.TabS.nil hHT
  · obtain ⟨v, as', rfl, h1, h2, h3, h4⟩ := hq
    exact ⟨.inl ⟨v, _, as', rfl, fun _ => rfl, h1, (OpenSpec.post_iff said0 hwi _ _).mpr rfl, fun z => Bool.noConfusion (show false = true from z)⟩, h2, h3, h4⟩
end Bl

-- part W42
set_option Elab.async false
set_option linter.all false
set_option maxRecDepth 100000
set_option maxHeartbeats 8000000
noncomputable section
namespace Bl
open PySem PySem.W PySem.Calls PyProof.Rows HandSHeadRun Hd
/-! ### the statement -/
theorem opens0 : opening R0.prog = plainProg R0.prog.main.scope.names := by kernel_rfl
theorem def0 : defOf q0 R0.name = some (drA, []) := by kernel_rfl
theorem the0 : R0.prog.theDef R0.name = some (drA.params, drA.body, drA.scope) := by kernel_rfl
theorem kw0 : kwWritten? drA.params.kwonlyargs drA.params.kw_defaults = some [] := by kernel_rfl
theorem ok0 : (chainsOk q0 && opensWell R0.prog) = true := by decide +kernel
theorem bare0 : R0.prog.bare := ⟨rfl, rfl, rfl, rfl, rfl, by decide +kernel⟩
theorem some0 : ∃ args, R0.pre args = true ∧ WData.layableAll args = true := ⟨[.list [.int 2, .int 0]], by decide +kernel, by decide +kernel⟩
theorem holds0 : R0.Holds := Hd.holds_parts (H := hookB) (q := q0) (loose := loose0) (x := xP) obT_eq opens0 (fun _ => rfl) body_eq xP_ok in_body etp eta etb run1 def0 the0 kw0 os_shapes said0 ok0 bare0 some0 walkA
end Bl
theorem PySem.Challenge.cw_buildlogs_s01_answers_holds : PySem.Challenge.rw_buildlogs_s01_answers.Holds := by
  exact Bl.holds0
#print axioms PySem.Challenge.cw_buildlogs_s01_answers_holds
end
